import PyProof.Rows.All
import Wide.All
import OpenK.AllK
import Wide.FinOn
import Lean
import PyProof.EqAt
import PyProof.EqKinds
import PyProof.TupleCall
import PyProof.NeKinds
import KE.IntBitsLaws
import KE.KDictList
import KE.KRevIter
import KE.KSortTup
import KE.KDictSum
import PyProof.EnumMake
import PyProof.EnumFor
import PyProof.LayNew
import PyProof.Rows.EnumRows
import PyProof.SumAny
import PyProof.ListRange
import PyProof.FString5
import PyProof.CollectIter
import PyProof.TupleOfSeq
import PyProof.Rows.Tup
import OpenK.KRaise
import PyProof.StationsW
import KE.KTryMore
import PyProof.NsDelKeeps
import KE.KEqDict
import PyProof.ExcArgs
import PyProof.Draws
import PyProof.ZipIter
import PyProof.Rows.ZipGen
import PyProof.DictWalks
import PyProof.Conv_int_bool
import PyProof.Rows.SeqMore
import PySem.Challenge.RW_endwise_k12_none_told
set_option Elab.async false
set_option linter.all false
set_option maxRecDepth 100000
namespace L2
open PySem PySem.Spec PyProof.Rows

abbrev Key := Sum Int Str
def keyIs : Key → Value → Bool
  | .inl k, v => Value.isInt k v
  | .inr x, v => Value.isStrOf x v
def keyH (w : World) : Key → Int
  | .inl k => hashInt k
  | .inr x => hashStr w x
theorem keyIs_shape : ∀ {k : Key} {v : Value}, keyIs k v = true → (∃ i t, k = Sum.inl i ∧ v = Value.int i t) ∨ (∃ x t, k = Sum.inr x ∧ v = Value.str x t)
  | .inl i, v, h => by
    obtain ⟨t, e⟩ := Value.isInt_shape (k := i) (v := v) h
    exact .inl ⟨i, t, rfl, e⟩
  | .inr x, v, h => by
    obtain ⟨t, e⟩ := Value.isStrOf_shape (x := x) (v := v) h
    exact .inr ⟨x, t, rfl, e⟩
theorem keyIs_int (i : Int) (t : Tok) : keyIs (.inl i) (.int i t) = true := by simp [keyIs, Value.isInt]
theorem keyIs_str (x : Str) (t : Tok) : keyIs (.inr x) (.str x t) = true := by simp [keyIs, Value.isStrOf]
theorem key_ll (a b : Int) : decide ((Sum.inl a : Key) = Sum.inl b) = (a == b) := by
  by_cases e : a = b
  · subst e; simp
  · have h : ¬ (Sum.inl a : Key) = Sum.inl b := fun q => e (Sum.inl.inj q)
    rw [decide_eq_false h]
    exact (beq_eq_false_iff_ne.mpr e).symm
theorem key_rr (a b : Str) : decide ((Sum.inr a : Key) = Sum.inr b) = decide (a = b) := by
  by_cases e : a = b
  · subst e; simp
  · have h : ¬ (Sum.inr a : Key) = Sum.inr b := fun q => e (Sum.inr.inj q)
    rw [decide_eq_false h, decide_eq_false e]
theorem key_lr (a : Int) (b : Str) : decide ((Sum.inl a : Key) = Sum.inr b) = false := decide_eq_false (fun q => nomatch q)
theorem key_rl (a : Str) (b : Int) : decide ((Sum.inr a : Key) = Sum.inl b) = false := decide_eq_false (fun q => nomatch q)

def mixKind (prog : Program) (w : World) : PySem.KeyKind prog w Key where
  is := keyIs
  hash := keyH w
  inj := fun v a b ha hb => by
    rcases keyIs_shape ha with ⟨i, t, rfl, rfl⟩ | ⟨x, t, rfl, rfl⟩
    · rcases keyIs_shape hb with ⟨j, u, rfl, e⟩ | ⟨y, u, rfl, e⟩
      · injection e with e1 _; rw [e1]
      · exact nomatch e
    · rcases keyIs_shape hb with ⟨j, u, rfl, e⟩ | ⟨y, u, rfl, e⟩
      · exact nomatch e
      · injection e with e1 _; rw [e1]
  byValue := fun k v h => by
    rcases keyIs_shape h with ⟨i, t, rfl, rfl⟩ | ⟨x, t, rfl, rfl⟩ <;> rfl
  pyHash := fun hv h => by
    rcases keyIs_shape hv with ⟨i, t, rfl, rfl⟩ | ⟨x, t, rfl, rfl⟩
    · exact wpAny_pyHash_int h
    · exact wpAny_pyHash_str h
  eqBool := fun hu hv h => by
    rcases keyIs_shape hu with ⟨i, t, rfl, rfl⟩ | ⟨x, t, rfl, rfl⟩
    · rcases keyIs_shape hv with ⟨j, u, rfl, rfl⟩ | ⟨y, u, rfl, rfl⟩
      · rw [key_ll] at h; exact wpAny_eqBool_int h
      · rw [key_lr] at h; exact SeqAt.EqAt.int_str i t y u _ _ _ _ h
    · rcases keyIs_shape hv with ⟨j, u, rfl, rfl⟩ | ⟨y, u, rfl, rfl⟩
      · rw [key_rl] at h; exact SeqAt.EqAt.str_int x t j u _ _ _ _ h
      · rw [key_rr] at h; exact wpAny_eqBool_str h
  «strs» := fun k x t v h => by
    rcases keyIs_shape h with ⟨i, u, rfl, e⟩ | ⟨y, u, rfl, e⟩
    · exact nomatch e
    · injection e with e1 _
      subst e1
      cases v <;> rfl

theorem mixKind_int (prog : Program) (w : World) (i : Int) (t : Tok) : (mixKind prog w).is (.inl i) (.int i t) = true := keyIs_int i t
theorem mixKind_str (prog : Program) (w : World) (x : Str) (t : Tok) : (mixKind prog w).is (.inr x) (.str x t) = true := keyIs_str x t
end L2

namespace L2
open PySem PySem.Spec PyProof.Rows

inductive V where
  | non | bl (b : Bool) | int (i : Int) | str (x : Str) | byt (b : Array UInt8) | flt (b : UInt64) | ref (a : Addr) | ty (n : String)
  deriving DecidableEq

def RelV : V → Value → Prop
  | .non, u => u = Value.none
  | .bl b, u => u = Value.bool b
  | .int i, u => ∃ t, u = Value.int i t
  | .str x, u => ∃ t, u = Value.str x t
  | .byt b, u => ∃ t, u = Value.bytes b t
  | .flt b, u => ∃ t, u = Value.float b t
  | .ref a, u => u = Value.ref a
  | .ty n, u => u = Value.type n

abbrev Vals : List V → List Value → Prop := Paired RelV
theorem Vals.length {xs : List V} {us : List Value} (r : Vals xs us) : xs.length = us.length := Paired.length r
theorem Vals.get : ∀ {xs : List V} {us : List Value} {i : Nat} {x : V}, Vals xs us → xs[i]? = some x → ∃ u, us[i]? = some u ∧ RelV x u
  | _, _, _, _, .nil, e => by simp at e
  | _, _, 0, _, .cons r _, e => by simp at e; subst e; exact ⟨_, rfl, r⟩
  | _, _, i + 1, x, .cons _ t, e => by
    obtain ⟨u, h1, h2⟩ := Vals.get (i := i) (x := x) t (by simpa using e)
    exact ⟨u, by simpa using h1, h2⟩
theorem Vals.append : ∀ {xs ys : List V} {us ws : List Value}, Vals xs us → Vals ys ws → Vals (xs ++ ys) (us ++ ws)
  | _, _, _, _, .nil, s => s
  | _, _, _, _, .cons r t, s => .cons r (Vals.append t s)
theorem Vals.take : ∀ {xs : List V} {us : List Value} (n : Nat), Vals xs us → Vals (xs.take n) (us.take n)
  | _, _, 0, _ => .nil
  | _, _, _ + 1, .nil => .nil
  | _, _, n + 1, .cons r t => .cons r (Vals.take n t)
theorem Vals.drop : ∀ {xs : List V} {us : List Value} (n : Nat), Vals xs us → Vals (xs.drop n) (us.drop n)
  | _, _, 0, r => r
  | _, _, _ + 1, .nil => .nil
  | _, _, n + 1, .cons _ t => Vals.drop n t
def RelO : Option V → Option Value → Prop
  | some v, some u => RelV v u
  | none, none => True
  | _, _ => False
def KV {κ : Type} : List (κ × V) → List (κ × Value) → Prop := Paired fun (p : κ × V) (q : κ × Value) => p.1 = q.1 ∧ RelV p.2 q.2

def kV : Key → V
  | .inl i => .int i
  | .inr x => .str x

inductive HO where
  | lst (xs : List V)
  | tup (xs : List V)
  | dK (kvs : List (Key × V)) | dT (kvs : List (List Key × V))
  | set (S : Int → Bool) (n : Nat)
  | ins (C dx : Addr) (fs : List (Str × V))
  | own (x : Addr)
  | xd (fs : List (Str × V))
  | met (f x : Addr)
  | rng (lo hi : Int)
  | frz (o : Obj) (u : HO)
  | tbl (ps : Array Value)
  | ext (φ : Heap → Prop)

abbrev Hp := Addr → Option HO
def upd (H : Hp) (a : Addr) (o : HO) : Hp := fun b => if b = a then some o else H b
theorem upd_same {H : Hp} {a : Addr} {o : HO} : upd H a o a = some o := by unfold upd; rw [if_pos rfl]
theorem upd_ne {H : Hp} {a b : Addr} {o : HO} (h : b ≠ a) : upd H a o b = H b := by unfold upd; rw [if_neg h]
theorem ne_of {H : Hp} {a b : Addr} {o u : HO} (h : H a = some o) (h' : H b = some u) (d : o ≠ u) : a ≠ b := by
  intro e; subst e; rw [h] at h'; exact d (Option.some.inj h')
theorem ne_of_none {H : Hp} {a b : Addr} {o : HO} (h : H a = some o) (h' : H b = none) : a ≠ b := by
  intro e; subst e; rw [h] at h'; cases h'

section
variable (P : Program) (w : World)
def ObjOk (H : Hp) (h : Heap) (a : Addr) : HO → Prop
  | .lst xs => xs.length ≤ sizeLine ∧ ∃ (its : List Value) (n : Nat), Vals xs its ∧ h.get? a = some { cls := .type "list", data := .seq its.toArray n }
  | .tup xs => xs.length ≤ sizeLine ∧ ∃ its : List Value, Vals xs its ∧ IsTup h a its.toArray
  | .dK kvs => kvs.length ≤ sizeLine ∧ (a == sysModules) = false ∧ ∃ vs, KV kvs vs ∧ h.DictOf (mixKind P w) a vs
  | .dT kvs => kvs.length ≤ sizeLine ∧ (a == sysModules) = false ∧ ∃ xs : List (List Key × Addr × Value),
      Paired (fun (p : List Key × V) (q : List Key × Addr × Value) => p.1 = q.1 ∧ H q.2.1 = some (.tup (p.1.map kV)) ∧ RelV p.2 q.2.2) kvs xs ∧
      ∃ o es ep, h.get? a = some o ∧ o.ExactDict ∧ o.data = .dict es ep ∧ es.toList = xs.map (entryOfKey (tupleKind (mixKind P w))) ∧ (xs.map (·.1)).Nodup
  | .set S n => h.SetOf (intKind P w) a S n
  | .ins C dx fs => H dx = some (.own a) ∧ fs.length ≤ 1000 ∧ dx ≠ a ∧ h.get? a = some (PySem.W.instObj C dx) ∧
      ∃ mA, h.Ns1 dx mA ∧ (∀ f, RelO (fs.lookup f) (mA f)) ∧ PySem.Within mA (fs.map (·.1))
  | .own _ => ∃ o, h.get? a = some o
  | .xd fs => ∃ mA, h.Ns1 a mA ∧ ∀ f, RelO (fs.lookup f) (mA f)
  | .rng lo hi => ∃ t u v, h.get? a = some { cls := .type "range", data := .fields #[.int lo t, .int hi u, .int 1 v] }
  | .frz o u => h.get? a = some o ∧ ObjOk H h a u
  | .tbl ps => h.get? a = some { cls := .none, data := .fields ps }
  | .met f x => h.get? a = some (PySem.W.methodObj (.ref f) (.ref x))
  | .ext φ => φ h ∧ (∃ o, h.get? a = some o) ∧ ∀ h1 h2 : Heap, φ h1 → (∀ o, h1.get? a = some o → h2.get? a = some o) → φ h2
def HOk (H : Hp) (h : Heap) : Prop := ∀ a o, H a = some o → ObjOk P w H h a o
end

section
variable {P : Program} {w : World} {H H' : Hp} {h h' : Heap} {a : Addr} {o : HO}
theorem ObjOk.lt (x : ObjOk P w H h a o) : a < h.objs.size := by
  cases o with
  | lst xs => obtain ⟨_, _, _, _, e⟩ := x; exact Heap.lt_size e
  | tup xs => obtain ⟨_, _, _, p⟩ := x; exact p.lt
  | dK kvs => obtain ⟨_, _, _, _, o, _, _, e, _⟩ := x; exact Heap.lt_size e
  | dT kvs => obtain ⟨_, _, _, _, o, _, _, e, _⟩ := x; exact Heap.lt_size e
  | set S n => obtain ⟨o, _, _, _, e, _⟩ := x; exact Heap.lt_size e
  | ins C dx fs => obtain ⟨_, _, _, e, _⟩ := x; exact Heap.lt_size e
  | own y => obtain ⟨_, e⟩ := x; exact Heap.lt_size e
  | xd fs => obtain ⟨_, ⟨_, _, _, e, _⟩, _⟩ := x; exact Heap.lt_size e
  | rng lo hi => obtain ⟨_, _, _, e⟩ := x; exact Heap.lt_size e
  | frz ob u => obtain ⟨e, _⟩ := x; exact Heap.lt_size e
  | tbl ps => exact Heap.lt_size (show h.get? a = some _ from x)
  | met f y => exact Heap.lt_size (show h.get? a = some _ from x)
  | ext φ => obtain ⟨_, ⟨_, e⟩, _⟩ := x; exact Heap.lt_size e
theorem Paired.mapP {α β : Type} {F G : α → β → Prop} : ∀ {l₁ : List α} {l₂ : List β}, Paired F l₁ l₂ → (∀ a b, F a b → G a b) → Paired G l₁ l₂
  | _, _, .nil, _ => .nil
  | _, _, .cons r t, f => .cons (f _ _ r) (Paired.mapP t f)
theorem ObjOk.stay (x : ObjOk P w H h a o) (k : ∀ b u, (b = a ∨ H b = some (.own a)) → h.get? b = some u → h'.get? b = some u)
    (ho : ∀ b, H b = some (.own a) → H' b = some (.own a)) (ht : ∀ b xs, H b = some (.tup xs) → H' b = some (.tup xs)) : ObjOk P w H' h' a o := by
  induction o with
  | lst xs => obtain ⟨z, its, n, r, e⟩ := x; exact ⟨z, its, n, r, k _ _ (.inl rfl) e⟩
  | tup xs => obtain ⟨z, its, r, ob, e, c⟩ := x; exact ⟨z, its, r, ob, k _ _ (.inl rfl) e, c⟩
  | dK kvs => obtain ⟨z, y, vs, r, ob, es, ep, e, c⟩ := x; exact ⟨z, y, vs, r, ob, es, ep, k _ _ (.inl rfl) e, c⟩
  | dT kvs =>
    obtain ⟨z, y, xs, r, ob, es, ep, e, c⟩ := x
    exact ⟨z, y, xs, Paired.mapP r fun p q z => ⟨z.1, ht _ _ z.2.1, z.2.2⟩, ob, es, ep, k _ _ (.inl rfl) e, c⟩
  | set S n => obtain ⟨ob, es, ep, t, e, c⟩ := x; exact ⟨ob, es, ep, t, k _ _ (.inl rfl) e, c⟩
  | ins C dx fs =>
    obtain ⟨d, z, ne, e, mA, ⟨od, es, ep, e2, c⟩, r⟩ := x
    exact ⟨ho _ d, z, ne, k _ _ (.inl rfl) e, mA, ⟨od, es, ep, k _ _ (.inr d) e2, c⟩, r⟩
  | own y => obtain ⟨ob, e⟩ := x; exact ⟨ob, k _ _ (.inl rfl) e⟩
  | xd fs => obtain ⟨mA, ⟨od, es, ep, e, c⟩, r⟩ := x; exact ⟨mA, ⟨od, es, ep, k _ _ (.inl rfl) e, c⟩, r⟩
  | rng lo hi => obtain ⟨t, u, v, e⟩ := x; exact ⟨t, u, v, k _ _ (.inl rfl) e⟩
  | frz ob u ih => obtain ⟨e, q⟩ := x; exact ⟨k _ _ (.inl rfl) e, ih q⟩
  | tbl ps =>
    have e : h.get? a = some { cls := .none, data := .fields ps } := x
    show h'.get? a = some { cls := .none, data := .fields ps }
    exact k a _ (.inl rfl) e
  | met f y =>
    have e : h.get? a = some (PySem.W.methodObj (.ref f) (.ref y)) := x
    show h'.get? a = some (PySem.W.methodObj (.ref f) (.ref y))
    exact k a _ (.inl rfl) e
  | ext φ => obtain ⟨p, ⟨o, e⟩, st⟩ := x; exact ⟨st _ _ p fun o q => k _ _ (.inl rfl) q, ⟨o, k _ _ (.inl rfl) e⟩, st⟩
theorem HOk.lt (x : HOk P w H h) (e : H a = some o) : a < h.objs.size := (x a o e).lt
theorem HOk.fresh (x : HOk P w H h) (e : h.objs.size ≤ a) : H a = none := by
  cases q : H a with
  | none => rfl
  | some u => exact absurd (Nat.lt_of_lt_of_le (x.lt q) e) (Nat.lt_irrefl _)
theorem HOk.kept (x : HOk P w H h) (k : ∀ b u, h.get? b = some u → h'.get? b = some u) : HOk P w H h' := fun a o e =>
  (x a o e).stay (fun b u _ q => k b u q) (fun _ q => q) fun _ _ q => q
theorem HOk.laid (x : HOk P w H h) (k : ∀ b u, h.get? b = some u → h'.get? b = some u) (hp : h.objs.size ≤ a) (new : ObjOk P w (upd H a o) h' a o) : HOk P w (upd H a o) h' := fun b u e => by
  have hn := x.fresh hp
  by_cases hb : b = a
  · subst hb; rw [upd_same] at e; cases e; exact new
  · rw [upd_ne hb] at e
    exact (x b u e).stay (fun c v _ q => k c v q) (fun c q => by rw [upd_ne (ne_of_none q hn)]; exact q) fun c xs q => by rw [upd_ne (ne_of_none q hn)]; exact q
end

def Rd (H : Hp) (a : Addr) (u : HO) : Prop := H a = some u ∨ ∃ o, H a = some (.frz o u)
theorem Rd.of {H : Hp} {a : Addr} {u : HO} (h : H a = some u) : Rd H a u := .inl h
theorem Rd.ok {P : Program} {w : World} {H : Hp} {h : Heap} {a : Addr} {u : HO} (r : Rd H a u) (x : HOk P w H h) : ObjOk P w H h a u := by
  rcases r with r | ⟨o, r⟩
  · exact x a u r
  · obtain ⟨_, q⟩ := x a _ r
    exact q
def Mut : Option HO → Prop
  | some (.lst _) => True
  | some (.dK _) => True
  | some (.dT _) => True
  | some (.set _ _) => True
  | some (.ins _ _ _) => True
  | some (.ext _) => True
  | _ => False
section
variable {P : Program} {w : World} {H : Hp} {h h' : Heap} {x e : Addr} {o' : HO}
theorem HOk.write (ok : HOk P w H h) (mu : Mut (H x)) (he : e = x ∨ H e = some (.own x)) (k : ∀ b u, b ≠ e → h.get? b = some u → h'.get? b = some u) (heo : ∃ u, h'.get? e = some u)
    (new : ObjOk P w (upd H x o') h' x o') : HOk P w (upd H x o') h' := fun b u q => by
  have nown : ∀ c y, H c = some (.own y) → c ≠ x := fun c y r z => by subst z; rw [r] at mu; exact mu
  have ntup : ∀ c xs, H c = some (.tup xs) → c ≠ x := fun c xs r z => by subst z; rw [r] at mu; exact mu
  by_cases hb : b = x
  · subst hb; rw [upd_same] at q; cases q; exact new
  · rw [upd_ne hb] at q
    by_cases hbe : b = e
    · have q' : H b = some (.own x) := by
        rcases he with z | z
        · exact absurd (hbe.trans z) hb
        · rw [hbe]; exact z
      rw [q] at q'; cases q'
      obtain ⟨v, hv⟩ := heo
      exact ⟨v, by rw [hbe]; exact hv⟩
    · refine (ok b u q).stay (fun c v hc r => k c v ?_ r) (fun c r => by rw [upd_ne (nown c b r)]; exact r) fun c xs r => by rw [upd_ne (ntup c xs r)]; exact r
      rcases hc with rfl | hc
      · exact hbe
      · rintro rfl
        rcases he with z | z
        · exact nown c b hc z
        · rw [hc] at z; cases z; exact hb rfl
end

structure Un (fs ex : List Addr) (H H' : Hp) (h h' : Heap) : Prop where
  keep : ∀ b o, h.get? b = some o → H b = none → b ∉ fs → b ∉ ex → h'.get? b = some o
  slot : ∀ b o, h.get? b = some o → H b = none → b ∈ fs → b ∉ ex → ∃ sl, h'.get? b = some { o with slots := sl }
  free : ∀ b o, h.get? b = some o → H b = none → b ∉ ex → H' b = none
  there : ∀ b o, h.get? b = some o → b ∉ ex → ∃ o', h'.get? b = some o'
  tups : ∀ b xs, H b = some (.tup xs) → H' b = some (.tup xs)
  frzs : ∀ b o u, H b = some (.frz o u) → H' b = some (.frz o u)
  tbls : ∀ b ps, H b = some (.tbl ps) → ∃ more, H' b = some (.tbl (ps ++ more))
section
variable {fs fs' ex ex' : List Addr} {H H1 H2 : Hp} {h h1 h2 h' : Heap} {a x e : Addr} {o : HO}
theorem Un.any (u : Un fs ex H H1 h h1) {b : Addr} {ob : Obj} (q : h.get? b = some ob) (n : H b = none) (hx : b ∉ ex) : ∃ sl, h1.get? b = some { ob with slots := sl } := by
  by_cases hb : b ∈ fs
  · exact u.slot b ob q n hb hx
  · exact ⟨ob.slots, u.keep b ob q n hb hx⟩
theorem Un.kept (k : ∀ b u, h.get? b = some u → h'.get? b = some u) : Un fs ex H H h h' :=
  ⟨fun b ob q _ _ _ => k b ob q, fun b ob q _ _ _ => ⟨ob.slots, k b ob q⟩, fun _ _ _ n _ => n, fun b ob q _ => ⟨ob, k b ob q⟩, fun _ _ q => q, fun _ _ _ q => q, fun _ ps q => ⟨#[], by rw [q]; simp⟩⟩
theorem Un.refl : Un fs ex H H h h := Un.kept fun _ _ q => q
theorem Un.laid (k : ∀ b u, h.get? b = some u → h'.get? b = some u) (hp : h.objs.size ≤ a) (hn : H a = none) : Un fs ex H (upd H a o) h h' where
  keep := fun b u q _ _ _ => k b u q
  slot := fun b u q _ _ _ => ⟨u.slots, k b u q⟩
  free := fun b u q n _ => by rw [upd_ne (Nat.ne_of_lt (Nat.lt_of_lt_of_le (Heap.lt_size q) hp))]; exact n
  there := fun b u q _ => ⟨u, k b u q⟩
  tups := fun b xs q => by rw [upd_ne (ne_of_none q hn)]; exact q
  frzs := fun b u xs q => by rw [upd_ne (ne_of_none q hn)]; exact q
  tbls := fun b ps q => ⟨#[], by rw [upd_ne (ne_of_none q hn), q]; simp⟩
theorem Un.write (mu : Mut (H x)) (he : e = x ∨ H e = some (.own x)) (k : ∀ b u, b ≠ e → h.get? b = some u → h'.get? b = some u) (heo : ∃ u, h'.get? e = some u) : Un fs ex H (upd H x o) h h' := by
  have hx : ∀ b, H b = none → b ≠ x := fun b n z => by subst z; rw [n] at mu; exact mu
  have hb : ∀ b, H b = none → b ≠ e := fun b n z => by
    subst z
    rcases he with r | r
    · exact hx b n r
    · rw [n] at r; cases r
  have hm : ∀ b u, H b = some u → ¬ Mut (some u) → b ≠ x := fun b u q nm z => by subst z; rw [q] at mu; exact nm mu
  refine ⟨fun b u q n _ _ => k b u (hb b n) q, fun b u q n _ _ => ⟨u.slots, k b u (hb b n) q⟩, fun b u q n _ => by rw [upd_ne (hx b n)]; exact n, fun b u q _ => ?_,
    fun b xs q => by rw [upd_ne (hm b _ q fun z => z)]; exact q, fun b u xs q => by rw [upd_ne (hm b _ q fun z => z)]; exact q, fun b ps q => ⟨#[], by rw [upd_ne (hm b _ q fun z => z), q]; simp⟩⟩
  by_cases hbe : b = e
  · subst hbe; exact heo
  · exact ⟨u, k b u hbe q⟩
end

def trk (h : Heap) (H : Hp) : List Addr := (List.range h.objs.size).filter fun a => (H a).isSome
def hidT (h : Heap) (H : Hp) : Heap := PySem.W.hideAll h (trk h H)
theorem hidT_size (h : Heap) (H : Hp) : (hidT h H).objs.size = h.objs.size := PySem.W.hideAll_size _ _
theorem hidT_get {h : Heap} {H : Hp} {b : Addr} {o : Obj} (e : h.get? b = some o) (n : H b = none) : (hidT h H).get? b = some o :=
  PySem.W.hideAll_get _ e fun hm => by
    have q : (H b).isSome = true := (List.mem_filter.mp hm).2
    rw [n] at q; simp at q
theorem of_hidT {h : Heap} {H : Hp} {b : Addr} {o : Obj} (e : (hidT h H).get? b = some o) : h.get? b = some o ∧ H b = none := by
  have e' : h.get? b = some o := PySem.W.of_hideAll (trk h H) e
  refine ⟨e', ?_⟩
  cases q : H b with
  | none => rfl
  | some x =>
    have hm : b ∈ trk h H := List.mem_filter.mpr ⟨List.mem_range.mpr (Heap.lt_size e'), by simp [q]⟩
    have z : (hidT h H).get? b = none := PySem.W.hideAll_none (trk h H) hm
    rw [z] at e; cases e

def allNews (g h : Heap) (L : Addr) : List (Addr × Obj) := (List.range h.objs.size).filterMap fun a => if a = L ∨ (g.get? a).isSome = true then none else (h.get? a).map fun o => (a, o)
def rest (g h : Heap) (L d : Addr) : List (Addr × Obj) := (allNews g h L).filter fun p => decide (p.1 ≠ d)
end L2

namespace L2
open PySem PySem.Spec PyProof.Rows

structure Mod (K : PySem.W.Frag) (mg : Str → Option Value) (base : Heap) : Prop where
  kin : K.In base
  glob : base.Ns mainGlobals mg
  blt : ∃ mb, base.Ns builtinsNs mb ∧ ∀ x : Str, x ≠ "__name__" → mb x = bootBuiltins x
  nolimit : base.NoLimit

/-- the context: a def's body (or a comprehension's block) running. base: fixed through the whole law; s₀, H₀: the entry; outer: the frames whose slots others may change (a def's callers); stack: all frames that run;
   ex: iterators that were made ahead of the entry and are walked here (a comprehension's); fn: the names whose cells were made at the entry (a def: all; a comprehension's block: its own); calm: not within an except suite; pn: pins that every state bears; xe: what is wanted of an exception that leaves the code -/
structure Cx where
  prog : Program
  w : World
  K : PySem.W.Frag
  mg : Str → Option Value
  base : Heap
  A : Around
  N : List Str
  s₀ : Shared
  H₀ : Hp
  env : Env
  outer : List Env
  stack : List Env
  ex : List Addr
  fn : Str → Bool
  calm : Bool
  pn : List (Addr × Obj)
  xe : Value → Shared → Prop
def frs (l : List Env) : List Addr := l.filterMap (·.frame)
abbrev Cx.fs (X : Cx) : List Addr := frs X.outer

def Vis (sc : Scope) (x : Str) : Prop := sc.names.lookup x = some .local ∨ sc.names.lookup x = some .cell ∨ sc.names.lookup x = some .free
def Loc (sc : Scope) (x : Str) : Prop := sc.names.lookup x = some .local ∨ sc.names.lookup x = some .cell
def Look (env : Env) (h : Heap) (m : Str → Option Value) (x : Str) (u : Value) : Prop :=
  (env.kindOf x = some .local ∧ m x = some u) ∨ ((env.kindOf x = some .cell ∨ env.kindOf x = some .free) ∧ ∃ c, env.cells.lookup x = some c ∧ h.IsCell c (some u))

structure Cx.Ok (X : Cx) : Prop where
  mod : Mod X.K X.mg X.base
  kind : X.env.scope.kind = .function
  glob : X.env.globals = mainGlobals
  blt : X.env.builtins = builtinsNs
  above : X.s₀.heap.objs.size ≤ X.env.locals
  inj : ∀ x y c, X.env.cells.lookup x = some c → X.env.cells.lookup y = some c → x = y
  has : ∀ x, (X.env.kindOf x = some .cell ∨ X.env.kindOf x = some .free) → ∃ c, X.env.cells.lookup x = some c
  cab : ∀ x c, X.fn x = true → X.env.cells.lookup x = some c → X.s₀.heap.objs.size ≤ c
  hd : X.calm = true → X.A.handled = none
  frames : X.A.frames = some X.stack
  stk : X.stack = X.outer ∨ (X.stack = X.env :: X.outer ∧ X.env.frame = some X.env.locals)
  exf : ∀ b ∈ X.ex, b ≠ X.env.locals ∧ ∀ x c, X.env.cells.lookup x = some c → c ≠ b
  bs : ∀ b o, X.base.get? b = some o → X.s₀.heap.get? b = some o ∧ X.H₀ b = none
  bsz : X.base.objs.size ≤ X.s₀.heap.objs.size
  noex : ∀ b o, X.base.get? b = some o → b ∉ X.ex
  exfs : ∀ b ∈ X.ex, b ∉ X.fs
  funs : X.s₀.heap.FunFrames X.base X.outer
  frf : ∀ b ∈ X.fs, X.H₀ b = none

structure Inv (X : Cx) (pins : List (Addr × Obj)) (σ : List (Option V)) (H : Hp) (s : Shared) : Prop where
  ok : X.Ok
  os : s.os = X.s₀.os
  bare : AllBare s.gens
  base : Un X.fs X.ex X.H₀ H X.s₀.heap s.heap
  loc : ∃ m, s.heap.Ns X.env.locals m ∧ ∀ (i : Nat) (x : Str) (v : V), X.N[i]? = some x → σ[i]? = some (some v) → Vis X.env.scope x → ∃ u, RelV v u ∧ Look X.env s.heap m x u
  cell : ∀ x c, X.env.cells.lookup x = some c → ∃ v, s.heap.IsCell c v
  free : H X.env.locals = none
  freeC : ∀ x c, X.env.cells.lookup x = some c → H c = none
  pin : ∀ p ∈ X.pn ++ pins, s.heap.get? p.1 = some p.2 ∧ H p.1 = none ∧ p.1 ≠ X.env.locals ∧ p.1 ∉ X.fs ∧ ∀ v, p.2.data ≠ .cell v
  hok : HOk X.prog X.w H s.heap
  len : σ.length = X.N.length

section
variable {X : Cx} {pins : List (Addr × Obj)} {σ : List (Option V)} {H H' : Hp} {s : Shared} {h' : Heap}

theorem Cx.Ok.nofr (ok : X.Ok) {b : Addr} {o : Obj} (e : X.base.get? b = some o) : b ∉ X.fs := fun hb => by
  have := (ok.funs.mem hb).1
  rw [e] at this; cases this
theorem Inv.bs (I : Inv X pins σ H s) : ∀ b o, X.base.get? b = some o → s.heap.get? b = some o ∧ H b = none := fun b o e =>
  ⟨I.base.keep b o (I.ok.bs b o e).1 (I.ok.bs b o e).2 (I.ok.nofr e) (I.ok.noex b o e), I.base.free b o (I.ok.bs b o e).1 (I.ok.bs b o e).2 (I.ok.noex b o e)⟩
theorem Inv.bk (I : Inv X pins σ H s) : ∀ b o, X.base.get? b = some o → s.heap.get? b = some o := fun b o e => (I.bs b o e).1
theorem Inv.mod (I : Inv X pins σ H s) : Mod X.K X.mg X.base := I.ok.mod
theorem Inv.kIn (I : Inv X pins σ H s) : X.K.In s.heap := I.ok.mod.kin.keeps I.bk
theorem Inv.lt (I : Inv X pins σ H s) : X.env.locals < s.heap.objs.size := let ⟨_, hn, _⟩ := I.loc; hn.lt
theorem Inv.sz (I : Inv X pins σ H s) : X.s₀.heap.objs.size ≤ s.heap.objs.size := Nat.le_trans I.ok.above (Nat.le_of_lt I.lt)
theorem Inv.nofs (I : Inv X pins σ H s) {a : Addr} (h : s.heap.objs.size ≤ a) : a ∉ X.fs := fun hb => by
  obtain ⟨_, o, ho, _⟩ := I.ok.funs.mem hb
  exact absurd (Nat.lt_of_lt_of_le (Heap.lt_size ho) (Nat.le_trans I.sz h)) (Nat.lt_irrefl _)
theorem Inv.cne (I : Inv X pins σ H s) : ∀ x c, X.env.cells.lookup x = some c → c ≠ X.env.locals := fun x c e z => by
  obtain ⟨v, o, ho, hd⟩ := I.cell x c e
  obtain ⟨m, ⟨o', es, ep, ho', hd', _⟩, _⟩ := I.loc
  rw [z, ho'] at ho; cases ho; rw [hd'] at hd; cases hd
theorem Inv.funs (I : Inv X pins σ H s) : s.heap.FunFrames X.base X.outer := by
  have all : ∀ (l : List Env), (∀ b ∈ frs l, b ∈ X.fs) → X.s₀.heap.FunFrames X.base l → s.heap.FunFrames X.base l := by
    intro l
    induction l with
    | nil => intro _ _; trivial
    | cons env r ih =>
      intro hs hl
      obtain ⟨hk, ⟨L, o, hf, hn, ho, hd⟩, hr⟩ := hl
      have hL : L ∈ X.fs := hs L (by unfold frs; rw [List.filterMap_cons, hf]; exact List.mem_cons_self)
      obtain ⟨sl, e⟩ := I.base.slot L o ho (I.ok.frf L hL) hL fun z => I.ok.exfs L z hL
      exact ⟨hk, ⟨L, _, hf, hn, e, hd⟩, ih (fun b hb => hs b (by unfold frs; rw [List.filterMap_cons, hf]; exact List.mem_cons_of_mem _ hb)) hr⟩
  exact all X.outer (fun _ hb => hb) I.ok.funs

theorem Inv.stack (I : Inv X pins σ H s) : s.heap.FunFrames X.base X.stack := by
  rcases I.ok.stk with e | ⟨e, hf⟩
  · rw [e]; exact I.funs
  · rw [e]
    obtain ⟨m, hn, _⟩ := I.loc
    refine .cons (by rw [I.ok.kind]; decide) hf hn ?_ I.funs
    exact Heap.get?_none_of_le (Nat.le_trans I.ok.bsz I.ok.above)
theorem Inv.stkSub (I : Inv X pins σ H s) : ∀ b ∈ frs X.stack, b ∈ X.env.locals :: X.fs := fun b hb => by
  rcases I.ok.stk with e | ⟨e, hf⟩
  · rw [e] at hb; exact List.mem_cons_of_mem _ hb
  · rw [e] at hb
    unfold frs at hb
    rw [List.filterMap_cons, hf] at hb
    exact hb
theorem Inv.stkFree (I : Inv X pins σ H s) : ∀ b ∈ frs X.stack, H b = none := fun b hb => by
  rcases List.mem_cons.mp (I.stkSub b hb) with e | hb
  · rw [e]; exact I.free
  · obtain ⟨_, o, ho, _⟩ := I.ok.funs.mem hb
    exact I.base.free b o ho (I.ok.frf b hb) fun z => I.ok.exfs b z hb

theorem Inv.step {g' : Array GenState} {t' : Nat} {d' : Drawn} {ch : List Addr} (I : Inv X pins σ H s)
    (hch : ∀ b ∈ ch, (b ∈ X.ex ∨ X.s₀.heap.objs.size ≤ b) ∧ b ≠ X.env.locals ∧ (∀ x c, X.env.cells.lookup x = some c → c ≠ b) ∧ ∀ p ∈ X.pn ++ pins, p.1 ≠ b)
    (keep : ∀ b o, b ≠ X.env.locals → b ∉ X.fs → b ∉ ch → s.heap.get? b = some o → H b = none → h'.get? b = some o)
    (slot : ∀ b o, b ≠ X.env.locals → b ∈ X.fs → b ∉ ch → s.heap.get? b = some o → H b = none → ∃ sl, h'.get? b = some { o with slots := sl }) (free : ∀ b o, b ∉ ch → s.heap.get? b = some o → H b = none → H' b = none)
    (there : ∀ b o, b ∉ ch → s.heap.get? b = some o → ∃ o', h'.get? b = some o')
    (tups : ∀ b xs, H b = some (.tup xs) → H' b = some (.tup xs)) (frzs : ∀ b o u, H b = some (.frz o u) → H' b = some (.frz o u)) (tbls : ∀ b ps, H b = some (.tbl ps) → ∃ more, H' b = some (.tbl (ps ++ more)))
    (ns : ∀ m, s.heap.Ns X.env.locals m → h'.Ns X.env.locals m) (hok : HOk X.prog X.w H' h') (hg : AllBare g') :
    Inv X pins σ H' { s with heap := h', gens := g', drawn := d', toks := t' } := by
  have neL : ∀ b o, X.s₀.heap.get? b = some o → b ≠ X.env.locals := fun b o e => Nat.ne_of_lt (Nat.lt_of_lt_of_le (Heap.lt_size e) I.ok.above)
  have neC : ∀ b o, X.s₀.heap.get? b = some o → b ∉ X.ex → b ∉ ch := fun b o e hx hb => by
    rcases (hch b hb).1 with z | z
    · exact hx z
    · exact absurd (Nat.lt_of_lt_of_le (Heap.lt_size e) z) (Nat.lt_irrefl _)
  have cellK : ∀ x c, X.env.cells.lookup x = some c → ∀ v, s.heap.IsCell c v → h'.IsCell c v := fun x c e v ⟨o, ho, hd⟩ => by
    have nch : c ∉ ch := fun z => (hch c z).2.2.1 x c e rfl
    by_cases hc : c ∈ X.fs
    · obtain ⟨sl, q⟩ := slot c o (I.cne x c e) hc nch ho (I.freeC x c e)
      exact ⟨_, q, hd⟩
    · exact ⟨o, keep c o (I.cne x c e) hc nch ho (I.freeC x c e), hd⟩
  refine ⟨I.ok, I.os, hg, ⟨fun b o e n hb hx => ?_, fun b o e n hb hx => ?_, fun b o e n hx => ?_, fun b o e hx => ?_, fun b xs e => tups b xs (I.base.tups b xs e), fun b o xs e => frzs b o xs (I.base.frzs b o xs e), fun b ps e => ?_⟩, ?_, fun x c e => ?_, ?_, fun x c e => ?_, fun p hp => ?_, hok, I.len⟩
  · exact keep b o (neL b o e) hb (neC b o e hx) (I.base.keep b o e n hb hx) (I.base.free b o e n hx)
  · obtain ⟨sl, e1⟩ := I.base.slot b o e n hb hx
    obtain ⟨sl', e2⟩ := slot b _ (neL b o e) hb (neC b o e hx) e1 (I.base.free b o e n hx)
    exact ⟨sl', e2⟩
  · obtain ⟨o', e1⟩ := I.base.there b o e hx
    exact free b o' (neC b o e hx) e1 (I.base.free b o e n hx)
  · obtain ⟨o', e1⟩ := I.base.there b o e hx
    exact there b o' (neC b o e hx) e1
  · obtain ⟨m1, e1⟩ := I.base.tbls b ps e
    obtain ⟨m2, e2⟩ := tbls b _ e1
    exact ⟨m1 ++ m2, by rw [e2, Array.append_assoc]⟩
  · obtain ⟨m, hn, hl⟩ := I.loc
    refine ⟨m, ns m hn, fun i x v e1 e2 e3 => ?_⟩
    obtain ⟨u, r, l⟩ := hl i x v e1 e2 e3
    refine ⟨u, r, ?_⟩
    rcases l with l | ⟨k, c, e, z⟩
    · exact .inl l
    · exact .inr ⟨k, c, e, cellK x c e _ z⟩
  · obtain ⟨v, z⟩ := I.cell x c e
    exact ⟨v, cellK x c e v z⟩
  · obtain ⟨m, ⟨o, _, _, ho, _⟩, _⟩ := I.loc
    exact free _ o (fun z => (hch _ z).2.1 rfl) ho I.free
  · obtain ⟨v, o, ho, hd⟩ := I.cell x c e
    exact free c o (fun z => (hch c z).2.2.1 x c e rfl) ho (I.freeC x c e)
  · obtain ⟨e, n, ne, nf, d⟩ := I.pin p hp
    have nch : p.1 ∉ ch := fun z => (hch p.1 z).2.2.2 p hp rfl
    exact ⟨keep p.1 p.2 ne nf nch e n, free p.1 p.2 nch e n, ne, nf, d⟩
theorem Inv.un {t' : Nat} (I : Inv X pins σ H s) (u : Un X.fs [] H H' s.heap h') (hok : HOk X.prog X.w H' h') : Inv X pins σ H' { s with heap := h', toks := t' } := by
  obtain ⟨m, ⟨o, es, ep, ho, r⟩, _⟩ := id I.loc
  obtain ⟨sl, hL⟩ := u.any ho I.free (by simp)
  exact I.step (g' := s.gens) (d' := s.drawn) (ch := []) (fun _ z => nomatch z) (fun b o _ hb _ e n => u.keep b o e n hb (by simp)) (fun b o _ hb _ e n => u.slot b o e n hb (by simp)) (fun b o _ e n => u.free b o e n (by simp)) (fun b o _ e => u.there b o e (by simp)) u.tups u.frzs u.tbls (fun m' hm => by
    obtain ⟨o', es', ep', ho', r'⟩ := hm
    rw [ho] at ho'; cases ho'
    exact ⟨_, es', ep', hL, r'⟩) hok I.bare
theorem Inv.call {g' : Array GenState} {t' : Nat} {d' : Drawn} {ch : List Addr} (I : Inv X pins σ H s) (u : Un (frs X.stack) ch H H' s.heap h') (hok : HOk X.prog X.w H' h') (hg : AllBare g')
    (hch : ∀ b ∈ ch, (b ∈ X.ex ∨ X.s₀.heap.objs.size ≤ b) ∧ b ≠ X.env.locals ∧ (∀ x c, X.env.cells.lookup x = some c → c ≠ b) ∧ ∀ p ∈ X.pn ++ pins, p.1 ≠ b) :
    Inv X pins σ H' { s with heap := h', gens := g', drawn := d', toks := t' } := by
  obtain ⟨m, ⟨o, es, ep, ho, r⟩, _⟩ := id I.loc
  obtain ⟨sl, hL⟩ := u.any ho I.free fun z => (hch _ z).2.1 rfl
  exact I.step (ch := ch) hch (fun b o hL hb hc e n => u.keep b o e n (fun z => (List.mem_cons.mp (I.stkSub b z)).elim hL hb) hc) (fun b o _ _ hc e n => u.any e n hc) (fun b o hc e n => u.free b o e n hc) (fun b o hc e => u.there b o e hc) u.tups u.frzs u.tbls (fun m' hm => by
    obtain ⟨o', es', ep', ho', r'⟩ := hm
    rw [ho] at ho'; cases ho'
    exact ⟨_, es', ep', hL, r'⟩) hok hg
theorem Inv.turned {t' : Nat} {it : Addr} (I : Inv X pins σ H s) (k : ∀ b o, b ≠ it → s.heap.get? b = some o → h'.get? b = some o) (hn : H it = none) (hL : it ≠ X.env.locals)
    (h1 : it ∈ X.ex ∨ X.s₀.heap.objs.size ≤ it) (h2 : ∀ x c, X.env.cells.lookup x = some c → c ≠ it) (h3 : ∀ p ∈ X.pn ++ pins, p.1 ≠ it) : Inv X pins σ H { s with heap := h', toks := t' } := by
  have nit : ∀ b u, H b = some u → b ≠ it := fun b u e z => by rw [z, hn] at e; cases e
  refine I.step (g' := s.gens) (d' := s.drawn) (ch := [it]) (fun b hb => ?_) (fun b o _ _ hc e _ => k b o (fun z => hc (by simp [z])) e) (fun b o _ _ hc e _ => ⟨o.slots, k b o (fun z => hc (by simp [z])) e⟩) (fun _ _ _ _ n => n)
    (fun b o hc e => ⟨o, k b o (fun z => hc (by simp [z])) e⟩) (fun _ _ e => e) (fun _ _ _ e => e) (fun b ps e => ⟨#[], by rw [e]; simp⟩) (fun m hm => ?_) (fun b u e => ?_) I.bare
  · have e : b = it := by simpa using hb
    subst e
    exact ⟨h1, hL, h2, h3⟩
  · obtain ⟨o, es, ep, ho, r⟩ := hm
    exact ⟨o, es, ep, k _ o (Ne.symm hL) ho, r⟩
  · refine (I.hok b u e).stay (fun c v hc q => k c v ?_ q) (fun _ q => q) fun _ _ q => q
    rcases hc with z | z
    · rw [z]; exact nit b u e
    · exact nit c _ z
theorem Inv.tok (I : Inv X pins σ H s) (t : Nat) : Inv X pins σ H { s with toks := t } := I.un (h' := s.heap) (t' := t) Un.refl I.hok
theorem Inv.kept {t' : Nat} (I : Inv X pins σ H s) (k : ∀ b u, s.heap.get? b = some u → h'.get? b = some u) : Inv X pins σ H { s with heap := h', toks := t' } := I.un (Un.kept k) (I.hok.kept k)
theorem Inv.laid {a : Addr} {o : HO} {t' : Nat} (I : Inv X pins σ H s) (k : ∀ b u, s.heap.get? b = some u → h'.get? b = some u) (hp : s.heap.objs.size ≤ a) (new : ObjOk X.prog X.w (upd H a o) h' a o) :
    Inv X pins σ (upd H a o) { s with heap := h', toks := t' } := I.un (Un.laid k hp (I.hok.fresh hp)) (I.hok.laid k hp new)
theorem Inv.write {x e : Addr} {o : HO} {t' : Nat} (I : Inv X pins σ H s) (mu : Mut (H x)) (he : e = x ∨ H e = some (.own x)) (k : ∀ b u, b ≠ e → s.heap.get? b = some u → h'.get? b = some u) (heo : ∃ u, h'.get? e = some u)
    (new : ObjOk X.prog X.w (upd H x o) h' x o) : Inv X pins σ (upd H x o) { s with heap := h', toks := t' } := I.un (Un.write mu he k heo) (I.hok.write mu he k heo new)
theorem Inv.pins_of {pins' : List (Addr × Obj)} (I : Inv X pins σ H s) (h : ∀ p ∈ pins', s.heap.get? p.1 = some p.2 ∧ H p.1 = none ∧ p.1 ≠ X.env.locals ∧ p.1 ∉ X.fs ∧ ∀ v, p.2.data ≠ .cell v) : Inv X pins' σ H s :=
  ⟨I.ok, I.os, I.bare, I.base, I.loc, I.cell, I.free, I.freeC, fun p hp => (List.mem_append.mp hp).elim (fun z => I.pin p (List.mem_append_left _ z)) (h p), I.hok, I.len⟩

theorem nodup_ix {N : List Str} (hN : N.Nodup) {i j : Nat} {x : Str} (a : N[i]? = some x) (b : N[j]? = some x) : i = j := by
  obtain ⟨h1, e1⟩ := List.getElem?_eq_some_iff.mp a
  obtain ⟨h2, e2⟩ := List.getElem?_eq_some_iff.mp b
  exact (List.getElem_inj hN).mp (e1.trans e2.symm)

theorem store_ok2 {M : Model} {A : Around} {E : Value → Shared → Prop} {i : Nat} {x : Str} {v : V} {u : Value} {Q : Unit → Shared → Prop} (I : Inv X pins σ H s) (hN : X.N.Nodup) (hi : X.N[i]? = some x) (hx : Loc X.env.scope x) (r : RelV v u)
    (h : ∀ s', Inv X pins (σ.set i (some v)) H s' → (∃ a, Heap.SameBut a s.heap s'.heap ∧ (a = X.env.locals ∨ X.env.cells.lookup x = some a)) → Q () s') (hf : X.fn x = true ∨ X.env.scope.names.lookup x = some .local := by first | exact .inl rfl | exact .inr rfl | assumption) : wpAny M A (storeName X.env x u) Q E s := by
  obtain ⟨m, hn, hl⟩ := id I.loc
  have hcls : (X.env.scope.kind == .class || (X.env.scope.kind == .module && X.env.locals != X.env.globals)) = false := by rw [I.ok.kind]; rfl
  have hiσ : i < σ.length := by rw [I.len]; exact (List.getElem?_eq_some_iff.mp hi).1
  have cne := I.cne
  have tracked : ∀ {a : Addr} {h' : Heap}, (∃ o, s.heap.get? a = some o ∧ H a = none) → Heap.SameBut a s.heap h' → HOk X.prog X.w H h' := fun {a h'} ha hs b ob e => by
    obtain ⟨_, _, hfree⟩ := ha
    refine (I.hok b ob e).stay (fun c w' hc q => (hs.2 c ?_).trans q) (fun _ q => q) fun _ _ q => q
    rintro rfl
    rcases hc with rfl | hc
    · rw [hfree] at e; cases e
    · rw [hfree] at hc; cases hc
  rcases hx with hk | hk
  · refine wpAny_storeName_local hk hn (fun h' hn' hs => ?_) hcls
    obtain ⟨oL, _, _, hoL, _⟩ := id hn
    refine h _ ⟨I.ok, I.os, I.bare, ⟨fun b o e n hb hx => ?_, fun b o e n hb hx => ?_, I.base.free, fun b o e hx => ?_, I.base.tups, I.base.frzs, I.base.tbls⟩, ⟨_, hn', fun j y v' e1 e2 e3 => ?_⟩, fun y c e => ?_, I.free, I.freeC, fun p hp => ?_, tracked ⟨oL, hoL, I.free⟩ hs, by simpa using I.len⟩ ⟨_, hs, .inl rfl⟩
    · exact (hs.2 b (Nat.ne_of_lt (Nat.lt_of_lt_of_le (Heap.lt_size e) I.ok.above))).trans (I.base.keep b o e n hb hx)
    · obtain ⟨sl, e1⟩ := I.base.slot b o e n hb hx
      exact ⟨sl, (hs.2 b (Nat.ne_of_lt (Nat.lt_of_lt_of_le (Heap.lt_size e) I.ok.above))).trans e1⟩
    · obtain ⟨o', e1⟩ := I.base.there b o e hx
      exact ⟨o', (hs.2 b (Nat.ne_of_lt (Nat.lt_of_lt_of_le (Heap.lt_size e) I.ok.above))).trans e1⟩
    · by_cases hj : j = i
      · subst hj
        rw [hi] at e1; cases e1
        rw [List.getElem?_set_self hiσ] at e2
        cases e2
        exact ⟨u, r, .inl ⟨hk, by simp⟩⟩
      · rw [List.getElem?_set_ne (Ne.symm hj)] at e2
        obtain ⟨u', r', q⟩ := hl j y v' e1 e2 e3
        refine ⟨u', r', ?_⟩
        rcases q with ⟨k, e⟩ | ⟨k, c, e, z⟩
        · refine .inl ⟨k, ?_⟩
          have : y ≠ x := fun e => hj (nodup_ix hN e1 (e ▸ hi))
          simp [this, e]
        · exact .inr ⟨k, c, e, z.sameBut hs (cne y c e)⟩
    · obtain ⟨w', z⟩ := I.cell y c e
      exact ⟨w', z.sameBut hs (cne y c e)⟩
    · obtain ⟨e, n, ne, nf, d⟩ := I.pin p hp
      exact ⟨(hs.2 p.1 ne).trans e, n, ne, nf, d⟩
  · have hfn : X.fn x = true := by
      rcases hf with z | z
      · exact z
      · rw [z] at hk; cases hk
    obtain ⟨c, hc⟩ := I.ok.has x (.inl hk)
    obtain ⟨w', z⟩ := I.cell x c hc
    refine wpAny_storeName_cell I.ok.kind hk hc z (fun h' hc' hs => ?_)
    obtain ⟨oc, hoc, hocd⟩ := id z
    refine h { s with heap := h' } ⟨I.ok, I.os, I.bare, ⟨fun b o e n hb hx => ?_, fun b o e n hb hx => ?_, I.base.free, fun b o e hx => ?_, I.base.tups, I.base.frzs, I.base.tbls⟩, ⟨m, hn.sameBut hs (Ne.symm (cne x c hc)), fun j y v' e1 e2 e3 => ?_⟩, fun y c' e => ?_, I.free, I.freeC, fun p hp => ?_, tracked ⟨oc, hoc, I.freeC x c hc⟩ hs, by simpa using I.len⟩ ⟨c, hs, .inr hc⟩
    · exact (hs.2 b (Nat.ne_of_lt (Nat.lt_of_lt_of_le (Heap.lt_size e) (I.ok.cab x c hfn hc)))).trans (I.base.keep b o e n hb hx)
    · obtain ⟨sl, e1⟩ := I.base.slot b o e n hb hx
      exact ⟨sl, (hs.2 b (Nat.ne_of_lt (Nat.lt_of_lt_of_le (Heap.lt_size e) (I.ok.cab x c hfn hc)))).trans e1⟩
    · obtain ⟨o', e1⟩ := I.base.there b o e hx
      exact ⟨o', (hs.2 b (Nat.ne_of_lt (Nat.lt_of_lt_of_le (Heap.lt_size e) (I.ok.cab x c hfn hc)))).trans e1⟩
    · by_cases hj : j = i
      · subst hj
        rw [hi] at e1; cases e1
        rw [List.getElem?_set_self hiσ] at e2
        cases e2
        exact ⟨u, r, .inr ⟨.inl hk, c, hc, hc'⟩⟩
      · rw [List.getElem?_set_ne (Ne.symm hj)] at e2
        obtain ⟨u', r', q⟩ := hl j y v' e1 e2 e3
        refine ⟨u', r', ?_⟩
        rcases q with q | ⟨k, c', e, z'⟩
        · exact .inl q
        · refine .inr ⟨k, c', e, z'.sameBut hs ?_⟩
          rintro rfl
          exact hj (nodup_ix hN e1 (I.ok.inj _ _ _ e hc ▸ hi))
    · by_cases hcc : c' = c
      · subst hcc; exact ⟨_, hc'⟩
      · obtain ⟨w2, z2⟩ := I.cell y c' e
        exact ⟨w2, z2.sameBut hs hcc⟩
    · obtain ⟨e, n, ne, nf, d⟩ := I.pin p hp
      refine ⟨(hs.2 p.1 ?_).trans e, n, ne, nf, d⟩
      intro q
      rw [q, hoc] at e
      have q' : oc = p.2 := Option.some.inj e
      exact d w' (by rw [← q']; exact hocd)
theorem store_ok {M : Model} {A : Around} {E : Value → Shared → Prop} {i : Nat} {x : Str} {v : V} {u : Value} {Q : Unit → Shared → Prop} (I : Inv X pins σ H s) (hN : X.N.Nodup) (hi : X.N[i]? = some x) (hx : Loc X.env.scope x) (r : RelV v u)
    (h : ∀ s', Inv X pins (σ.set i (some v)) H s' → Q () s') (hf : X.fn x = true ∨ X.env.scope.names.lookup x = some .local := by first | exact .inl rfl | exact .inr rfl | assumption) : wpAny M A (storeName X.env x u) Q E s :=
  store_ok2 I hN hi hx r (fun s' I' _ => h s' I') hf
theorem Inv.call' {s' : Shared} {ch : List Addr} (I : Inv X pins σ H s) (ho : s'.os = s.os) (u : Un (frs X.stack) ch H H' s.heap s'.heap) (hok : HOk X.prog X.w H' s'.heap) (hg : AllBare s'.gens)
    (hch : ∀ b ∈ ch, (b ∈ X.ex ∨ X.s₀.heap.objs.size ≤ b) ∧ b ≠ X.env.locals ∧ (∀ x c, X.env.cells.lookup x = some c → c ≠ b) ∧ ∀ p ∈ X.pn ++ pins, p.1 ≠ b) : Inv X pins σ H' s' := by
  obtain ⟨h', g', d', t', o'⟩ := s'
  have e : o' = s.os := ho
  subst e
  exact I.call (g' := g') (t' := t') (d' := d') u hok hg hch
end

abbrev XK := Value → Option Addr → Hp → Prop
abbrev St := List (Option V)
abbrev VK := V → Hp → Prop
abbrev TE := St → Hp → VK → Prop
abbrev TT := St → Hp → (Bool → Hp → Prop) → Prop
abbrev TA := St → Hp → (List V → Hp → Prop) → Prop
structure Ends where
  nx : St → Hp → Prop
  rt : VK
  bk : St → Hp → Prop := fun _ _ => False
  ct : St → Hp → Prop := fun _ _ => False
abbrev TS := Ends → St → Hp → Prop

def EP (X : Cx) (pins : List (Addr × Obj)) (σ : St) (Q : VK) (u : Value) (s' : Shared) : Prop := ∃ v H', Inv X pins σ H' s' ∧ RelV v u ∧ Q v H'
def TP (X : Cx) (pins : List (Addr × Obj)) (σ : St) (Q : Bool → Hp → Prop) (b : Bool) (s' : Shared) : Prop := ∃ H', Inv X pins σ H' s' ∧ Q b H'
def AP (X : Cx) (pins : List (Addr × Obj)) (σ : St) (Q : List V → Hp → Prop) (us : List Value) (s' : Shared) : Prop := ∃ vs H', Inv X pins σ H' s' ∧ Vals vs us ∧ Q vs H'
def SP (X : Cx) (pins : List (Addr × Obj)) (D : Ends) (f : Flow) (s' : Shared) : Prop :=
  match f with
  | .next => ∃ σ' H', Inv X pins σ' H' s' ∧ D.nx σ' H'
  | .brk => ∃ σ' H', Inv X pins σ' H' s' ∧ D.bk σ' H'
  | .cont => ∃ σ' H', Inv X pins σ' H' s' ∧ D.ct σ' H'
  | .ret u => ∃ v σ' H', Inv X pins σ' H' s' ∧ RelV v u ∧ D.rt v H'

def PE (X : Cx) (e : Expr) (t : TE) : Prop :=
  ∀ (pins : List (Addr × Obj)) (s : Shared) (σ : St) (H : Hp) (Q : VK), Inv X pins σ H s → t σ H Q → wpAny (model X.prog X.w) X.A (eval e X.env) (EP X pins σ Q) X.xe s
def PT (X : Cx) (e : Expr) (t : TT) : Prop :=
  ∀ (pins : List (Addr × Obj)) (s : Shared) (σ : St) (H : Hp) (Q : Bool → Hp → Prop), Inv X pins σ H s → t σ H Q → wpAny (model X.prog X.w) X.A (isTrue e X.env (eval e X.env)) (TP X pins σ Q) X.xe s
def PW (X : Cx) (e : Expr) (t : TT) : Prop :=
  ∀ (whole : Sem Value) (pins : List (Addr × Obj)) (s : Shared) (σ : St) (H : Hp) (Q : Bool → Hp → Prop), Inv X pins σ H s → t σ H Q → wpAny (model X.prog X.w) X.A (isTrue e X.env whole) (TP X pins σ Q) X.xe s
theorem PW.pt {X : Cx} {e : Expr} {t : TT} (h : PW X e t) : PT X e t := h _
def PA (X : Cx) (es : List Expr) (t : TA) : Prop :=
  ∀ (pos : Pos) (pins : List (Addr × Obj)) (s : Shared) (σ : St) (H : Hp) (Q : List V → Hp → Prop), Inv X pins σ H s → t σ H Q → wpAny (model X.prog X.w) X.A (spliced (backTo pos (starEach es X.env))) (AP X pins σ Q) X.xe s
def PS (X : Cx) (st : Stmt) (t : TS) : Prop :=
  ∀ (pins : List (Addr × Obj)) (s : Shared) (σ : St) (H : Hp) (D : Ends), Inv X pins σ H s → t D σ H → wpAny (model X.prog X.w) X.A (exec st X.env) (SP X pins D) X.xe s
def PSs (X : Cx) (st : List Stmt) (t : TS) : Prop :=
  ∀ (pins : List (Addr × Obj)) (s : Shared) (σ : St) (H : Hp) (D : Ends), Inv X pins σ H s → t D σ H → wpAny (model X.prog X.w) X.A (execs st X.env) (SP X pins D) X.xe s
theorem thn {α : Type} {t : Sem α} {Q Q' : α → Shared → Prop} {M : Model} {A : Around} {E : Value → Shared → Prop} {s : Shared} (h : wpAny M A t Q E s) (hQ : ∀ a s, Q a s → Q' a s) : wpAny M A t Q' E s := wpAny_mono h hQ fun _ _ x => x
end L2

namespace L2
open PySem PySem.Spec PyProof.Rows
section
variable {X : Cx}

theorem bin {a b : Expr} {ta tb : TE} (ha : PE X a ta) (hb : PE X b tb) {pins : List (Addr × Obj)} {s : Shared} {σ : St} {H : Hp} {R : V → V → Hp → Prop} (I : Inv X pins σ H s) (h : ta σ H fun x H1 => tb σ H1 fun y H2 => R x y H2)
    {α : Type} {Q : α → Shared → Prop} {f : Value → Value → Sem α}
    (hf : ∀ v u s2 x y H2, Inv X pins σ H2 s2 → RelV x v → RelV y u → R x y H2 → wpAny (model X.prog X.w) X.A (f v u) Q X.xe s2) :
    wpAny (model X.prog X.w) X.A (eval a X.env) (fun v s₁ => wpAny (model X.prog X.w) X.A (eval b X.env) (fun u s₂ => wpAny (model X.prog X.w) X.A (f v u) Q X.xe s₂) X.xe s₁) X.xe s := by
  refine thn (ha pins s σ H _ I h) fun v s1 ⟨x, H1, I1, r1, q1⟩ => ?_
  refine thn (hb pins s1 σ H1 _ I1 q1) fun u s2 ⟨y, H2, I2, r2, q2⟩ => ?_
  exact hf v u s2 x y H2 I2 r1 r2 q2

def tVar (i : Nat) : TE := fun σ H Q => ∃ v, σ[i]? = some (some v) ∧ Q v H
def tC (v : V) : TE := fun _ H Q => Q v H
theorem pe_var {i : Nat} {x : Str} {pos : Pos} (hN : X.N[i]? = some x) (hv : Vis X.env.scope x) (hd : (x == ("__debug__" : Str)) = false := by decide) (hcd : (x == ("__classdict__" : Str)) = false := by decide) : PE X (.Name x pos) (tVar i) := by
  intro pins s σ H Q I h
  obtain ⟨v, e, h⟩ := h
  obtain ⟨m, hn, hl⟩ := I.loc
  obtain ⟨u, r, l⟩ := hl i x v hN e hv
  have fin : EP X pins σ Q u s := ⟨v, H, I, r, h⟩
  rcases l with ⟨hk, hm⟩ | ⟨hk, c, hc, hcell⟩
  · exact wpAny_Name (wpAny_loadName_local I.ok.kind hk hn hm fin) hd
  · rcases hk with hk | hk
    · exact wpAny_Name (wpAny_loadName_cell I.ok.kind hk hc hcell fin) hd
    · exact wpAny_Name (wpAny_loadName_free I.ok.kind hk hc hcell fin hcd) hd
theorem pe_int {i j pos} : PE X (.Constant (.int i) j pos) (tC (.int i)) := fun _ _ _ H _ I h => wpAny_Constant_int ⟨.int i, H, I.tok _, ⟨_, rfl⟩, h⟩
theorem pe_bl {b j pos} : PE X (.Constant (.bool b) j pos) (tC (.bl b)) := fun _ _ _ H _ I h => Constant_bool ⟨.bl b, H, I, rfl, h⟩
theorem pe_non {j pos} : PE X (.Constant .none j pos) (tC .non) := fun _ _ _ H _ I h => Constant_none ⟨.non, H, I, rfl, h⟩
theorem pe_str {x j pos} : PE X (.Constant (.str x) j pos) (tC (.str x)) := fun _ _ _ H _ I h => Calls.Constant_str ⟨.str x, H, I.tok _, ⟨_, rfl⟩, h⟩

def Gl (X : Cx) (x : Str) : Prop := X.env.kindOf x = some .globalImplicit
theorem ld_glob {E : Value → Shared → Prop} {pins : List (Addr × Obj)} {s : Shared} {σ : St} {H : Hp} {x : Str} {u : Value} {pos : Pos} {Q : Value → Shared → Prop} (I : Inv X pins σ H s) (hg : Gl X x) (hm : X.mg x = some u) (h : Q u s)
    (hd : (x == ("__debug__" : Str)) = false := by decide) : wpAny (model X.prog X.w) X.A (eval (.Name x pos) X.env) Q E s :=
  Calls.Name_function_global I.ok.kind hg (Calls.loadGlobal_global (by rw [I.ok.glob]; exact I.mod.glob.keeps I.bk) hm h) hd
theorem ld_blt {E : Value → Shared → Prop} {pins : List (Addr × Obj)} {s : Shared} {σ : St} {H : Hp} {x : Str} {u : Value} {pos : Pos} {Q : Value → Shared → Prop} (I : Inv X pins σ H s) (hg : Gl X x) (hm : X.mg x = none) (hv : bootBuiltins x = some u) (h : Q u s)
    (hn : x ≠ "__name__" := by decide) (hd : (x == ("__debug__" : Str)) = false := by decide) : wpAny (model X.prog X.w) X.A (eval (.Name x pos) X.env) Q E s := by
  obtain ⟨mb, h1, h2⟩ := I.mod.blt
  exact Calls.Name_function_global I.ok.kind hg (Calls.loadGlobal_builtin (by rw [I.ok.glob]; exact I.mod.glob.keeps I.bk) hm (by rw [I.ok.blt]; exact h1.keeps I.bk) ((h2 x hn).trans hv) h) hd
theorem pe_glob {x : Str} {v : V} {u : Value} {pos : Pos} (hg : Gl X x) (hm : X.mg x = some u) (r : RelV v u) (hd : (x == ("__debug__" : Str)) = false := by decide) : PE X (.Name x pos) (tC v) :=
  fun _ _ _ H _ I h => ld_glob I hg hm ⟨v, H, I, r, h⟩ hd
theorem pe_bltn {x : Str} {v : V} {u : Value} {pos : Pos} (hg : Gl X x) (hm : X.mg x = none) (hv : bootBuiltins x = some u) (r : RelV v u) (hn : x ≠ "__name__" := by decide) (hd : (x == ("__debug__" : Str)) = false := by decide) : PE X (.Name x pos) (tC v) :=
  fun _ _ _ H _ I h => ld_blt I hg hm hv ⟨v, H, I, r, h⟩ hn hd

def t2I (ta tb : TE) (k : Int → Int → Hp → Prop) : St → Hp → Prop := fun σ H => ta σ H fun x H1 => tb σ H1 fun y H2 => ∃ i j, x = .int i ∧ y = .int j ∧ k i j H2
def tAdd (ta tb : TE) : TE := fun σ H Q => t2I ta tb (fun i j H2 => Q (.int (i + j)) H2) σ H
def tSub (ta tb : TE) : TE := fun σ H Q => t2I ta tb (fun i j H2 => Q (.int (i - j)) H2) σ H
def tMul (ta tb : TE) : TE := fun σ H Q => t2I ta tb (fun i j H2 => (-(2 ^ 64) < i ∧ i < 2 ^ 64) ∧ Q (.int (i * j)) H2) σ H
variable {a b : Expr} {ta tb : TE} {pos : Pos}
def PC (X : Cx) (op : CmpOp) (a b : Expr) (t : TE) : Prop :=
  ∀ (pins : List (Addr × Obj)) (s : Shared) (σ : St) (H : Hp) (Q : VK), Inv X pins σ H s → t σ H Q →
    wpAny (model X.prog X.w) X.A (eval a X.env) (fun v s₁ => wpAny (model X.prog X.w) X.A (eval b X.env) (fun u s₂ => wpAny (model X.prog X.w) X.A (compareOp op v u) (EP X pins σ Q) X.xe s₂) X.xe s₁) X.xe s
def tCmp (p : Int → Int → Bool) (ta tb : TE) : TE := fun σ H Q => t2I ta tb (fun i j H2 => Q (.bl (p i j)) H2) σ H
abbrev tLt : TE → TE → TE := tCmp fun i j => decide (i < j)
abbrev tLe : TE → TE → TE := tCmp fun i j => decide (i ≤ j)
abbrev tGt : TE → TE → TE := tCmp fun i j => decide (j < i)
abbrev tGe : TE → TE → TE := tCmp fun i j => decide (j ≤ i)
abbrev tEqI : TE → TE → TE := tCmp fun i j => decide (i = j)
abbrev tNeI : TE → TE → TE := tCmp fun i j => !decide (i = j)
def tIsN (ta : TE) : TE := fun σ H Q => ta σ H fun x H1 => Q (.bl (decide (x = .non))) H1
def tNotN (ta : TE) : TE := fun σ H Q => ta σ H fun x H1 => Q (.bl (!decide (x = .non))) H1
def tB (t : TE) : TT := fun σ H Q => t σ H fun x H1 => ∃ c, x = .bl c ∧ Q c H1
theorem pt_cmp {op : CmpOp} {t : TE} (h : PC X op a b t) (h1 : behindInMarks op b = false := by first | exact nobehind _ (by decide) (by decide) | rfl) : PT X (.Compare a [op] [b] pos) (tB t) := by
  intro pins s σ H Q I hw
  refine wpAny_isTrue_Compare1 (thn (h pins s σ H _ I hw) fun v s1 h1 => thn h1 fun u s2 h2 => thn h2 fun c s3 ⟨x, H1, I1, r1, q1⟩ => ?_) h1
  obtain ⟨d, rfl, q⟩ := q1
  cases r1
  exact wpAny_truthy_bool ⟨H1, I1, q⟩
theorem pt_val {e : Expr} {t : TE} (h : PE X e t) (he : ∀ whole, isTrue e X.env whole = (do let v ← whole; standAt e.pos; holding [v] (truthy v)) := by intro _; rfl) : PT X e (tB t) := by
  intro pins s σ H Q I hw
  refine isTrue_plain (thn (h pins s σ H _ I hw) fun v s1 ⟨x, H1, I1, r1, q1⟩ => ?_) (he _)
  obtain ⟨d, rfl, q⟩ := q1
  cases r1
  exact wpAny_truthy_bool ⟨H1, I1, q⟩

variable {tA tB' : TT} {rest : List Expr}
def tAnd (t u : TT) : TT := fun σ H Q => t σ H fun c H1 => if c = true then u σ H1 Q else Q false H1
def tOr (t u : TT) : TT := fun σ H Q => t σ H fun c H1 => if c = true then Q true H1 else u σ H1 Q
def tNot (t : TT) : TT := fun σ H Q => t σ H fun c H1 => Q (!c) H1
theorem pw_and1 (ha : PT X a tA) : PW X (.BoolOp .And [a] pos) tA := by
  intro wh pins s σ H Q I h
  refine isTrue_and (thn (ha pins s σ H Q I h) fun c s1 e => ?_)
  cases c with
  | true => exact isTrue_and_nil e
  | false => exact e
theorem pw_or1 (ha : PT X a tA) : PW X (.BoolOp .Or [a] pos) tA := by
  intro wh pins s σ H Q I h
  refine isTrue_or (thn (ha pins s σ H Q I h) fun c s1 e => ?_)
  cases c with
  | false => exact isTrue_or_nil e
  | true => exact e
theorem pw_and (ha : PT X a tA) (hb : PW X (.BoolOp .And (b :: rest) pos) tB') : PW X (.BoolOp .And (a :: b :: rest) pos) (tAnd tA tB') := by
  intro wh pins s σ H Q I h
  refine isTrue_and (thn (ha pins s σ H _ I h) fun c s1 ⟨H1, I1, q1⟩ => ?_)
  cases c with
  | true => exact hb wh pins s1 σ H1 Q I1 q1
  | false => exact ⟨H1, I1, q1⟩
theorem pw_or (ha : PT X a tA) (hb : PW X (.BoolOp .Or (b :: rest) pos) tB') : PW X (.BoolOp .Or (a :: b :: rest) pos) (tOr tA tB') := by
  intro wh pins s σ H Q I h
  refine isTrue_or (thn (ha pins s σ H _ I h) fun c s1 ⟨H1, I1, q1⟩ => ?_)
  cases c with
  | true => exact ⟨H1, I1, q1⟩
  | false => exact hb wh pins s1 σ H1 Q I1 q1
theorem pt_not (ha : PT X a tA) : PT X (.UnaryOp .Not a pos) (tNot tA) := by
  intro pins s σ H Q I h
  exact isTrue_not (ha pins s σ H (fun c H1 => Q (!c) H1) I h)
def tAndV (ta tb : TE) : TE := fun σ H Q => ta σ H fun x H1 => ∃ c, x = .bl c ∧ if c = true then tb σ H1 Q else Q (.bl false) H1
def tOrV (ta tb : TE) : TE := fun σ H Q => ta σ H fun x H1 => ∃ c, x = .bl c ∧ if c = true then Q (.bl true) H1 else tb σ H1 Q
def tNotV (ta : TE) : TE := fun σ H Q => ta σ H fun x H1 => ∃ c, x = .bl c ∧ Q (.bl (!c)) H1
theorem pe_one {op} {t : TE} (h : PE X a t) : PE X (.BoolOp op [a] pos) t := fun pins s σ H Q I hw => BoolOp_one (h pins s σ H Q I hw)
theorem pe_and (ha : PE X a ta) (hb : PE X (.BoolOp .And (b :: rest) pos) tb) : PE X (.BoolOp .And (a :: b :: rest) pos) (tAndV ta tb) := by
  intro pins s σ H Q I h
  refine BoolOp_and (thn (ha pins s σ H _ I h) fun v s1 ⟨x, H1, I1, r1, q1⟩ => ?_)
  obtain ⟨c, rfl, q1⟩ := q1
  cases r1
  refine wpAny_truthy_bool ?_
  cases c with
  | true => exact hb pins s1 σ H1 Q I1 q1
  | false => exact ⟨.bl false, H1, I1, rfl, q1⟩
theorem pe_not (ha : PE X a ta) : PE X (.UnaryOp .Not a pos) (tNotV ta) := by
  intro pins s σ H Q I h
  refine UnaryOp_ (thn (ha pins s σ H _ I h) fun v s1 ⟨x, H1, I1, r1, q1⟩ => ?_)
  obtain ⟨c, rfl, q1⟩ := q1
  cases r1
  exact not_of (wpAny_truthy_bool ⟨.bl (!c), H1, I1, rfl, q1⟩)
def tIf (t : TT) (ta tb : TE) : TE := fun σ H Q => t σ H fun c H1 => if c = true then ta σ H1 Q else tb σ H1 Q
theorem pe_ifExp {c : Expr} (hc : PT X c tA) (ha : PE X a ta) (hb : PE X b tb) : PE X (.IfExp c a b pos) (tIf tA ta tb) := by
  intro pins s σ H Q I h
  refine wpAny_IfExp (thn (hc pins s σ H _ I h) fun d s1 ⟨H1, I1, q1⟩ => ?_)
  cases d with
  | true => exact ha pins s1 σ H1 Q I1 q1
  | false => exact hb pins s1 σ H1 Q I1 q1
end
end L2

namespace L2
open PySem PySem.Spec PyProof.Rows

def SqL (K : PySem.W.Frag) (H : Hp) (a : Addr) (xs : List V) : Prop :=
  Rd H a (.lst xs) ∨
    ∃ (o : Obj) (its : Array Value) (n : Nat), K.lookup a = some o ∧ o.cls = .type "list" ∧ o.dict = none ∧ o.data = .seq its n ∧ its.size ≤ sizeLine ∧ Vals xs its.toList
def SqT (K : PySem.W.Frag) (H : Hp) (a : Addr) (xs : List V) : Prop :=
  Rd H a (.tup xs) ∨
    ∃ (o : Obj) (its : Array Value) (n : Nat), K.lookup a = some o ∧ o.cls = .type "tuple" ∧ o.data = .seq its n ∧ its.size ≤ sizeLine ∧ Vals xs its.toList
def absV : Value → Option V
  | .none => some .non
  | .bool b => some (.bl b)
  | .int i _ => some (.int i)
  | .str x _ => some (.str x)
  | .bytes b _ => some (.byt b)
  | .float b _ => some (.flt b)
  | .ref a => some (.ref a)
  | .type n => some (.ty n)
  | _ => none
theorem RelV.abs {x : V} {u : Value} (r : RelV x u) : absV u = some x := by
  cases x with
  | non => cases r; rfl
  | bl _ => cases r; rfl
  | int _ => obtain ⟨t, rfl⟩ := r; rfl
  | str _ => obtain ⟨t, rfl⟩ := r; rfl
  | byt _ => obtain ⟨t, rfl⟩ := r; rfl
  | flt _ => obtain ⟨t, rfl⟩ := r; rfl
  | ref _ => cases r; rfl
  | ty _ => cases r; rfl
theorem RelV.inj {x y : V} {u : Value} (r : RelV x u) (q : RelV y u) : x = y := Option.some.inj (r.abs.symm.trans q.abs)
theorem Vals.inj : ∀ {xs ys : List V} {us : List Value}, Vals xs us → Vals ys us → xs = ys
  | _, _, _, .nil, .nil => rfl
  | _, _, _, .cons r t, .cons r' t' => by rw [r.inj r', Vals.inj t t']
section
variable {X : Cx} {pins : List (Addr × Obj)} {σ : St} {H : Hp} {s : Shared} {a : Addr} {xs ys : List V}
theorem SqL.of {K : PySem.W.Frag} (h : H a = some (.lst xs)) : SqL K H a xs := .inl (.inl h)
theorem SqT.of {K : PySem.W.Frag} (h : H a = some (.tup xs)) : SqT K H a xs := .inl (.inl h)
theorem Inv.list (I : Inv X pins σ H s) (h : SqL X.K H a xs) : ∃ its : List Value, Vals xs its ∧ PlainL s.heap a its.toArray ∧ xs.length ≤ sizeLine := by
  rcases h with h | ⟨o, its, n, hk, hc, hd, hs, hz, r⟩
  · obtain ⟨z, its, n, r, e⟩ := h.ok I.hok
    exact ⟨its, r, ⟨_, n, e, rfl, rfl, rfl⟩, z⟩
  · refine ⟨its.toList, r, ⟨o, n, I.kIn a o hk, hc, hd, by simpa using hs⟩, ?_⟩
    have e := r.length
    simp only [Array.length_toList] at e
    omega
theorem Inv.tuple (I : Inv X pins σ H s) (h : SqT X.K H a xs) : ∃ its : List Value, Vals xs its ∧ IsTup s.heap a its.toArray ∧ xs.length ≤ sizeLine := by
  rcases h with h | ⟨o, its, n, hk, hc, hs, hz, r⟩
  · obtain ⟨z, its, r, p⟩ := h.ok I.hok
    exact ⟨its, r, p, z⟩
  · refine ⟨its.toList, r, ⟨o, I.kIn a o hk, hc, n, by simpa using hs⟩, ?_⟩
    have e := r.length
    simp only [Array.length_toList] at e
    omega
theorem Inv.list_inj (I : Inv X pins σ H s) (h : SqL X.K H a xs) (h' : SqL X.K H a ys) : xs = ys := by
  obtain ⟨its, r, ⟨o, n, e, _, _, d⟩, _⟩ := I.list h
  obtain ⟨its', r', ⟨o', n', e', _, _, d'⟩, _⟩ := I.list h'
  rw [e] at e'; cases e'
  rw [d] at d'
  injection d' with d1 _
  have : its = its' := by simpa using congrArg Array.toList d1
  subst this
  exact r.inj r'
theorem Inv.tuple_inj (I : Inv X pins σ H s) (h : SqT X.K H a xs) (h' : SqT X.K H a ys) : xs = ys := by
  obtain ⟨its, r, ⟨o, e, _, n, d⟩, _⟩ := I.tuple h
  obtain ⟨its', r', ⟨o', e', _, n', d'⟩, _⟩ := I.tuple h'
  rw [e] at e'; cases e'
  rw [d] at d'
  injection d' with d1 _
  have : its = its' := by simpa using congrArg Array.toList d1
  subst this
  exact r.inj r'
end

abbrev Cx.wish (X : Cx) (E : Value → Shared → Prop) : Cx := { X with xe := E }
abbrev Cx.nox (X : Cx) : Cx := X.wish fun _ _ => False
theorem Cx.Ok.wish {X : Cx} (ok : X.Ok) (E : Value → Shared → Prop) : (X.wish E).Ok :=
  ⟨ok.mod, ok.kind, ok.glob, ok.blt, ok.above, ok.inj, ok.has, ok.cab, ok.hd, ok.frames, ok.stk, ok.exf, ok.bs, ok.bsz, ok.noex, ok.exfs, ok.funs, ok.frf⟩
theorem Cx.Ok.unwish {X : Cx} {E : Value → Shared → Prop} (ok : (X.wish E).Ok) : X.Ok :=
  ⟨ok.mod, ok.kind, ok.glob, ok.blt, ok.above, ok.inj, ok.has, ok.cab, ok.hd, ok.frames, ok.stk, ok.exf, ok.bs, ok.bsz, ok.noex, ok.exfs, ok.funs, ok.frf⟩
section
variable {X : Cx} {pins : List (Addr × Obj)} {σ : St} {H : Hp} {s : Shared} {E : Value → Shared → Prop}
theorem Inv.wish (I : Inv X pins σ H s) (E : Value → Shared → Prop) : Inv (X.wish E) pins σ H s := ⟨I.ok.wish E, I.os, I.bare, I.base, I.loc, I.cell, I.free, I.freeC, I.pin, I.hok, I.len⟩
theorem Inv.unwish (I : Inv (X.wish E) pins σ H s) : Inv X pins σ H s := ⟨I.ok.unwish, I.os, I.bare, I.base, I.loc, I.cell, I.free, I.freeC, I.pin, I.hok, I.len⟩
theorem SP.unwish {D : Ends} {f : Flow} {s' : Shared} (h : SP (X.wish E) pins D f s') : SP X pins D f s' := by
  cases f with
  | next => obtain ⟨σ', H', I, q⟩ := h; exact ⟨σ', H', I.unwish, q⟩
  | brk => obtain ⟨σ', H', I, q⟩ := h; exact ⟨σ', H', I.unwish, q⟩
  | cont => obtain ⟨σ', H', I, q⟩ := h; exact ⟨σ', H', I.unwish, q⟩
  | ret u => obtain ⟨v, σ', H', I, r, q⟩ := h; exact ⟨v, σ', H', I.unwish, r, q⟩
theorem PSs.nox {st : List Stmt} {t : TS} (h : PSs X.nox st t) : PSs X st t := fun pins s σ H D I hw =>
  wpAny_mono (h pins s σ H D (I.wish _) hw) (fun _ _ q => q.unwish) fun _ _ z => False.elim z
end

section
variable {X : Cx} {st : Stmt} {rest : List Stmt} {t u : TS} {e : Expr} {te : TE} {pos : Pos}
def tNext : TS := fun D σ H => D.nx σ H
def tSeq (t u : TS) : TS := fun D σ H => t { D with nx := u D } σ H
theorem pss_nil : PSs X [] tNext := fun _ _ σ H _ I h => wpAny_execs_nil ⟨σ, H, I, h⟩
theorem pss_cons (h1 : PS X st t) (h2 : PSs X rest u) : PSs X (st :: rest) (tSeq t u) := by
  intro pins s σ H D I h
  refine wpAny_execs_cons (thn (h1 pins s σ H { D with nx := u D } I h) fun f s1 q => ?_)
  cases f with
  | next =>
    obtain ⟨σ', H', I', q⟩ := q
    exact h2 pins s1 σ' H' D I' q
  | ret v => exact q
  | brk => exact q
  | cont => exact q
theorem pss_one (h1 : PS X st t) : PSs X [st] t := by
  intro pins s σ H D I h
  refine wpAny_execs_cons (thn (h1 pins s σ H D I h) fun f s1 q => ?_)
  cases f with
  | next => exact wpAny_execs_nil q
  | ret v => exact q
  | brk => exact q
  | cont => exact q
def tBreak : TS := fun D σ H => D.bk σ H
def tCont : TS := fun D σ H => D.ct σ H
theorem ps_continue : PS X (.Continue pos) tCont := fun _ _ σ H _ I h => wpAny_Continue ⟨σ, H, I, h⟩
theorem Inv.quiet {pins : List (Addr × Obj)} {σ : St} {H : Hp} {s : Shared} (I : Inv X pins σ H s) : interactive X.env = false := by simp [interactive, I.ok.kind]
def tDrop (te : TE) : TS := fun D σ H => te σ H fun _ H1 => D.nx σ H1
theorem ps_expr (he : PE X e te) (hs : swapsWith e none pos.line X.env = pure false := by rfl) : PS X (.Expr e pos) (tDrop te) := by
  intro pins s σ H D I h
  exact wpAny_Expr_any (thn (he pins s σ H _ I h) fun v s1 ⟨x, H1, I1, r1, q1⟩ => ⟨σ, H1, I1, q1⟩) I.quiet hs
def tRet (te : TE) : TS := fun D σ H => te σ H D.rt
theorem ps_ret (he : PE X e te) : PS X (.Return (some e) pos) (tRet te) := by
  intro pins s σ H D I h
  exact wpAny_Return_some (thn (he pins s σ H _ I h) fun v s1 ⟨x, H1, I1, r1, q1⟩ => ⟨x, σ, H1, I1, r1, q1⟩)
def tRetN : TS := fun D _ H => D.rt .non H
def tIfS (c : TT) (t u : TS) : TS := fun D σ H => c σ H fun b H1 => if b = true then t D σ H1 else u D σ H1
theorem ps_if {c : Expr} {a b : List Stmt} {tc : TT} (hc : PT X c tc) (ha : PSs X a t) (hb : PSs X b u) : PS X (.If c a b pos) (tIfS tc t u) := by
  intro pins s σ H D I h
  refine wpAny_If (thn (hc pins s σ H _ I h) fun d s1 ⟨H1, I1, q1⟩ => ?_)
  cases d with
  | true => exact ha pins s1 σ H1 D I1 q1
  | false => exact hb pins s1 σ H1 D I1 q1
def tNever : TS := fun _ _ _ => False
theorem pss_never {sts : List Stmt} : PSs X sts tNever := fun _ _ _ _ _ _ h => h.elim
end

abbrev TG := V → St → Hp → (St → Hp → Prop) → Prop
abbrev TGs := List V → St → Hp → (St → Hp → Prop) → Prop
def PG (X : Cx) (target : Expr) (t : TG) : Prop :=
  ∀ (pins : List (Addr × Obj)) (s : Shared) (σ : St) (H : Hp) (v : V) (u : Value) (Q : St → Hp → Prop), Inv X pins σ H s → RelV v u → t v σ H Q →
    wpAny (model X.prog X.w) X.A (assign target X.env u) (fun _ s' => ∃ σ' H', Inv X pins σ' H' s' ∧ Q σ' H') X.xe s
def PGs (X : Cx) (ts : List Expr) (t : TGs) : Prop :=
  ∀ (pins : List (Addr × Obj)) (s : Shared) (σ : St) (H : Hp) (vs : List V) (us : List Value) (Q : St → Hp → Prop), Inv X pins σ H s → Vals vs us → t vs σ H Q →
    wpAny (model X.prog X.w) X.A (assignInOrder ((assignEach ts X.env).map (·.2)) us) (fun _ s' => ∃ σ' H', Inv X pins σ' H' s' ∧ Q σ' H') X.xe s
abbrev TSet := V → V → V → Hp → (Hp → Prop) → Prop
def PSet (X : Cx) (t : TSet) : Prop :=
  ∀ (pins : List (Addr × Obj)) (s : Shared) (σ : St) (H : Hp) (o i v : V) (ov iv u : Value) (Q : Hp → Prop), Inv X pins σ H s → RelV o ov → RelV i iv → RelV v u → t o i v H Q →
    wpAny (model X.prog X.w) X.A (setItem ov iv u) (fun _ s' => ∃ H', Inv X pins σ H' s' ∧ Q H') X.xe s
abbrev TIp := V → V → Hp → VK → Prop
def PIp (X : Cx) (op : Operator) (t : TIp) : Prop :=
  ∀ (pins : List (Addr × Obj)) (s : Shared) (σ : St) (H : Hp) (x y : V) (v u : Value) (Q : VK), Inv X pins σ H s → RelV x v → RelV y u → t x y H Q →
    wpAny (model X.prog X.w) X.A (inplaceOp op v u) (EP X pins σ Q) X.xe s
section
variable {X : Cx} {pos : Pos}
def gName (i : Nat) : TG := fun v σ H Q => Q (σ.set i (some v)) H
theorem pg_name {i : Nat} {x : Str} (hN : X.N.Nodup) (hi : X.N[i]? = some x) (hx : Loc X.env.scope x) (hf : X.fn x = true ∨ X.env.scope.names.lookup x = some .local := by first | exact .inl rfl | exact .inr rfl | assumption) : PG X (.Name x pos) (gName i) := by
  intro pins s σ H v u Q I r h
  exact wpAny_assign_Name (store_ok I hN hi hx r (fun s' I' => ⟨_, H, I', h⟩) hf)
def gNil : TGs := fun vs σ H Q => vs = [] ∧ Q σ H
def gCons (t : TG) (u : TGs) : TGs := fun vs σ H Q => ∃ v r, vs = v :: r ∧ t v σ H fun σ' H' => u r σ' H' Q
theorem pgs_nil : PGs X [] gNil := by
  intro pins s σ H vs us Q I r h
  obtain ⟨e, h⟩ := h
  subst e
  cases r
  exact assignInOrder_nil ⟨σ, H, I, h⟩
theorem pgs_cons {e : Expr} {es : List Expr} {t : TG} {u : TGs} (h1 : PG X e t) (h2 : PGs X es u)
    (hs : (assignEach (e :: es) X.env).map (·.2) = assign e X.env :: (assignEach es X.env).map (·.2) := by rfl) : PGs X (e :: es) (gCons t u) := by
  intro pins s σ H vs us Q I r h
  obtain ⟨v, vr, e1, h⟩ := h
  subst e1
  cases r with
  | cons r rr =>
    rw [hs]
    refine assignInOrder_cons (thn (h1 pins s σ H _ _ _ I r h) fun _ s1 ⟨σ1, H1, I1, q1⟩ => ?_)
    exact h2 pins s1 σ1 H1 _ _ Q I1 rr q1
def gTup (K : PySem.W.Frag) (n : Nat) (t : TGs) : TG := fun v σ H Q => ∃ a xs, v = .ref a ∧ SqT K H a xs ∧ xs.length = n ∧ t xs σ H Q
theorem pg_tup {es : List Expr} {k : Nat} {t : TGs} {n : Nat} (hc : X.calm = true) (h : PGs X es t)
    (hn : (assignEach es X.env).length = n := by rfl) (hst : (assignEach es X.env).findIdx? (·.1) = none := by rfl) : PG X (.Tuple es k pos) (gTup X.K n t) := by
  intro pins s σ H v u Q I r hw
  obtain ⟨a, xs, e1, hq, hl, hw⟩ := hw
  subst e1
  cases r
  obtain ⟨its, rv, ht, hz⟩ := I.tuple hq
  refine assign_Tuple_tuple (I.ok.hd hc) ht (by simp [hn, ← hl, rv.length]) hst fun h' hx => ?_
  have I1 : Inv X pins σ H { s with heap := h' } := I.kept (t' := s.toks) fun b o e => hx b o (Nat.ne_of_lt (Heap.lt_size e)) e
  exact h pins _ σ H xs _ Q I1 (by simpa using rv) hw
def gSub (to ti : TE) (t : TSet) : TG := fun v σ H Q => to σ H fun o H1 => ti σ H1 fun i H2 => t o i v H2 fun H3 => Q σ H3
def tAsg (te : TE) (g : TG) : TS := fun D σ H => te σ H fun x H1 => g x σ H1 D.nx
theorem ps_asg {tg e : Expr} {te : TE} {g : TG} (he : PE X e te) (hg : PG X tg g) (hs : swapsWithSole [tg] e pos.line X.env = pure false := by rfl) (hw : swappedStores [tg] e X.env = pure none := by rfl)
    (h1 : (assignEach [tg] X.env).map (·.2) = [assign tg X.env] := by rfl) : PS X (.Assign [tg] e pos) (tAsg te g) := by
  intro pins s σ H D I h
  refine wpAny_Assign_stores (thn (he pins s σ H _ I h) fun v s1 ⟨x, H1, I1, r1, q1⟩ => ?_) hs hw
  rw [h1]
  exact thn (hg pins s1 σ H1 x v _ I1 r1 q1) fun _ s2 q => q
theorem ps_set {i : Nat} {x : Str} {e : Expr} {te : TE} {pos' : Pos} (hN : X.N.Nodup) (hi : X.N[i]? = some x) (hx : Loc X.env.scope x) (he : PE X e te) (hs : swapsWith e (some (.Name x pos')) pos.line X.env = pure false := by rfl) (hf : X.fn x = true ∨ X.env.scope.names.lookup x = some .local := by first | exact .inl rfl | exact .inr rfl | assumption) :
    PS X (.Assign [.Name x pos'] e pos) (tAsg te (gName i)) := by
  intro pins s σ H D I h
  refine wpAny_Assign_Name (thn (he pins s σ H _ I h) fun v s1 ⟨y, H1, I1, r1, q1⟩ => ?_) hs
  exact store_ok I1 hN hi hx r1 (fun s2 I2 => ⟨_, H1, I2, q1⟩) hf
def tPar (i j : Nat) (ta : TA) : TS := fun D σ H => ta σ H fun vs H1 => ∃ v w, vs = [v, w] ∧ D.nx ((σ.set i (some v)).set j (some w)) H1
def tAug (i : Nat) (te : TE) (ti : TIp) : TS := fun D σ H => ∃ x, σ[i]? = some (some x) ∧ te σ H fun y H1 => ti x y H1 fun z H2 => D.nx (σ.set i (some z)) H2
theorem ps_aug {i : Nat} {x : Str} {e : Expr} {te : TE} {op : Operator} {ti : TIp} {pos' : Pos} (hN : X.N.Nodup) (hi : X.N[i]? = some x) (hx : Loc X.env.scope x) (he : PE X e te) (ho : PIp X op ti) (hf : X.fn x = true ∨ X.env.scope.names.lookup x = some .local := by first | exact .inl rfl | exact .inr rfl | assumption) :
    PS X (.AugAssign (.Name x pos') op e pos) (tAug i te ti) := by
  intro pins s σ H D I h
  obtain ⟨v, e1, h⟩ := h
  obtain ⟨m, hn, hl⟩ := I.loc
  have vis : Vis X.env.scope x := by rcases hx with k | k; exact .inl k; exact .inr (.inl k)
  obtain ⟨u, r, l⟩ := hl i x v hi e1 vis
  refine wpAny_AugAssign_Name ?_
  have go : wpAny (model X.prog X.w) X.A (eval e X.env) (fun w s₂ => wpAny (model X.prog X.w) X.A (inplaceOp op u w) (fun r s₃ => wpAny (model X.prog X.w) X.A (storeName X.env x r) (fun _ => SP X pins D .next) X.xe s₃) X.xe s₂) X.xe s := by
    refine thn (he pins s σ H _ I h) fun w s1 ⟨y, H1, I1, r1, q1⟩ => ?_
    refine thn (ho pins s1 σ H1 v y u w _ I1 r r1 q1) fun z s2 ⟨zv, H2, I2, r2, q2⟩ => ?_
    exact store_ok I2 hN hi hx r2 (fun s3 I3 => ⟨_, H2, I3, q2⟩) hf
  rcases l with ⟨hk, hm⟩ | ⟨hk, c, hc, hcell⟩
  · exact wpAny_loadName_local I.ok.kind hk hn hm go
  · rcases hk with hk | hk
    · exact wpAny_loadName_cell I.ok.kind hk hc hcell go
    · rcases hx with k | k
      · have : X.env.scope.names.lookup x = some .free := hk
        rw [k] at this; cases this
      · have : X.env.scope.names.lookup x = some .free := hk
        rw [k] at this; cases this
def tAugS (to ti te : TE) (tget : V → V → Hp → VK → Prop) (tip : TIp) (tset : TSet) : TS := fun D σ H => to σ H fun o H1 => ti σ H1 fun i H2 => tget o i H2 fun x H3 => te σ H3 fun y H4 => tip x y H4 fun z H5 => tset o i z H5 fun H6 => D.nx σ H6
def PGet (X : Cx) (t : V → V → Hp → VK → Prop) : Prop :=
  ∀ (pins : List (Addr × Obj)) (s : Shared) (σ : St) (H : Hp) (o i : V) (ov iv : Value) (Q : VK), Inv X pins σ H s → RelV o ov → RelV i iv → t o i H Q →
    wpAny (model X.prog X.w) X.A (getItem ov iv) (EP X pins σ Q) X.xe s
def ipI (f : Int → Int → Int) : TIp := fun x y H Q => ∃ i j, x = .int i ∧ y = .int j ∧ Q (.int (f i j)) H
theorem ip_add : PIp X .Add (ipI fun i j => i + j) := by
  intro pins s σ H x y v u Q I r1 r2 h
  obtain ⟨i, j, e1, e2, q⟩ := h
  subst e1; subst e2
  obtain ⟨t, rfl⟩ := r1
  obtain ⟨t', rfl⟩ := r2
  exact iadd_int ⟨.int _, H, I.tok _, ⟨_, rfl⟩, q⟩
end

section
variable {X : Cx} {pos : Pos}
def tWhile (c : TT) (tb : TS) : TS := fun D σ H => ∃ W : Nat → St → Hp → Prop, (∃ m, W m σ H) ∧ ∀ m σ H, W m σ H →
  c σ H fun b H1 => if b = true then ∃ N : St → Hp → Prop, (∀ σ' H', N σ' H' → ∃ m', m' < m ∧ W m' σ' H') ∧ tb { D with nx := N, ct := N, bk := D.nx } σ H1 else D.nx σ H1
theorem ps_while {c : Expr} {body : List Stmt} {tc : TT} {tb : TS} (hp : PassesOwn (model X.prog X.w) X.A X.env X.xe) (hc : PT X c tc) (hb : PSs X body tb) : PS X (.While c body [] pos) (tWhile tc tb) := by
  intro pins s σ H D I h
  obtain ⟨W, ⟨m0, w0⟩, turn⟩ := h
  refine wpAny_While (codeAny_whileLoop (fun n s' => ∃ σ' H', Inv X pins σ' H' s' ∧ W n σ' H') ?_ m0 ⟨σ, H, I, w0⟩)
  rintro n s1 ⟨σ1, H1, I1, w1⟩
  refine wpAny_passesOwn hp (thn (hc pins s1 σ1 H1 _ I1 (turn n σ1 H1 w1)) fun b s2 ⟨H2, I2, q2⟩ => ?_)
  cases b with
  | true =>
    obtain ⟨N, hN, q2⟩ := q2
    rw [if_pos rfl]
    refine wpAny_passesOwn hp (thn (hb pins s2 σ1 H2 _ I2 q2) fun f s3 q3 => ?_)
    cases f with
    | next =>
      obtain ⟨σ3, H3, I3, n3⟩ := q3
      obtain ⟨m', hm, w3⟩ := hN σ3 H3 n3
      exact ⟨m', hm, σ3, H3, I3, w3⟩
    | cont =>
      obtain ⟨σ3, H3, I3, n3⟩ := q3
      obtain ⟨m', hm, w3⟩ := hN σ3 H3 n3
      exact ⟨m', hm, σ3, H3, I3, w3⟩
    | brk => exact q3
    | ret v => exact q3
  | false =>
    rw [if_neg Bool.false_ne_true]
    exact wpAny_execs_nil ⟨σ1, H2, I2, q2⟩
end

structure It where
  go : Nat → Hp → Prop
  yld : Nat → Hp → V → Hp → Prop
  stop : Nat → Hp → Prop
def FpOk (X : Cx) (pins : List (Addr × Obj)) (H : Hp) (b : Addr) : Prop :=
  H b = none ∧ b ≠ X.env.locals ∧ b ∉ X.fs ∧ (b ∈ X.ex ∨ X.s₀.heap.objs.size ≤ b) ∧ (∀ x c, X.env.cells.lookup x = some c → c ≠ b) ∧ ∀ p ∈ X.pn ++ pins, p.1 ≠ b
theorem Inv.fpOk {X : Cx} {pins : List (Addr × Obj)} {σ : St} {H H' : Hp} {s : Shared} {b : Addr} (I : Inv X pins σ H s) (hb : s.heap.objs.size ≤ b) (hn : H' b = none) : FpOk X pins H' b := by
  refine ⟨hn, Nat.ne_of_gt (Nat.lt_of_lt_of_le I.lt hb), I.nofs hb, .inr (Nat.le_trans I.sz hb), fun x c e z => ?_, fun p hp z => ?_⟩
  · obtain ⟨v, q⟩ := I.cell x c e
    exact absurd (Nat.lt_of_lt_of_le q.lt (by rw [z]; exact hb)) (Nat.lt_irrefl _)
  · exact absurd (Nat.lt_of_lt_of_le (Heap.lt_size (I.pin p hp).1) (by rw [z]; exact hb)) (Nat.lt_irrefl _)
structure Turn (P : Program) (w : World) (K : PySem.W.Frag) (tg : Expr) (J : It) (fp : List Addr) (it : Addr) (tn : Nat → Heap → Prop) : Prop where
  mem : it ∈ fp
  obj : ∀ i h, tn i h → ∀ b ∈ fp, ∃ o, h.get? b = some o ∧ ∀ v, o.data ≠ .cell v
  keep : ∀ i h h', tn i h → (∀ b ∈ fp, ∀ o, h.get? b = some o → h'.get? b = some o) → tn i h'
  item : ∀ (X : Cx), X.prog = P → X.w = w → X.K = K → X.calm = true → ∀ (i : Nat) (pins : List (Addr × Obj)) (s : Shared) (σ : St) (H : Hp) (E : Value → Shared → Prop), Inv X pins σ H s → (∀ b ∈ fp, FpOk X pins H b) → tn i s.heap → J.go i H →
    wpAny (model P w) X.A (pyNext (.ref it)) (fun r s1 => ∃ u, r = some u ∧
      wpAny (model P w) X.A (letOwnedTupleGo tg (.ref it) u) (fun _ s2 => ∃ x H', Inv X pins σ H' s2 ∧ RelV x u ∧ J.yld i H x H' ∧ tn (i + 1) s2.heap ∧ ∀ b ∈ fp, H' b = none) E s1) E s
  done : ∀ (X : Cx), X.prog = P → X.w = w → X.K = K → X.calm = true → ∀ (i : Nat) (pins : List (Addr × Obj)) (s : Shared) (σ : St) (H : Hp) (E : Value → Shared → Prop), Inv X pins σ H s → (∀ b ∈ fp, FpOk X pins H b) → tn i s.heap → J.stop i H →
    wpAny (model P w) X.A (pyNext (.ref it)) (fun r s1 => r = none ∧ Inv X pins σ H s1) E s
  self : ∀ (A : Around) (i : Nat) (s : Shared) (Q : Value → Shared → Prop) (E : Value → Shared → Prop), tn i s.heap → Q (.ref it) s → wpAny (model P w) A (pyIter (.ref it)) Q E s
abbrev TI := St → Hp → (It → Hp → Prop) → Prop
def PIE (X : Cx) (pins : List (Addr × Obj)) (σ : St) (tg : Expr) (R : It → Hp → Prop) (itv : Value) (s2 : Shared) : Prop :=
  ∃ (it : Addr) (fp : List Addr) (tn : Nat → Heap → Prop) (J : It) (H' : Hp), itv = .ref it ∧ Inv X pins σ H' s2 ∧ Turn X.prog X.w X.K tg J fp it tn ∧ tn 0 s2.heap ∧ (∀ b ∈ fp, FpOk X pins H' b) ∧ R J H'
def PI (X : Cx) (tg iter : Expr) (wi : TI) : Prop :=
  ∀ (pins : List (Addr × Obj)) (s : Shared) (σ : St) (H : Hp) (R : It → Hp → Prop), Inv X pins σ H s → wi σ H R →
    wpAny (model X.prog X.w) X.A (eval iter X.env) (fun v s1 => wpAny (model X.prog X.w) X.A (pyIter v) (PIE X pins σ tg R) X.xe s1) X.xe s

theorem go_of {M : Model} {A : Around} {E : Value → Shared → Prop} {s : Shared} {tg : Expr} {it : Addr} {u : Value} {o : Obj} {n : String} {vs : Array Value} {Q : Unit → Shared → Prop} (ho : s.heap.get? it = some o) (hc : o.cls = .type n) (hd : o.data = .fields vs)
    (hn : ["enumerate", "zip", "dict_itemiterator", "dict_reverseitemiterator", "odict_iterator", "itertools.zip_longest", "itertools.pairwise"].contains n = false) (hQ : Q () s) : wpAny M A (letOwnedTupleGo tg (.ref it) u) Q E s := by
  unfold letOwnedTupleGo
  cases tg <;> first
    | exact wpAny_pure hQ
    | (cases u <;> first
        | exact wpAny_pure hQ
        | (refine wpAny_bind (wpAny_load ho ?_)
           rw [hc, hd]
           show wpAny M A (if (["enumerate", "zip", "dict_itemiterator", "dict_reverseitemiterator", "odict_iterator", "itertools.zip_longest", "itertools.pairwise"].contains n && vs[0]? == some (rawInt _)) = true then _ else _) Q E s
           rw [if_neg (by intro h; rw [hn, Bool.false_and] at h; cases h)]
           exact wpAny_pure hQ))

def Itl (K : PySem.W.Frag) (a : Addr) : It :=
  ⟨fun i H => ∃ xs x, SqL K H a xs ∧ xs[i]? = some x, fun i H x H' => H' = H ∧ ∀ xs, SqL K H a xs → xs[i]? = some x, fun i H => ∃ xs, SqL K H a xs ∧ xs.length ≤ i⟩
def Itt (K : PySem.W.Frag) (a : Addr) : It :=
  ⟨fun i H => ∃ xs x, SqT K H a xs ∧ xs[i]? = some x, fun i H x H' => H' = H ∧ ∀ xs, SqT K H a xs → xs[i]? = some x, fun i H => ∃ xs, SqT K H a xs ∧ xs.length ≤ i⟩
def Itr (lo : Int) (n : Nat) : It := ⟨fun i _ => i < n, fun i H x H' => H' = H ∧ x = .int (lo + i), fun i _ => n ≤ i⟩
theorem turn_list {P : Program} {w : World} {K : PySem.W.Frag} {tg : Expr} (a it : Addr) : Turn P w K tg (Itl K a) [it] it (fun i h => h.IsListIter it a i) where
  mem := by simp
  obj := fun i h st b hb => by
    have e : b = it := by simpa using hb
    subst e
    obtain ⟨o, e, c, d⟩ := st
    exact ⟨o, e, fun v z => by rw [d] at z; cases z⟩
  keep := fun i h h' st k => st.at fun o e => k it (by simp) o e
  item := by
    intro X hP hw hK hc i pins s σ H E I hf st hg
    subst hP hw hK
    obtain ⟨xs, x, hq, hx⟩ := hg
    obtain ⟨its, rv, p, hz⟩ := I.list hq
    obtain ⟨u, hu, ru⟩ := rv.get hx
    obtain ⟨f0, f1, f2, f3, f4, f5⟩ := hf it (by simp)
    refine wpAny_pyNext_list_item st p.isList (x := u) (by simpa using hu) fun h' st' sb => ?_
    have I1 : Inv X pins σ H { s with heap := h' } := I.turned (t' := s.toks) (fun b o hb e => (sb.2 b hb).trans e) f0 f1 f3 f4 f5
    obtain ⟨o, e, c, d⟩ := id st'
    exact ⟨u, rfl, go_of (s := { s with heap := h' }) e c d (by decide) ⟨x, H, I1, ru, ⟨rfl, fun ys hy => by rw [I.list_inj hy hq]; exact hx⟩, st', fun b hb => (hf b hb).1⟩⟩
  done := by
    intro X hP hw hK hc i pins s σ H E I hf st hg
    subst hP hw hK
    obtain ⟨xs, hq, hx⟩ := hg
    obtain ⟨its, rv, p, hz⟩ := I.list hq
    obtain ⟨f0, f1, f2, f3, f4, f5⟩ := hf it (by simp)
    have hl := rv.length
    exact wpAny_pyNext_list_end (I.ok.hd hc) st p.isList (by simp; omega) fun h' eb => ⟨rfl, I.turned (t' := s.toks) (fun b o hb e => eb b o hb e) f0 f1 f3 f4 f5⟩
  self := fun _ _ _ _ _ st h => wpAny_pyIter_listiter st h
theorem turn_tuple {P : Program} {w : World} {K : PySem.W.Frag} {tg : Expr} (a it : Addr) : Turn P w K tg (Itt K a) [it] it (fun i h => h.IsTupleIter it a i) where
  mem := by simp
  obj := fun i h st b hb => by
    have e : b = it := by simpa using hb
    subst e
    obtain ⟨o, e, c, d⟩ := st
    exact ⟨o, e, fun v z => by rw [d] at z; cases z⟩
  keep := fun i h h' st k => st.at fun o e => k it (by simp) o e
  item := by
    intro X hP hw hK hc i pins s σ H E I hf st hg
    subst hP hw hK
    obtain ⟨xs, x, hq, hx⟩ := hg
    obtain ⟨its, rv, p, hz⟩ := I.tuple hq
    obtain ⟨u, hu, ru⟩ := rv.get hx
    obtain ⟨f0, f1, f2, f3, f4, f5⟩ := hf it (by simp)
    refine wpAny_pyNext_tuple_item st (show s.heap.IsTuple a its.toArray from p) (x := u) (by simpa using hu) fun h' st' sb => ?_
    have I1 : Inv X pins σ H { s with heap := h' } := I.turned (t' := s.toks) (fun b o hb e => (sb.2 b hb).trans e) f0 f1 f3 f4 f5
    obtain ⟨o, e, c, d⟩ := id st'
    exact ⟨u, rfl, go_of (s := { s with heap := h' }) e c d (by decide) ⟨x, H, I1, ru, ⟨rfl, fun ys hy => by rw [I.tuple_inj hy hq]; exact hx⟩, st', fun b hb => (hf b hb).1⟩⟩
  done := by
    intro X hP hw hK hc i pins s σ H E I hf st hg
    subst hP hw hK
    obtain ⟨xs, hq, hx⟩ := hg
    obtain ⟨its, rv, p, hz⟩ := I.tuple hq
    obtain ⟨f0, f1, f2, f3, f4, f5⟩ := hf it (by simp)
    have hl := rv.length
    exact wpAny_pyNext_tuple_end (I.ok.hd hc) st (show s.heap.IsTuple a its.toArray from p) (by simp; omega) fun h' eb => ⟨rfl, I.turned (t' := s.toks) (fun b o hb e => eb b o hb e) f0 f1 f3 f4 f5⟩
  self := fun _ _ _ _ _ st h => wpAny_pyIter_tupleiter st h
theorem turn_range {P : Program} {w : World} {K : PySem.W.Frag} {tg : Expr} (it : Addr) (lo : Int) (n : Nat) : Turn P w K tg (Itr lo n) [it] it (fun i h => IsRangeIter h it (lo + (i : Nat) * 1) ((n : Int) - (i : Nat)) 1) where
  mem := by simp
  obj := fun i h st b hb => by
    have e : b = it := by simpa using hb
    subst e
    exact ⟨_, st, fun v z => by
      have z' : Data.fields _ = Data.cell v := z
      cases z'⟩
  keep := fun i h h' st k => k it (by simp) _ st
  item := by
    intro X hP hw hK hc i pins s σ H E I hf st hg
    subst hP hw hK
    obtain ⟨f0, f1, f2, f3, f4, f5⟩ := hf it (by simp)
    have W := Walks.range (prog := X.prog) (w := X.w) (I.ok.hd hc) it lo 1 n
    refine W.item i s _ _ hg st fun v h' tk hv st' kk => ?_
    obtain ⟨t, rfl⟩ := hv
    have I1 : Inv X pins σ H { s with heap := h', toks := tk } := I.turned (fun b o hb e => kk b o (by simpa using hb) e) f0 f1 f3 f4 f5
    refine ⟨_, rfl, go_of (s := { s with heap := h', toks := tk }) (n := "range_iterator") st' rfl rfl (by decide) ⟨.int (lo + i), H, I1, ⟨t, ?_⟩, ⟨rfl, rfl⟩, st', fun b hb => (hf b hb).1⟩⟩
    rw [Int.mul_one]
  done := by
    intro X hP hw hK hc i pins s σ H E I hf st hg
    subst hP hw hK
    obtain ⟨f0, f1, f2, f3, f4, f5⟩ := hf it (by simp)
    exact wpAny_pyNext_range_end (I.ok.hd hc) st (by have : n ≤ i := hg; omega) fun h' eb => ⟨rfl, I.turned (t' := s.toks) (fun b o hb e => eb b o hb e) f0 f1 f3 f4 f5⟩
  self := fun _ _ _ _ _ st h => wpAny_pyIter_rangeiter st h
end L2

namespace L2
open PySem PySem.Spec PyProof.Rows
section
variable {X : Cx} {tg : Expr}
def iList (K : PySem.W.Frag) (tl : TE) : TI := fun σ H R => tl σ H fun x H1 => ∃ a, x = .ref a ∧ (∃ xs, SqL K H1 a xs) ∧ R (Itl K a) H1
def iTup (K : PySem.W.Frag) (tl : TE) : TI := fun σ H R => tl σ H fun x H1 => ∃ a, x = .ref a ∧ (∃ xs, SqT K H1 a xs) ∧ R (Itt K a) H1
theorem range_it {pins : List (Addr × Obj)} {σ : St} {H : Hp} {s : Shared} {R : It → Hp → Prop} {E : Value → Shared → Prop} {lo hi : Int} {t u v : Tok} {tk : Nat} (I : Inv X pins σ H s) (h1 : -(2 ^ 62) ≤ lo) (h2 : lo < 2 ^ 62) (h3 : -(2 ^ 62) ≤ hi) (h4 : hi < 2 ^ 62)
    (q : R (Itr lo (hi - lo).toNat) H) : wpAny (model X.prog X.w) X.A (pyIter (.ref s.heap.objs.size)) (PIE X pins σ tg R) E { s with heap := s.heap.push { cls := .type "range", data := .fields #[.int lo t, .int hi u, .int 1 v] }, toks := tk } := by
  refine wpAny_pyIter_range (IsRange.new ..) (small_one h1 h2 h3 h4) ?_
  have I1 : Inv X pins σ H { s with heap := s.heap.push { cls := .type "range", data := .fields #[.int lo t, .int hi u, .int 1 v] }, toks := tk } := I.kept fun b o e => Heap.get?_push_of_some _ e
  refine ⟨(s.heap.push { cls := .type "range", data := .fields #[.int lo t, .int hi u, .int 1 v] }).objs.size, [(s.heap.push { cls := .type "range", data := .fields #[.int lo t, .int hi u, .int 1 v] }).objs.size], _, _, H, rfl,
    I1.kept (t' := tk) fun b o e => Heap.get?_push_of_some _ e, turn_range _ lo (hi - lo).toNat, ?_, fun b hb => ?_, q⟩
  · have e1 : lo + ((0 : Nat) : Int) * 1 = lo := by simp
    have e2 : (((hi - lo).toNat : Nat) : Int) - ((0 : Nat) : Int) = Builtin.Range.rangeSize lo hi 1 := by rw [rangeSize_one]; split <;> omega
    show IsRangeIter _ _ (lo + ((0 : Nat) : Int) * 1) ((((hi - lo).toNat : Nat) : Int) - ((0 : Nat) : Int)) 1
    rw [e1, e2]
    exact Heap.get?_push_size _ rfl
  · have e : b = (s.heap.push { cls := .type "range", data := .fields #[.int lo t, .int hi u, .int 1 v] }).objs.size := by simpa using hb
    subst e
    exact I1.fpOk (Nat.le_refl _) (I1.hok.fresh (Nat.le_refl _))
def iRng1 (ta : TA) : TI := fun σ H R => ta σ H fun vs H1 => ∃ j : Int, vs = [.int j] ∧ -(2 ^ 62) ≤ j ∧ j < 2 ^ 62 ∧ R (Itr 0 j.toNat) H1
def iRng2 (ta : TA) : TI := fun σ H R => ta σ H fun vs H1 => ∃ i j : Int, vs = [.int i, .int j] ∧ (-(2 ^ 62) ≤ i ∧ i < 2 ^ 62 ∧ -(2 ^ 62) ≤ j ∧ j < 2 ^ 62) ∧ R (Itr i (j - i).toNat) H1
theorem pi_range1 {a : Expr} {ta : TA} {p pos : Pos} (hg : Gl X "range") (hm : X.mg "range" = none) (ha : PA X [a] ta) (hs : starEach [a] X.env = [(false, eval a X.env)] := by rfl) : PI X tg (.Call (.Name "range" p) [a] [] pos) (iRng1 ta) := by
  intro pins s σ H R I h
  refine Call_ (ld_blt I hg hm boot_range (PyProof.Rows.callWith_type1 (thn (ha pos pins s σ H _ I h) fun us s1 ⟨vs, H1, I1, r1, q1⟩ => ?_) hs rfl))
  obtain ⟨j, e, q1, q2, q⟩ := q1
  subst e
  cases r1 with
  | cons r rr =>
    cases rr
    obtain ⟨t, rfl⟩ := r
    exact call_range_1 (range_it I1 (by omega) (by omega) q1 q2 (by simpa using q))
theorem pi_range2 {a b : Expr} {ta : TA} {p pos : Pos} (hg : Gl X "range") (hm : X.mg "range" = none) (ha : PA X [a, b] ta) (hs : starEach [a, b] X.env = [(false, eval a X.env), (false, eval b X.env)] := by rfl) (hs2 : starEach [b] X.env = [(false, eval b X.env)] := by rfl) :
    PI X tg (.Call (.Name "range" p) [a, b] [] pos) (iRng2 ta) := by
  intro pins s σ H R I h
  refine Call_ (ld_blt I hg hm boot_range (PyProof.Rows.callWith_type1 (thn (ha pos pins s σ H _ I h) fun us s1 ⟨vs, H1, I1, r1, q1⟩ => ?_) (by rw [hs, hs2]) (by rw [hs2]; rfl)))
  obtain ⟨i, j, e, ⟨q1, q2, q3, q4⟩, q⟩ := q1
  subst e
  cases r1 with
  | cons r rr =>
    cases rr with
    | cons r' rr =>
      cases rr
      obtain ⟨t, rfl⟩ := r
      obtain ⟨t', rfl⟩ := r'
      exact call_range_2 (range_it I1 q1 q2 q3 q4 q)

def tFor (wi : TI) (g : TG) (tb : TS) : TS := fun D σ H => wi σ H fun J H1 => ∃ W : Nat → Nat → St → Hp → Prop, (∃ m, W 0 m σ H1) ∧ ∀ i m σ H, W i m σ H →
  (J.stop i H ∧ D.nx σ H) ∨ (J.go i H ∧ ∃ N : St → Hp → Prop, (∀ σ' H', N σ' H' → ∃ m', m' < m ∧ W (i + 1) m' σ' H') ∧ ∀ x H', J.yld i H x H' → g x σ H' fun σ2 H2 => tb { D with nx := N, ct := N, bk := D.nx } σ2 H2)
def pinsAt (fp : List Addr) (h : Heap) : List (Addr × Obj) := fp.filterMap fun b => (h.get? b).map fun o => (b, o)
theorem mem_pinsAt {fp : List Addr} {h : Heap} {b : Addr} {o : Obj} (hb : b ∈ fp) (e : h.get? b = some o) : (b, o) ∈ pinsAt fp h := List.mem_filterMap.mpr ⟨b, hb, by rw [e]; rfl⟩
theorem of_pinsAt {fp : List Addr} {h : Heap} {p : Addr × Obj} (hp : p ∈ pinsAt fp h) : p.1 ∈ fp ∧ h.get? p.1 = some p.2 := by
  obtain ⟨b, hb, e⟩ := List.mem_filterMap.mp hp
  cases q : h.get? b with
  | none => rw [q] at e; cases e
  | some o =>
    rw [q] at e
    have e' : (b, o) = p := Option.some.inj e
    subst e'
    exact ⟨hb, q⟩
theorem Inv.pinned {pins : List (Addr × Obj)} {σ : St} {H : Hp} {s : Shared} {fp : List Addr} (I : Inv X pins σ H s) (hf : ∀ b ∈ fp, FpOk X pins H b) (ho : ∀ b ∈ fp, ∃ o, s.heap.get? b = some o ∧ ∀ v, o.data ≠ .cell v) : Inv X (pins ++ pinsAt fp s.heap) σ H s :=
  I.pins_of fun p hp => (List.mem_append.mp hp).elim (fun z => I.pin p (List.mem_append_right _ z)) fun z => by
    obtain ⟨hb, e⟩ := of_pinsAt z
    obtain ⟨f0, f1, f2, _⟩ := hf p.1 hb
    obtain ⟨o, e', d⟩ := ho p.1 hb
    rw [e] at e'; cases e'
    exact ⟨e, f0, f1, f2, d⟩
theorem Inv.unpinned {pins pl : List (Addr × Obj)} {σ : St} {H : Hp} {s : Shared} (I : Inv X (pins ++ pl) σ H s) : Inv X pins σ H s := I.pins_of fun p hp => I.pin p (List.mem_append_right _ (List.mem_append_left _ hp))
theorem ps_for {iter : Expr} {body : List Stmt} {wi : TI} {g : TG} {tb : TS} {pos : Pos} (hp : PassesOwn (model X.prog X.w) X.A X.env X.xe) (hc : X.calm = true) (hi : PI X tg iter wi) (hg : PG X tg g) (hb : PSs X body tb)
    (hs : ∀ x, foldedSetIterable iter X.env x = pure x := by intro _; rfl) : PS X (.For tg iter body [] pos) (tFor wi g tb) := by
  intro pins s σ H D I h
  refine wpAny_For (thn (hi pins s σ H _ I h) fun v s1 h1 => thn h1 fun itv s2 h2 => ?_) hs
  obtain ⟨it, fp, tn, J, H2, e, I2, T, st2, f2, W, ⟨m0, w0⟩, turn⟩ := h2
  subst e
  have stat : ∀ {H' : Hp}, (∀ b ∈ fp, H' b = none) → ∀ b ∈ fp, FpOk X pins H' b := fun hn b hb => ⟨hn b hb, (f2 b hb).2⟩
  refine codeAny_forLoop_any (fun n s' => ∃ i σ' H', Inv X pins σ' H' s' ∧ tn i s'.heap ∧ (∀ b ∈ fp, H' b = none) ∧ W i n σ' H') ?_ m0 ⟨0, σ, H2, I2, st2, fun b hb => (f2 b hb).1, w0⟩
  rintro n s3 ⟨i, σ3, H3, I3, st3, fr3, w3⟩
  rcases turn i n σ3 H3 w3 with ⟨stop, qn⟩ | ⟨go, N, hN, step⟩
  · refine wpAny_passesOwn hp (thn (T.done X rfl rfl rfl hc i pins s3 σ3 H3 X.xe I3 (stat fr3) st3 stop) fun r s4 ⟨hr, I4⟩ => ?_)
    subst hr
    exact wpAny_execs_nil ⟨σ3, H3, I4, qn⟩
  · refine wpAny_passesOwn hp (thn (T.item X rfl rfl rfl hc i pins s3 σ3 H3 X.xe I3 (stat fr3) st3 go) fun r s4 ⟨u, hr, h4⟩ => ?_)
    subst hr
    refine wpAny_passesOwn hp (thn h4 fun _ s5 ⟨x, H5, I5, r5, y5, st5, fr5⟩ => ?_)
    have I5' := I5.pinned (stat fr5) (T.obj _ _ st5)
    refine wpAny_passesOwn hp (thn (hg _ s5 σ3 H5 x u _ I5' r5 (step x H5 y5)) fun _ s6 ⟨σ6, H6, I6, q6⟩ => ?_)
    refine wpAny_passesOwn hp (thn (hb _ s6 σ6 H6 _ I6 q6) fun f s7 q7 => ?_)
    have again : ∀ {σ7 : St} {H7 : Hp}, Inv X (pins ++ pinsAt fp s5.heap) σ7 H7 s7 → N σ7 H7 → ∃ m, m < n ∧ ∃ i σ' H', Inv X pins σ' H' s7 ∧ tn i s7.heap ∧ (∀ b ∈ fp, H' b = none) ∧ W i m σ' H' := fun {σ7 H7} I7 n7 => by
      obtain ⟨m', hm, w7⟩ := hN σ7 H7 n7
      refine ⟨m', hm, i + 1, σ7, H7, I7.unpinned, T.keep _ _ _ st5 fun b hb o e => (I7.pin (b, o) (List.mem_append_right _ (List.mem_append_right _ (mem_pinsAt hb e)))).1, fun b hb => ?_, w7⟩
      obtain ⟨o, e, d⟩ := T.obj _ _ st5 b hb
      exact (I7.pin (b, o) (List.mem_append_right _ (List.mem_append_right _ (mem_pinsAt hb e)))).2.1
    cases f with
    | next => obtain ⟨σ7, H7, I7, n7⟩ := q7; exact again I7 n7
    | cont => obtain ⟨σ7, H7, I7, n7⟩ := q7; exact again I7 n7
    | brk => obtain ⟨σ7, H7, I7, q7⟩ := q7; exact ⟨σ7, H7, I7.unpinned, q7⟩
    | ret v => obtain ⟨x7, σ7, H7, I7, r7, q7⟩ := q7; exact ⟨x7, σ7, H7, I7.unpinned, r7, q7⟩
end

end L2

namespace L2
open PySem PySem.Spec PyProof.Rows

abbrev R2 := V → V → Hp → VK → Prop
def OpR (X : Cx) (f : Value → Value → Sem Value) (r : R2) : Prop :=
  ∀ (pins : List (Addr × Obj)) (s : Shared) (σ : St) (H : Hp) (x y : V) (v u : Value) (Q : VK), Inv X pins σ H s → RelV x v → RelV y u → r x y H Q →
    wpAny (model X.prog X.w) X.A (f v u) (EP X pins σ Q) X.xe s
def UnR (X : Cx) (f : Value → Sem Value) (r : V → Hp → VK → Prop) : Prop :=
  ∀ (pins : List (Addr × Obj)) (s : Shared) (σ : St) (H : Hp) (x : V) (v : Value) (Q : VK), Inv X pins σ H s → RelV x v → r x H Q →
    wpAny (model X.prog X.w) X.A (f v) (EP X pins σ Q) X.xe s
def CallR (X : Cx) (f : Value) (r : List V → Hp → VK → Prop) : Prop :=
  ∀ (pins : List (Addr × Obj)) (s : Shared) (σ : St) (H : Hp) (xs : List V) (us : List Value) (Q : VK), Inv X pins σ H s → Vals xs us → r xs H Q →
    wpAny (model X.prog X.w) X.A (call f us) (EP X pins σ Q) X.xe s
def TruR (X : Cx) (r : V → Hp → (Bool → Hp → Prop) → Prop) : Prop :=
  ∀ (pins : List (Addr × Obj)) (s : Shared) (σ : St) (H : Hp) (x : V) (v : Value) (Q : Bool → Hp → Prop), Inv X pins σ H s → RelV x v → r x H Q →
    wpAny (model X.prog X.w) X.A (truthy v) (TP X pins σ Q) X.xe s

def tOp (r : R2) (ta tb : TE) : TE := fun σ H Q => ta σ H fun x H1 => tb σ H1 fun y H2 => r x y H2 Q
def tUn (r : V → Hp → VK → Prop) (ta : TE) : TE := fun σ H Q => ta σ H fun x H1 => r x H1 Q
def rI (C : Int → Int → Prop) (g : Int → Int → V) : R2 := fun x y H Q => ∃ i j, x = .int i ∧ y = .int j ∧ C i j ∧ Q (g i j) H
def rI0 (g : Int → Int → V) : R2 := fun x y H Q => ∃ i j, x = .int i ∧ y = .int j ∧ Q (g i j) H
def rU (g : Int → V) : V → Hp → VK → Prop := fun x H Q => ∃ i, x = .int i ∧ Q (g i) H

section
variable {X : Cx} {a b c : Expr} {ta tb tc : TE} {pos : Pos}

theorem binT (ha : PE X a ta) (hb : PE X b tb) {pins : List (Addr × Obj)} {s : Shared} {σ : St} {H : Hp} {R : V → V → Hp → Prop} (I : Inv X pins σ H s)
    (h : ta σ H fun x H1 => tb σ H1 fun y H2 => R x y H2) {Q : Value → Shared → Prop} {f : Value → Value → Sem Value}
    (hf : ∀ v u s2 x y H2, Inv X pins σ H2 s2 → RelV x v → RelV y u → R x y H2 → wpAny (model X.prog X.w) X.A (f v u) Q X.xe s2) :
    wpAny (model X.prog X.w) X.A (eval a X.env) (fun v s₁ => wpAny (model X.prog X.w) X.A (eval b X.env) (fun u s₂ => wpAny (model X.prog X.w) X.A (f v u) Q X.xe s₂) X.xe s₁) X.xe s := by
  refine thn (ha pins s σ H _ I h) fun v s1 ⟨x, H1, I1, r1, q1⟩ => ?_
  refine thn (hb pins s1 σ H1 _ I1 q1) fun u s2 ⟨y, H2, I2, r2, q2⟩ => ?_
  exact hf v u s2 x y H2 I2 r1 r2 q2

theorem pe_op {op : Operator} {r : R2} (ho : OpR X (binaryOp op) r) (ha : PE X a ta) (hb : PE X b tb) : PE X (.BinOp a op b pos) (tOp r ta tb) := by
  intro pins s σ H Q I h
  exact wpAny_BinOp (binT ha hb I h fun v u s2 x y H2 I2 rx ry q => ho pins s2 σ H2 x y v u Q I2 rx ry q)
theorem pe_un {op : UnaryOp} {r : V → Hp → VK → Prop} (ho : UnR X (unaryOp op) r) (ha : PE X a ta) : PE X (.UnaryOp op a pos) (tUn r ta) := by
  intro pins s σ H Q I h
  exact UnaryOp_ (thn (ha pins s σ H _ I h) fun v s1 ⟨x, H1, I1, r1, q1⟩ => ho pins s1 σ H1 x v Q I1 r1 q1)
theorem opI {f : Value → Value → Sem Value} {C : Int → Int → Prop} {g : Int → Int → Int}
    (rule : ∀ (i j : Int) (t u : Tok) (s : Shared) (Q : Value → Shared → Prop) (E : Value → Shared → Prop), C i j → Q (.int (g i j) s.toks) { s with toks := s.toks + 1 } → wpAny (model X.prog X.w) X.A (f (.int i t) (.int j u)) Q E s) :
    OpR X f (rI C fun i j => .int (g i j)) := by
  intro pins s σ H x y v u Q I rx ry h
  obtain ⟨i, j, rfl, rfl, hc, q⟩ := h
  obtain ⟨t, rfl⟩ := rx
  obtain ⟨t', rfl⟩ := ry
  exact rule i j t t' s _ _ hc ⟨.int (g i j), H, I.tok _, ⟨_, rfl⟩, q⟩
theorem opI0 {f : Value → Value → Sem Value} {g : Int → Int → Int}
    (rule : ∀ (i j : Int) (t u : Tok) (s : Shared) (Q : Value → Shared → Prop) (E : Value → Shared → Prop), Q (.int (g i j) s.toks) { s with toks := s.toks + 1 } → wpAny (model X.prog X.w) X.A (f (.int i t) (.int j u)) Q E s) :
    OpR X f (rI0 fun i j => .int (g i j)) := by
  intro pins s σ H x y v u Q I rx ry h
  obtain ⟨i, j, rfl, rfl, q⟩ := h
  obtain ⟨t, rfl⟩ := rx
  obtain ⟨t', rfl⟩ := ry
  exact rule i j t t' s _ _ ⟨.int (g i j), H, I.tok _, ⟨_, rfl⟩, q⟩
theorem opB0 {f : Value → Value → Sem Value} {g : Int → Int → Bool}
    (rule : ∀ (i j : Int) (t u : Tok) (s : Shared) (Q : Value → Shared → Prop) (E : Value → Shared → Prop), Q (.bool (g i j)) s → wpAny (model X.prog X.w) X.A (f (.int i t) (.int j u)) Q E s) :
    OpR X f (rI0 fun i j => .bl (g i j)) := by
  intro pins s σ H x y v u Q I rx ry h
  obtain ⟨i, j, rfl, rfl, q⟩ := h
  obtain ⟨t, rfl⟩ := rx
  obtain ⟨t', rfl⟩ := ry
  exact rule i j t t' s _ _ ⟨.bl (g i j), H, I, rfl, q⟩

def CDiv (i j : Int) : Prop := 0 < j ∧ j < 1073741824
def CDivN (i j : Int) : Prop := j ≠ 0 ∧ j.natAbs < 1073741824
def CPow (i j : Int) : Prop := 0 ≤ j ∧ j ≤ 1000000 ∧ i.natAbs < 2 ^ 64
def CMul (i j : Int) : Prop := (-(2 ^ 64) < i ∧ i < 2 ^ 64) ∨ (-(2 ^ 64) < j ∧ j < 2 ^ 64)
theorem op_add : OpR X (binaryOp .Add) (rI0 fun i j => .int (i + j)) := opI0 fun _ _ _ _ _ _ _ q => add_int q
theorem op_sub : OpR X (binaryOp .Sub) (rI0 fun i j => .int (i - j)) := opI0 fun _ _ _ _ _ _ _ q => sub_int q
theorem op_fdiv : OpR X (binaryOp .FloorDiv) (rI CDiv fun i j => .int (i / j)) := opI fun i j _ _ _ _ _ hc q => by
  have h1 : (0 : Int) < j := hc.1
  have h2 : j < 1073741824 := hc.2
  exact floordiv_int (by omega) (by rw [Int.fdiv_eq_ediv_of_nonneg i (by omega)]; exact q) (.inl (PyProof.noPylong_small (by omega)))
theorem op_mod : OpR X (binaryOp .Mod) (rI (fun _ j => 0 < j) fun i j => .int (i % j)) := opI fun i j _ _ _ _ _ hc q => by
  have h1 : (0 : Int) < j := hc
  exact mod_int' (by omega) (by rw [Int.fmod_eq_emod_of_nonneg i (by omega)]; exact q)
theorem op_pow : OpR X (binaryOp .Pow) (rI CPow fun i j => .int (i ^ j.toNat)) := opI fun _ _ _ _ _ _ _ hc q => pow_int_small hc.1 hc.2.1 hc.2.2 q
theorem unI {f : Value → Sem Value} {g : Int → Int}
    (rule : ∀ (i : Int) (t : Tok) (s : Shared) (Q : Value → Shared → Prop) (E : Value → Shared → Prop), Q (.int (g i) s.toks) { s with toks := s.toks + 1 } → wpAny (model X.prog X.w) X.A (f (.int i t)) Q E s) :
    UnR X f (rU fun i => .int (g i)) := by
  intro pins s σ H x v Q I rx h
  obtain ⟨i, rfl, q⟩ := h
  obtain ⟨t, rfl⟩ := rx
  exact rule i t s _ _ ⟨.int (g i), H, I.tok _, ⟨_, rfl⟩, q⟩
theorem un_neg : UnR X (unaryOp .USub) (rU fun i => .int (-i)) := unI fun _ _ _ _ _ q => neg_int q
end

def scal : V → V → Bool
  | .non, .non => true | .non, .int _ => true | .int _, .non => true | .non, .bl _ => true | .bl _, .non => true | .non, .str _ => true | .str _, .non => true
  | .int _, .int _ => true | .bl _, .bl _ => true | .str _, .str _ => true | .byt _, .byt _ => true
  | .int _, .str _ => true | .str _, .int _ => true | .bl _, .str _ => true | .str _, .bl _ => true
  | _, _ => false
def rEq : R2 := fun x y H Q => scal x y = true ∧ Q (.bl (decide (x = y))) H
def rNe : R2 := fun x y H Q => scal x y = true ∧ Q (.bl (!decide (x = y))) H

section
variable {X : Cx} {a b c : Expr} {ta tb tc : TE} {pos : Pos}
theorem fin_bl {pins : List (Addr × Obj)} {σ : St} {H : Hp} {s : Shared} {Q : VK} {k k' : Bool} (I : Inv X pins σ H s) (q : Q (.bl k) H) (e : k = k') : EP X pins σ Q (.bool k') s := by
  subst e
  exact ⟨.bl k, H, I, rfl, q⟩
theorem op_lt : OpR X (compareOp .Lt) (rI0 fun i j => .bl (decide (i < j))) := opB0 fun _ _ _ _ _ _ _ q => lt_int q
theorem op_gt : OpR X (compareOp .Gt) (rI0 fun i j => .bl (decide (j < i))) := opB0 fun _ _ _ _ _ _ _ q => gt_int q
theorem op_isN : OpR X (compareOp .Is) (fun x y H Q => y = .non ∧ Q (.bl (decide (x = .non))) H) := by
  intro pins s σ H x y v u Q I rx ry h
  obtain ⟨rfl, q⟩ := h
  cases ry
  refine is_none_gen (fin_bl I q ?_)
  cases x <;> first
    | (cases rx; rfl)
    | (obtain ⟨t, rfl⟩ := rx; rfl)
theorem op_notN : OpR X (compareOp .IsNot) (fun x y H Q => y = .non ∧ Q (.bl (!decide (x = .non))) H) := by
  intro pins s σ H x y v u Q I rx ry h
  obtain ⟨rfl, q⟩ := h
  cases ry
  refine isnot_none_gen (fin_bl I q ?_)
  cases x <;> first
    | (cases rx; rfl)
    | (obtain ⟨t, rfl⟩ := rx; rfl)

def isObj : HO → Bool
  | .lst _ => true
  | .ins _ _ _ => true
  | _ => false
theorem OpR.or {f : Value → Value → Sem Value} {r r' : R2} (h : OpR X f r) (h' : OpR X f r') : OpR X f (fun x y H Q => r x y H Q ∨ r' x y H Q) := by
  intro pins s σ H x y v u Q I rx ry q
  rcases q with q | q
  · exact h pins s σ H x y v u Q I rx ry q
  · exact h' pins s σ H x y v u Q I rx ry q

theorem nomark (b : Expr) {op : CmpOp} (h : op ≠ .In := by decide) (h2 : op ≠ .NotIn := by decide) : behindInMarks op b = false := by
  have e1 : (op == CmpOp.In) = false := by cases op <;> first | rfl | exact absurd rfl h
  have e2 : (op == CmpOp.NotIn) = false := by cases op <;> first | rfl | exact absurd rfl h2
  cases b <;> simp [behindInMarks, e1, e2]
theorem pe_cmpR {op : CmpOp} {r : R2} (ho : OpR X (compareOp op) r) (ha : PE X a ta) (hb : PE X b tb) (hm : behindInMarks op b = false) : PE X (.Compare a [op] [b] pos) (tOp r ta tb) := by
  intro pins s σ H Q I h
  exact wpAny_Compare1 (binT ha hb I h fun v u s2 x y H2 I2 rx ry q => ho pins s2 σ H2 x y v u Q I2 rx ry q) hm
def tTest (t : TE) : TT := fun σ H Q => t σ H fun x H' => ∃ k, x = .bl k ∧ Q k H'
theorem pt_cmpR {op : CmpOp} {r : R2} (ho : OpR X (compareOp op) r) (ha : PE X a ta) (hb : PE X b tb) (hm : behindInMarks op b = false) : PT X (.Compare a [op] [b] pos) (tTest (tOp r ta tb)) := by
  intro pins s σ H Q I h
  refine wpAny_isTrue_Compare1 (thn (ha pins s σ H _ I h) fun v s1 ⟨x, H1, I1, r1, q1⟩ => thn (hb pins s1 σ H1 _ I1 q1) fun u s2 ⟨y, H2, I2, r2, q2⟩ =>
    thn (ho pins s2 σ H2 x y v u _ I2 r1 r2 q2) fun c s3 ⟨z, H3, I3, r3, k, e, q3⟩ => ?_) hm
  subst e
  cases r3
  exact wpAny_truthy_bool ⟨H3, I3, q3⟩
def tChain (r r' : R2) (ta tb tc : TE) : TE := fun σ H Q => ta σ H fun x H1 => tb σ H1 fun y H2 => r x y H2 fun z H3 => ∃ k, z = .bl k ∧
  (if k = true then tc σ H3 fun w' H4 => r' y w' H4 Q else Q (.bl false) H3)
def TruV (K : PySem.W.Frag) (x : V) (H : Hp) (k : Bool) : Prop :=
  match x with
  | .non => k = false
  | .bl b => k = b
  | .int i => k = (i != 0)
  | .str y => y.length ≤ sizeLine ∧ k = ((y.length : Int) != 0)
  | .byt y => y.size ≤ sizeLine ∧ k = ((y.size : Int) != 0)
  | .ref p => (∃ xs, SqL K H p xs ∧ k = !xs.isEmpty) ∨ (∃ xs, SqT K H p xs ∧ k = !xs.isEmpty) ∨ ∃ kvs, H p = some (.dK kvs) ∧ k = !kvs.isEmpty
  | _ => False
theorem isEmpty_kv {κ : Type} {kvs : List (κ × V)} {vs : List (κ × Value)} (r : KV kvs vs) : (!vs.isEmpty) = !kvs.isEmpty := by
  cases r <;> rfl
theorem isEmpty_of {xs : List V} {its : List Value} (r : Vals xs its) : (!its.toArray.isEmpty) = !xs.isEmpty := by
  cases r <;> simp
theorem line63 : (sizeLine : Nat) < 2 ^ 63 := by rw [sizeLine_eq]; decide
theorem tru_ok : TruR X (fun x H Q => ∃ k, TruV X.K x H k ∧ Q k H) := by
  intro pins s σ H x v Q I rx h
  obtain ⟨k, e, q⟩ := h
  have hl := line63
  have hs : sizeLine = 16777216 := sizeLine_eq
  cases x with
  | non =>
    cases rx
    have e' : k = false := e
    subst e'
    exact truthy_none ⟨H, I, q⟩
  | bl b =>
    cases rx
    have e' : k = b := e
    subst e'
    exact wpAny_truthy_bool ⟨H, I, q⟩
  | int i =>
    obtain ⟨t, rfl⟩ := rx
    have e' : k = (i != 0) := e
    subst e'
    exact PySem.P.truthy_int ⟨H, I, q⟩
  | str y =>
    obtain ⟨t, rfl⟩ := rx
    obtain ⟨hy, e'⟩ : y.length ≤ sizeLine ∧ k = ((y.length : Int) != 0) := e
    subst e'
    exact PySem.P.truthy_str (by omega) ⟨H, I.tok _, q⟩
  | byt y =>
    obtain ⟨t, rfl⟩ := rx
    obtain ⟨hy, e'⟩ : y.size ≤ sizeLine ∧ k = ((y.size : Int) != 0) := e
    subst e'
    exact PySem.W.truthy_bytes (by omega) ⟨H, I.tok _, q⟩
  | ref p =>
    cases rx
    have e' : (∃ xs, SqL X.K H p xs ∧ k = !xs.isEmpty) ∨ (∃ xs, SqT X.K H p xs ∧ k = !xs.isEmpty) ∨ ∃ kvs, H p = some (.dK kvs) ∧ k = !kvs.isEmpty := e
    rcases e' with ⟨xs, hx, e'⟩ | ⟨xs, hx, e'⟩ | ⟨kvs, hx, e'⟩
    · subst e'
      obtain ⟨its, r, pl, hz⟩ := I.list hx
      have hlen := r.length
      exact wpAny_truthy_list pl.isList (by simp only [List.size_toArray]; omega) ⟨H, I.tok _, by rw [isEmpty_of r]; exact q⟩
    · subst e'
      obtain ⟨its, r, pl, hz⟩ := I.tuple hx
      have hlen := r.length
      exact truthy_tuple pl (by simp only [List.size_toArray]; omega) ⟨H, I.tok _, by rw [isEmpty_of r]; exact q⟩
    · subst e'
      obtain ⟨hz, hS, vs, r, m⟩ : kvs.length ≤ sizeLine ∧ (p == sysModules) = false ∧ ∃ vs, KV kvs vs ∧ s.heap.DictOf (mixKind X.prog X.w) p vs := I.hok p _ hx
      have hlen : kvs.length = vs.length := Paired.length r
      exact wpAny_truthy_dict hS m (by omega) ⟨H, I.tok _, by rw [isEmpty_kv r]; exact q⟩
  | _ => exact (show False from e).elim
theorem pt_truth (ha : PE X a ta) (he : ∀ whole, isTrue a X.env whole = (do let v ← whole; standAt a.pos; holding [v] (truthy v))) :
    PT X a (fun σ H Q => ta σ H fun x H' => ∃ k, TruV X.K x H' k ∧ Q k H') := by
  intro pins s σ H Q I h
  exact isTrue_plain (thn (ha pins s σ H _ I h) fun v s1 ⟨x, H1, I1, r1, q1⟩ => tru_ok pins s1 σ H1 x v Q I1 r1 q1) (he _)

theorem op_add_str : OpR X (binaryOp .Add) (fun x y H Q => ∃ i j, x = .str i ∧ y = .str j ∧ i.length + j.length ≤ sizeLine ∧ Q (.str (i ++ j)) H) := by
  intro pins s σ H x y v u Q I rx ry h
  obtain ⟨i, j, rfl, rfl, hz, q⟩ := h
  obtain ⟨t, rfl⟩ := rx
  obtain ⟨t', rfl⟩ := ry
  exact add_str (fun t' tk => ⟨.str (i ++ j), H, I.tok _, ⟨_, rfl⟩, q⟩) hz
def PlainIxT (b : Expr) : Prop := ∀ o i, subscripted b false o i = operate [o, i] (getItem o i)
theorem vals1 {x : V} {us : List Value} (r : Vals [x] us) : ∃ u, us = [u] ∧ RelV x u := by
  cases r with
  | cons r1 r2 => cases r2; exact ⟨_, rfl, r1⟩
theorem vals2 {x y : V} {us : List Value} (r : Vals [x, y] us) : ∃ u w', us = [u, w'] ∧ RelV x u ∧ RelV y w' := by
  cases r with
  | cons r1 r2 =>
    cases r2 with
    | cons r3 r4 => cases r4; exact ⟨_, _, rfl, r1, r3⟩
def LenV (K : PySem.W.Frag) (x : V) (H : Hp) (n : Nat) : Prop :=
  match x with
  | .str y => y.length ≤ sizeLine ∧ n = y.length
  | .byt y => y.size ≤ sizeLine ∧ n = y.size
  | .ref p => (∃ xs, SqL K H p xs ∧ n = xs.length) ∨ ∃ xs, SqT K H p xs ∧ n = xs.length
  | _ => False
theorem call_divmod : CallR X (.builtin "divmod") (fun xs H Q => ∃ i j, xs = [.int i, .int j] ∧ CDiv i j ∧ ∀ p, H p = none → Q (.ref p) (upd H p (.tup [.int (i / j), .int (i % j)]))) := by
  intro pins s σ H xs us Q I r h
  obtain ⟨i, j, rfl, ⟨h1, h2⟩, q⟩ := h
  obtain ⟨u, w', rfl, ⟨t, rfl⟩, ⟨t', rfl⟩⟩ := vals2 r
  refine divmod_int (by omega) ?_ (.inl (PyProof.noPylong_small (by omega)))
  rw [Int.fdiv_eq_ediv_of_nonneg i (by omega), Int.fmod_eq_emod_of_nonneg i (by omega)]
  have hn : H s.heap.objs.size = none := I.hok.fresh (Nat.le_refl _)
  refine ⟨.ref s.heap.objs.size, _, ?_, rfl, q _ hn⟩
  refine I.laid (fun b o e => Heap.get?_push_of_some _ e) (Nat.le_refl _) ⟨by simp only [List.length_cons, List.length_nil]; rw [sizeLine_eq]; decide, [.int (i / j) s.toks, .int (i % j) (s.toks + 1)], .cons ⟨_, rfl⟩ (.cons ⟨_, rfl⟩ .nil), ?_⟩
  exact ⟨_, Heap.get?_push_size s.heap rfl, rfl, 0, rfl⟩
end
end L2

namespace L2
open PySem PySem.Spec PyProof.Rows

structure ObjM (h : Heap) (x dx C : Addr) (mA : Str → Option Value) : Prop where
  obj : h.get? x = some (PySem.W.instObj C dx)
  ns : h.Ns1 dx mA
  ne : dx ≠ x

theorem lookIn_ns {h : Heap} {dx : Addr} {mA : Str → Option Value} (n : h.Ns1 dx mA) : ∃ od, h.get? dx = some od ∧ ∀ name, PySem.W.lookIn name od = some (mA name) := by
  obtain ⟨o, es, ep, ho, hd, hk, _, hm⟩ := n
  refine ⟨o, ho, fun name => ?_⟩
  have e := hm name
  unfold nsFind findBy at e
  rw [← Array.find?_toList] at e
  unfold PySem.W.lookIn
  rw [hd]
  dsimp only
  split
  · rename_i y q
    rw [q] at e
    exact congrArg some e
  · rename_i q
    rw [q] at e
    have a : es.toList.any (·.refKey) = false := by
      rw [List.any_eq_false]
      intro y hy
      obtain ⟨z, t, hkey⟩ := hk y (Array.mem_toList_iff.mp hy)
      simp [DictEntry.refKey, hkey]
    have a' : ¬ es.toList.any (·.refKey) = true := by rw [a]; exact Bool.false_ne_true
    rw [if_neg a']
    exact congrArg some e

theorem ObjM.look {h : Heap} {x dx C : Addr} {mA : Str → Option Value} (I : ObjM h x dx C mA) : ∃ od, PySem.W.InstAt h x (PySem.W.instObj C dx) C (some od) ∧ ∀ name, PySem.W.lookIn name od = some (mA name) :=
  let ⟨od, ho, hl⟩ := lookIn_ns I.ns
  ⟨od, ⟨I.obj, rfl, rfl, ho⟩, hl⟩

section
variable {prog : Program} {w : World} {A : Around} {E : Value → Shared → Prop} {s : Shared} {K : PySem.W.Frag} {x dx C f : Addr} {mA : Str → Option Value} {name : Str} {v : Value}

end

def putF (f : Str) (v : V) : List (Str × V) → List (Str × V)
  | [] => [(f, v)]
  | (g, x) :: r => if g = f then (g, v) :: r else (g, x) :: putF f v r
theorem RelO.some_of {v : V} {o : Option Value} (r : RelO (some v) o) : ∃ u, o = some u ∧ RelV v u := by
  cases o with
  | none => exact (show False from r).elim
  | some u => exact ⟨u, rfl, r⟩
section
variable {P : Program} {w : World} {H H' : Hp} {h h' : Heap} {a C dx : Addr} {fs fs' : List (Str × V)}
theorem ins_get (hok : HOk P w H h) (e : H a = some (.ins C dx fs)) : ∃ mA, ObjM h a dx C mA ∧ (∀ f, RelO (fs.lookup f) (mA f)) ∧ PySem.Within mA (fs.map (·.1)) ∧ fs.length ≤ 1000 ∧ H dx = some (.own a) := by
  obtain ⟨d, z, ne, ob, mA, n, r, q⟩ := (show ObjOk P w H h a (.ins C dx fs) from hok a _ e)
  exact ⟨mA, ⟨ob, n, ne⟩, r, q, z, d⟩
end

structure Cls (K : PySem.W.Frag) (C : Addr) : Prop where
  pg : PySem.W.plainGet K C Str.empty = true
  hd : PySem.W.hasDictIn K C = true
  po : PySem.W.plainOver K C = true
  sa : PySem.W.findIn K (.ref C) "__setattr__" = some (some (.builtin "object.__setattr__"))
theorem Cls.get {K : PySem.W.Frag} {C : Addr} (c : Cls K C) (f : Str) : PySem.W.plainGet K C f = true := c.pg
def NoAttr (K : PySem.W.Frag) (C : Addr) (f : Str) : Prop := PySem.W.findIn K (.ref C) f = some none
structure Con (K : PySem.W.Frag) (C : Addr) (f : Str) (v : V) (u : Value) : Prop where
  at_ : PySem.W.findIn K (.ref C) f = some (some u)
  rel : RelV v u
  get : PySem.W.specialIn K u "__get__" = some none
  cp : PySem.W.copiedNames.contains f = false
structure Meth (K : PySem.W.Frag) (C : Addr) (m : Str) (f : Addr) : Prop where
  at_ : PySem.W.findIn K (.ref C) m = some (some (.ref f))
  fn : PySem.W.isFn K (.ref f) = true
  kp : PySem.W.keepIn K (.ref f) = true

section
variable {X : Cx} {pins : List (Addr × Obj)} {σ : St} {H : Hp} {s : Shared} {a C dx : Addr} {fs : List (Str × V)} {f : Str} {v : V} {A : Around} {E : Value → Shared → Prop}

end

def tFld (K : PySem.W.Frag) (ta : TE) (f : Str) : TE := fun σ H Q => ta σ H fun x H1 => ∃ a C dx fs v, x = .ref a ∧ H1 a = some (.ins C dx fs) ∧ Cls K C ∧ NoAttr K C f ∧ fs.lookup f = some v ∧ Q v H1
def tCon (K : PySem.W.Frag) (ta : TE) (f : Str) : TE := fun σ H Q => ta σ H fun x H1 => ∃ a C dx fs v u, x = .ref a ∧ H1 a = some (.ins C dx fs) ∧ Cls K C ∧ Con K C f v u ∧ fs.lookup f = none ∧ Q v H1
def sFld (K : PySem.W.Frag) (ta tv : TE) (f : Str) : TS := fun D σ H => tv σ H fun y H1 => ta σ H1 fun x H2 => ∃ a C dx fs, x = .ref a ∧ H2 a = some (.ins C dx fs) ∧ Cls K C ∧ NoAttr K C f ∧ fs.length < 1000 ∧
  D.nx σ (upd H2 a (.ins C dx (putF f y fs)))
def InOp (X : Cx) (op : Operator) (rd : V → V → Hp → VK → Prop) : Prop :=
  ∀ (pins : List (Addr × Obj)) (s : Shared) (σ : St) (H : Hp) (x y : V) (u v : Value) (Q : VK), Inv X pins σ H s → RelV x u → RelV y v → rd x y H Q → wpAny (model X.prog X.w) X.A (inplaceOp op u v) (EP X pins σ Q) X.xe s
def sFldAug (K : PySem.W.Frag) (ta tv : TE) (rd : V → V → Hp → VK → Prop) (f : Str) : TS := fun D σ H => ta σ H fun x H1 => ∃ a C dx fs v, x = .ref a ∧ H1 a = some (.ins C dx fs) ∧ Cls K C ∧ NoAttr K C f ∧ fs.lookup f = some v ∧
  tv σ H1 fun y H2 => rd v y H2 fun z H3 => ∃ dx' fs', H3 a = some (.ins C dx' fs') ∧ fs'.length < 1000 ∧ D.nx σ (upd H3 a (.ins C dx' (putF f z fs')))

section
variable {X : Cx} {o e value : Expr} {f : Str} {pos pos' tpos : Pos} {ta tv : TE}
def rAdd : V → V → Hp → VK → Prop := fun x y H Q => ∃ i j, x = .int i ∧ y = .int j ∧ Q (.int (i + j)) H
def rSub : V → V → Hp → VK → Prop := fun x y H Q => ∃ i j, x = .int i ∧ y = .int j ∧ Q (.int (i - j)) H
end

section
variable {X : Cx} {pins : List (Addr × Obj)} {σ : St} {H : Hp} {s : Shared} {A : Around} {E : Value → Shared → Prop} {Q : Value → Shared → Prop} {c : Value} {b : Bool}
inductive TyOf (K : PySem.W.Frag) (H : Hp) : V → Value → Prop where
  | non : TyOf K H .non (.type "NoneType")
  | bl (x : Bool) : TyOf K H (.bl x) (.type "bool")
  | int (i : Int) : TyOf K H (.int i) (.type "int")
  | str (x : Str) : TyOf K H (.str x) (.type "str")
  | flt (x : UInt64) : TyOf K H (.flt x) (.type "float")
  | lst {a : Addr} {xs : List V} (e : H a = some (.lst xs)) : TyOf K H (.ref a) (.type "list")
  | frz {a : Addr} {o : Obj} {xs : List V} (e : H a = some (.frz o (.lst xs))) : TyOf K H (.ref a) (.type "list")
  | tup {a : Addr} {xs : List V} (e : H a = some (.tup xs)) : TyOf K H (.ref a) (.type "tuple")
  | dK {a : Addr} {kvs : List (Key × V)} (e : H a = some (.dK kvs)) : TyOf K H (.ref a) (.type "dict")
  | dT {a : Addr} {kvs : List (List Key × V)} (e : H a = some (.dT kvs)) : TyOf K H (.ref a) (.type "dict")
  | ins {a C dx : Addr} {fs : List (Str × V)} (e : H a = some (.ins C dx fs)) (cl : Cls K C) (ha : PySem.W.findIn K (.ref C) "__class__" = some (some (.builtin "object.__class__")))
      (hn : PySem.W.specialIn K (.builtin "object.__class__") "__get__" = some (some (.builtin "getset_descriptor.__get__"))) (htk : PySem.W.takesIn K (.builtin "object.__class__") = some true)
      (hm : PySem.W.mroIn K C (.type "object") = some true) : TyOf K H (.ref a) (.ref C)
theorem isinst_ok {x : V} {u t : Value} (I : Inv X pins σ H s) (rx : RelV x u) (ty : TyOf X.K H x t) (e : PySem.W.kitOne X.K t c = some b) (h : ∀ tk, Q (.bool b) { s with toks := tk }) :
    wpAny (model X.prog X.w) A (call (.builtin "isinstance") [u, c]) Q E s := by
  cases ty with
  | non => cases (show u = Value.none from rx); exact PySem.W.kia_one PySem.W.kitx_none I.kIn True.intro e (fun z => nomatch z) h
  | bl y => cases (show u = Value.bool y from rx); exact PySem.W.kia_one PySem.W.kitx_bool I.kIn True.intro e (fun z => nomatch z) h
  | int i => obtain ⟨t, q⟩ := (show ∃ t, u = Value.int i t from rx); cases q; exact PySem.W.kia_one PySem.W.kitx_int I.kIn True.intro e (fun z => nomatch z) h
  | str y => obtain ⟨t, q⟩ := (show ∃ t, u = Value.str y t from rx); cases q; exact PySem.W.kia_one PySem.W.kitx_str I.kIn True.intro e (fun z => nomatch z) h
  | flt y => obtain ⟨t, q⟩ := (show ∃ t, u = Value.float y t from rx); cases q; exact PySem.W.kia_one PySem.W.kitx_float I.kIn True.intro e (fun z => nomatch z) h
  | @lst a xs ea =>
    cases (show u = Value.ref a from rx)
    obtain ⟨_, _, n, _, h1⟩ := (show ObjOk X.prog X.w H s.heap a (.lst xs) from I.hok a _ ea)
    exact PySem.W.kia_one PySem.W.kitx_list I.kIn ⟨_, h1, rfl⟩ e (fun z => nomatch z) h
  | @frz a ob xs ea =>
    cases (show u = Value.ref a from rx)
    obtain ⟨_, _, _, n, _, h1⟩ := (show ObjOk X.prog X.w H s.heap a (.frz ob (.lst xs)) from I.hok a _ ea)
    exact PySem.W.kia_one PySem.W.kitx_list I.kIn ⟨_, h1, rfl⟩ e (fun z => nomatch z) h
  | @tup a xs ea =>
    cases (show u = Value.ref a from rx)
    obtain ⟨_, _, _, p⟩ := (show ObjOk X.prog X.w H s.heap a (.tup xs) from I.hok a _ ea)
    obtain ⟨o, h1, h2, _⟩ := p
    exact PySem.W.kia_one PySem.W.kitx_tuple I.kIn ⟨o, h1, h2⟩ e (fun z => nomatch z) h
  | @dK a kvs ea =>
    cases (show u = Value.ref a from rx)
    obtain ⟨_, _, vs, _, p⟩ := (show ObjOk X.prog X.w H s.heap a (.dK kvs) from I.hok a _ ea)
    obtain ⟨o, es, ep, h1, h2, _⟩ := p
    exact PySem.W.kia_one PySem.W.kitx_dict I.kIn ⟨o, h1, h2.1⟩ e (fun z => nomatch z) h
  | @dT a kvs ea =>
    cases (show u = Value.ref a from rx)
    obtain ⟨_, _, xs, _, o, es, ep, h1, h2, _⟩ := (show ObjOk X.prog X.w H s.heap a (.dT kvs) from I.hok a _ ea)
    exact PySem.W.kia_one PySem.W.kitx_dict I.kIn ⟨o, h1, h2.1⟩ e (fun z => nomatch z) h
  | @ins a C dx fs ea cl ha hn htk hm =>
    cases (show u = Value.ref a from rx)
    obtain ⟨mA, O, _⟩ := ins_get I.hok ea
    obtain ⟨od, J, _⟩ := O.look
    exact PySem.W.kia_one (PySem.W.kitx_own (cl.get _) cl.hd ha hn htk hm) I.kIn J e (fun z => nomatch z) h
end
end L2

namespace L2
open PySem PySem.Spec PyProof.Rows

structure Room (k : Nat) (A : Around) : Prop where
  hd : A.handled = none
  dp : A.depth + 3 * k + 5 < recursionLimit
  un : A.units + 16 * k + 200 < cLine
theorem Room.mono {j k : Nat} {A : Around} (r : Room k A) (h : j ≤ k) : Room j A := ⟨r.hd, by have := r.dp; omega, by have := r.un; omega⟩
theorem Room.deeper {k : Nat} {A : Around} (r : Room (k + 1) A) (env : Env) : Room k (A.deeper env) :=
  ⟨r.hd, by have := r.dp; show A.depth + 1 + 3 * k + 5 < _; omega, by have := r.un; show A.units + 3 + 16 * k + 200 < _; omega⟩
theorem Room.depth {k : Nat} {A : Around} (r : Room k A) : A.depth < recursionLimit := by have := r.dp; omega
theorem Room.units {k : Nat} {A : Around} (r : Room k A) : A.units + 64 < cLine := by have := r.un; omega
def tNil : TA := fun _ H Q => Q [] H
def tCons (ta : TE) (tr : TA) : TA := fun σ H Q => ta σ H fun x H1 => tr σ H1 fun xs H2 => Q (x :: xs) H2
section
variable {X : Cx} {e : Expr} {es : List Expr} {te : TE} {t : TA} {pos : Pos}
theorem pa_nil : PA X [] tNil := fun _ _ _ _ H Q I h => Calls.spliced_nil ⟨[], H, I, .nil, h⟩
theorem pa_cons (ha : PE X e te) (hr : PA X es t) (hs : starEach (e :: es) X.env = (false, eval e X.env) :: starEach es X.env := by rfl) : PA X (e :: es) (tCons te t) := by
  intro pos pins s σ H Q I h
  rw [hs]
  show wpAny _ _ (spliced ((false, eval e X.env) :: backTo pos (starEach es X.env))) _ _ s
  refine Calls.spliced_cons (thn (ha pins s σ H _ I h) fun u s1 ⟨x, H1, I1, r1, q1⟩ => ?_)
  exact thn (hr pos pins s1 σ H1 _ I1 q1) fun us s2 ⟨xs, H2, I2, r2, q2⟩ => ⟨x :: xs, H2, I2, .cons r1 r2, q2⟩

def tTup (t : TA) : TE := fun σ H Q => t σ H fun xs H1 => xs.length ≤ sizeLine ∧ ∀ p, H1 p = none → Q (.ref p) (upd H1 p (.tup xs))
def tLst (t : TA) : TE := fun σ H Q => t σ H fun xs H1 => xs.length ≤ sizeLine ∧ ∀ p, H1 p = none → Q (.ref p) (upd H1 p (.lst xs))
theorem pe_tup {x1} (h : PA X es t) : PE X (.Tuple es x1 pos) (tTup t) := by
  intro pins s σ H Q I hq
  refine wpAny_Tuple_spliced (thn (h pos pins s σ H _ I hq) fun us s1 ⟨xs, H1, I1, r, z, q⟩ => ⟨by rw [← r.length]; exact z, ?_⟩)
  have hf : H1 s1.heap.objs.size = none := I1.hok.fresh (Nat.le_refl _)
  refine ⟨.ref s1.heap.objs.size, upd H1 s1.heap.objs.size (.tup xs), I1.laid (t' := s1.toks) (fun b u e => Heap.get?_push_of_some _ e) (Nat.le_refl _) ?_, rfl, q _ hf⟩
  exact ⟨z, us, r, ⟨_, Heap.get?_push_size _ rfl, rfl, _, rfl⟩⟩
theorem pe_lst (h : PA X es t) : PE X (.List es pos) (tLst t) := by
  intro pins s σ H Q I hq
  refine wpAny_List_spliced (thn (h pos pins s σ H _ I hq) fun us s1 ⟨xs, H1, I1, r, z, q⟩ => ⟨by rw [← r.length]; exact z, ?_⟩)
  have hf : H1 s1.heap.objs.size = none := I1.hok.fresh (Nat.le_refl _)
  refine ⟨.ref s1.heap.objs.size, upd H1 s1.heap.objs.size (.lst xs), I1.laid (t' := s1.toks) (fun b u e => Heap.get?_push_of_some _ e) (Nat.le_refl _) ?_, rfl, q _ hf⟩
  exact ⟨z, us, 0, r, Heap.get?_push_size _ rfl⟩
end

abbrev Sp := List V → Hp → VK → XK → Prop
abbrev CXT := List Env → Hp → Shared → XK → Value → Shared → Prop

structure Env0 (P : Program) (w : World) (K : PySem.W.Frag) (mg : Str → Option Value) (base : Heap) (A : Around) (outer : List Env) (s : Shared) (H : Hp) : Prop where
  frames : A.frames = some outer
  mod : Mod K mg base
  bs : ∀ b o, base.get? b = some o → s.heap.get? b = some o ∧ H b = none
  bsz : base.objs.size ≤ s.heap.objs.size
  funs : s.heap.FunFrames base outer
  frf : ∀ b ∈ frs outer, H b = none
  hok : HOk P w H s.heap
  bare : AllBare s.gens
def CE (outer : List Env) (P : Program) (w : World) (H : Hp) (s : Shared) (Q : VK) (u : Value) (s' : Shared) : Prop :=
  ∃ v H', s'.os = s.os ∧ AllBare s'.gens ∧ Un (frs outer) [] H H' s.heap s'.heap ∧ HOk P w H' s'.heap ∧ RelV v u ∧ Q v H'
def CR (CX : CXT) (outer : List Env) (P : Program) (w : World) (H : Hp) (s : Shared) (Q : VK) (E : XK) (r : Result) (s' : Shared) : Prop :=
  match r with
  | .ok (.ret u) => CE outer P w H s Q u s'
  | .ok _ => False
  | .error e => CX outer H s E e s'
structure FnOk (P : Program) (w : World) (K : PySem.W.Frag) (mg : Str → Option Value) (base : Heap) (CX : CXT) (k : Nat) (f : Addr) (fd : FuncData) (ps : List Str) (sp : Sp) : Prop where
  len : ∀ vs H Q E, sp vs H Q E → vs.length = ps.length
  run : ∀ (A : Around) (outer : List Env) (s : Shared) (H : Hp) (args : Args) (us : List Value) (vs : List V) (Q : VK) (E : XK), Room k A → Env0 P w K mg base A outer s H → BindsTo s fd args (ps.zip us) → Vals vs us → sp vs H Q E →
    codeAny (model P w) A (.call (.ref f) args) (CR CX outer P w H s Q E) s
theorem FnOk.mono {P : Program} {w : World} {K : PySem.W.Frag} {mg : Str → Option Value} {base : Heap} {CX : CXT} {j k : Nat} {f : Addr} {fd : FuncData} {ps : List Str} {sp : Sp} (F : FnOk P w K mg base CX j f fd ps sp) (h : j ≤ k) :
    FnOk P w K mg base CX k f fd ps sp := ⟨F.len, fun A outer s H args us vs Q E hr => F.run A outer s H args us vs Q E (hr.mono h)⟩
section
variable {X : Cx} {pins : List (Addr × Obj)} {σ : St} {H : Hp} {s s' : Shared}
theorem Inv.env0 (I : Inv X pins σ H s) : Env0 X.prog X.w X.K X.mg X.base X.A X.stack s H :=
  ⟨I.ok.frames, I.ok.mod, I.bs, Nat.le_trans I.ok.bsz I.sz, I.stack, I.stkFree, I.hok, I.bare⟩
theorem Inv.after {Q : VK} {u : Value} (I : Inv X pins σ H s) (h : CE X.stack X.prog X.w H s Q u s') : EP X pins σ Q u s' := by
  obtain ⟨v, H', os, bare, un, hok, r, q⟩ := h
  obtain ⟨hh, g, d, t, os'⟩ := s'
  obtain rfl : os' = s.os := os
  exact ⟨v, H', I.call (h' := hh) (g' := g) (d' := d) (t' := t) (ch := []) un hok bare (fun b z => absurd z (by simp)), r, q⟩
end

def tCall (sp : Sp) (dvs : List V) (E : XK) (t : TA) : TE := fun σ H Q => t σ H fun vs H1 => sp (vs ++ dvs) H1 Q E
def tMeth (C : Addr) (m : Str) (sp : Sp) (dvs : List V) (E : XK) (ta : TE) (t : TA) : TE := fun σ H Q => ta σ H fun x H1 => ∃ a dx fs, x = .ref a ∧ H1 a = some (.ins C dx fs) ∧ fs.lookup m = none ∧
  t σ H1 fun vs H2 => sp (x :: (vs ++ dvs)) H2 Q E
def tMake (C : Addr) (sp : Sp) (dvs : List V) (E : XK) (t : TA) : TE := fun σ H Q => t σ H fun vs H1 => ∀ x dx, H1 x = none → H1 dx = none → dx ≠ x →
  sp (.ref x :: (vs ++ dvs)) (upd (upd H1 dx (.own x)) x (.ins C dx [])) (fun v H2 => v = .non ∧ Q (.ref x) H2) E

def Binds (K : PySem.W.Frag) (fd : FuncData) (ps : List Str) (ds : List Value) : Prop :=
  ∀ (s : Shared) (us : List Value), K.In s.heap → (us ++ ds).length = ps.length → BindsTo s fd ⟨us, []⟩ (ps.zip (us ++ ds))
theorem Binds.all {K : PySem.W.Frag} {fd : FuncData} {ps : List Str} (h : ∀ us : List Value, us.length = ps.length → bindArgs fd ⟨us, []⟩ = pure (ps.zip us)) : Binds K fd ps [] := fun s us _ hl => by
  rw [List.append_nil] at hl ⊢
  exact .of_eq (h us hl)

def Passes (CX : CXT) (X : Cx) (E : XK) : Prop := ∀ (pins : List (Addr × Obj)) (σ : St) (H : Hp) (s : Shared) (e : Value) (s' : Shared), Inv X pins σ H s → CX X.stack H s E e s' → X.xe e s'

section
variable {X : Cx} {CX : CXT} {k : Nat} {f C : Addr} {fd : FuncData} {ps : List Str} {sp : Sp} {dvs : List V} {ds : List Value} {E : XK} {x m : Str} {p pos apos : Pos} {e o : Expr} {es : List Expr} {ta : TE} {t : TA}

theorem run_fn {pins : List (Addr × Obj)} {σ : St} {H : Hp} {s : Shared} {Q : VK} {us : List Value} {vs : List V} (F : FnOk X.prog X.w X.K X.mg X.base CX k f fd ps sp) (hr : Room k X.A) (hb : Binds X.K fd ps ds) (hd : Vals dvs ds) (hx : Passes CX X E)
    (I : Inv X pins σ H s) (r : Vals vs us) (h : sp (vs ++ dvs) H Q E) : wpAny (model X.prog X.w) X.A (call (.ref f) us) (EP X pins σ Q) X.xe s := by
  have r2 : Vals (vs ++ dvs) (us ++ ds) := r.append hd
  have hl : (us ++ ds).length = ps.length := by rw [← r2.length]; exact F.len _ _ _ _ h
  refine wpAny_call (codeAny_mono (F.run X.A X.stack s H ⟨us, []⟩ (us ++ ds) (vs ++ dvs) Q E hr I.env0 (hb s us I.kIn hl) r2 h) fun r s' hq => ?_)
  cases r with
  | error e => exact hx pins σ H s e s' I hq
  | ok fl =>
    cases fl with
    | ret u => exact I.after hq
    | next => exact False.elim hq
    | brk => exact False.elim hq
    | cont => exact False.elim hq

theorem pe_call (F : FnOk X.prog X.w X.K X.mg X.base CX k f fd ps sp) (hr : Room k X.A) (hg : Gl X x) (hm : X.mg x = some (.ref f)) (hk : PySem.W.keepIn X.K (.ref f) = true) (hb : Binds X.K fd ps ds) (hd : Vals dvs ds) (hx : Passes CX X E)
    (ha : PA X (e :: es) t) (hdb : (x == ("__debug__" : Str)) = false := by decide) (he : starEach (e :: es) X.env = (false, eval e X.env) :: starEach es X.env := by rfl) (hpl : (backTo pos (starEach es X.env)).any (·.1) = false := by rfl) :
    PE X (.Call (.Name x p) (e :: es) [] pos) (tCall sp dvs E t) := by
  intro pins s σ H Q I h
  refine wpAny_Call_Name_kw (ld_glob I hg hm ?_ hdb)
  refine PySem.W.callWith_K (h₀ := X.base) I.ok.mod.kin hk (thn (ha pos pins s σ H _ I h) fun us s1 ⟨vs, H1, I1, r, q⟩ => ⟨I1.kIn, ?_⟩) he hpl
  exact run_fn F hr hb hd hx I1 r q
structure Mk (K : PySem.W.Frag) (C f : Addr) : Prop where
  makes : PySem.W.makesIn K C = true
  init : PySem.W.findIn K (.ref C) "__init__" = some (some (.ref f))
  fn : PySem.W.isFn K (.ref f) = true
  kp : PySem.W.keepIn K (.ref C) = true

end

def PK (X : Cx) (kws : List Keyword) (t : TA) : Prop :=
  ∀ (pos : Pos) (pins : List (Addr × Obj)) (s : Shared) (σ : St) (H : Hp) (Q : List V → Hp → Prop), Inv X pins σ H s → t σ H Q → wpAny (model X.prog X.w) X.A (evalAll ((backToKw pos (keywordEach kws X.env)).map (·.2))) (AP X pins σ Q) X.xe s
section
variable {X : Cx} {CX : CXT} {k : Nat} {f C : Addr} {fd : FuncData} {ps ks : List Str} {sp : Sp} {E : XK} {x m : Str} {p pos apos kpos : Pos} {e o : Expr} {es : List Expr} {kws : List Keyword} {te ta : TE} {t tk : TA} {nm : Option Str}
structure KBinds (K : PySem.W.Frag) (fd : FuncData) (ps ks : List Str) (g : List Value → List Value → List Value) (gV : List V → List V → List V) : Prop where
  to : ∀ (s : Shared) (us ws : List Value), K.In s.heap → (g us ws).length = ps.length → BindsTo s fd ⟨us, ks.zip ws⟩ (ps.zip (g us ws))
  rel : ∀ {vs : List V} {us : List Value} {zs : List V} {ws : List Value}, Vals vs us → Vals zs ws → Vals (gV vs zs) (g us ws)
def tCallK (sp : Sp) (gV : List V → List V → List V) (E : XK) (t tk : TA) : TE := fun σ H Q => t σ H fun vs H1 => tk σ H1 fun zs H2 => sp (gV vs zs) H2 Q E
variable {g : List Value → List Value → List Value} {gV : List V → List V → List V}
end

structure FnScope (N P : List Str) (sc : Scope) : Prop where
  kind : sc.kind = .function
  co : sc.isCoroutine = false
  gen : sc.isGenerator = false
  nd : N.Nodup
  pre : N.take P.length = P
  par : ∀ x ∈ P, sc.names.lookup x = some .local ∨ sc.names.lookup x = some .cell
  nofree : ∀ y ∈ sc.names, y.2 ≠ .free

theorem bindL_out {kindOf : Str → Option NameKind} {x : Str} : ∀ {binds : List (Str × Value)} {m : Str → Option Value}, (∀ v, (x, v) ∉ binds) → bindL kindOf binds m x = m x
  | [], _, _ => rfl
  | (n, v) :: r, m, h => by
    unfold bindL
    rw [bindL_out fun w hw => h w (List.mem_cons_of_mem _ hw)]
    split
    · have : x ≠ n := by rintro rfl; exact h v List.mem_cons_self
      simp [this]
    · rfl
theorem bindC_out {kindOf : Str → Option NameKind} {x : Str} : ∀ {binds : List (Str × Value)} {m : Str → Option Value}, (∀ v, (x, v) ∉ binds) → bindC kindOf binds m x = m x
  | [], _, _ => rfl
  | (n, v) :: r, m, h => by
    unfold bindC
    rw [bindC_out fun w hw => h w (List.mem_cons_of_mem _ hw)]
    split
    · rfl
    · have : x ≠ n := by rintro rfl; exact h v List.mem_cons_self
      simp [this]
theorem bindL_get {kindOf : Str → Option NameKind} {x : Str} {v : Value} : ∀ {P : List Str} {vs : List Value} {i : Nat} {m : Str → Option Value}, P.Nodup → P[i]? = some x → vs[i]? = some v → kindOf x = some .local →
    bindL kindOf (P.zip vs) m x = some v
  | [], _, _, _, _, h, _, _ => by simp at h
  | _ :: _, [], _, _, _, _, h, _ => by simp at h
  | p :: P, w :: vs, 0, m, nd, h1, h2, hk => by
    simp at h1 h2; subst h1; subst h2
    show bindL kindOf ((p, w) :: P.zip vs) m p = _
    unfold bindL
    rw [bindL_out fun v hv => (List.nodup_cons.mp nd).1 (List.of_mem_zip hv).1, if_pos hk]
    simp
  | p :: P, w :: vs, i + 1, m, nd, h1, h2, hk => by
    show bindL kindOf ((p, w) :: P.zip vs) m x = _
    unfold bindL
    exact bindL_get (i := i) (List.nodup_cons.mp nd).2 (by simpa using h1) (by simpa using h2) hk
theorem bindC_get {kindOf : Str → Option NameKind} {x : Str} {v : Value} : ∀ {P : List Str} {vs : List Value} {i : Nat} {m : Str → Option Value}, P.Nodup → P[i]? = some x → vs[i]? = some v → kindOf x ≠ some .local →
    bindC kindOf (P.zip vs) m x = some v
  | [], _, _, _, _, h, _, _ => by simp at h
  | _ :: _, [], _, _, _, _, h, _ => by simp at h
  | p :: P, w :: vs, 0, m, nd, h1, h2, hk => by
    simp at h1 h2; subst h1; subst h2
    show bindC kindOf ((p, w) :: P.zip vs) m p = _
    unfold bindC
    rw [bindC_out fun v hv => (List.nodup_cons.mp nd).1 (List.of_mem_zip hv).1, if_neg hk]
    simp
  | p :: P, w :: vs, i + 1, m, nd, h1, h2, hk => by
    show bindC kindOf ((p, w) :: P.zip vs) m x = _
    unfold bindC
    exact bindC_get (i := i) (List.nodup_cons.mp nd).2 (by simpa using h1) (by simpa using h2) hk

def start (N : List Str) (vs : List V) : St := vs.map some ++ List.replicate (N.length - vs.length) none

def cxOf (CX : CXT) (P : Program) (w : World) (K : PySem.W.Frag) (mg : Str → Option Value) (base : Heap) (N : List Str) (qual : Str) (scope : Scope) (f : Addr) (cd : Value) (A : Around) (outer : List Env) (s : Shared) (H : Hp) (E : XK) : Cx where
  prog := P
  w := w
  K := K
  mg := mg
  base := base
  A := A.deeper (envOfC qual scope s.heap.objs.size f cd)
  N := N
  s₀ := s
  H₀ := H
  env := envOfC qual scope s.heap.objs.size f cd
  outer := outer
  stack := envOfC qual scope s.heap.objs.size f cd :: outer
  ex := []
  calm := true
  fn := fun _ => true
  pn := []
  xe := fun e s' => wpAny (model P w) (A.deeper (envOfC qual scope s.heap.objs.size f cd)) (leaving (envOfC qual scope s.heap.objs.size f cd) e) (fun _ s'' => CX outer H s E e s'') (fun e' s'' => CX outer H s E e' s'') s'

theorem cell_has {sc : Scope} {n : Nat} {x : Str} (h : sc.names.lookup x = some .cell) : ∃ c, (cellsFrom n sc.names []).lookup x = some c := by
  have q := PySem.W.cellsFrom_some sc.names n [] (.inl h)
  exact Option.isSome_iff_exists.mp q

theorem inv_start {CX : CXT} {P : Program} {w : World} {K : PySem.W.Frag} {mg : Str → Option Value} {base : Heap} {N ps : List Str} {qual : Str} {scope : Scope} {f : Addr} {cd : Value} {A : Around} {outer : List Env} {s s1 : Shared} {H : Hp} {E : XK} {us : List Value} {vs : List V}
    (S : FnScope N ps scope) (hd : A.handled = none) (e0 : Env0 P w K mg base A outer s H) (hl : vs.length = ps.length) (r : Vals vs us)
    (x : InCallC s s.heap.objs.size (bindL (envOfC qual scope s.heap.objs.size f cd).kindOf (ps.zip us) fun _ => none) (cellsFrom (s.heap.objs.size + 1) scope.names []) (bindC (envOfC qual scope s.heap.objs.size f cd).kindOf (ps.zip us) fun _ => none) s1) :
    Inv (cxOf CX P w K mg base N qual scope f cd A outer s H E) [] (start N vs) H s1 := by
  have hpl : ps.length ≤ N.length := by have := congrArg List.length S.pre; rw [List.length_take] at this; omega
  obtain ⟨h1, tk, rfl, hk⟩ := x.done
  have noA : ∀ b : Addr, b ∉ (cxOf CX P w K mg base N qual scope f cd A outer s H E).ex := fun b z => absurd (show b ∈ ([] : List Addr) from z) (by simp)
  refine ⟨⟨e0.mod, S.kind, rfl, rfl, Nat.le_refl _, fun y z c h1 h2 => ?_, fun y hy => ?_, fun y c _ h => ?_, fun _ => hd, Around.frames_deeper e0.frames, .inr ⟨rfl, rfl⟩, fun b z => absurd z (noA b), e0.bs, e0.bsz, fun b _ _ => noA b, fun b z => absurd z (noA b), e0.funs, e0.frf⟩,
    rfl, e0.bare, Un.kept hk, ⟨_, x.toInCall.ns, fun i y v h1 h2 h3 => ?_⟩, fun y c h => ⟨_, x.cell y c h⟩, e0.hok.fresh (Nat.le_refl _), fun y c h => ?_, fun p hp => absurd (show p ∈ ([] : List (Addr × Obj)) from hp) (by simp), e0.hok.kept hk, ?_⟩
  · exact name_of_addr x.apart (PySem.mem_of_lookup h1) (PySem.mem_of_lookup h2)
  · have hy : scope.names.lookup y = some .cell ∨ scope.names.lookup y = some .free := hy
    rcases hy with hy | hy
    · exact cell_has hy
    · exact absurd rfl (S.nofree _ (PySem.mem_of_lookup hy))
  · exact Nat.le_of_lt (x.above y c (PySem.mem_of_lookup h))
  · have hi : i < vs.length := by
      unfold start at h2
      by_cases hi : i < vs.length
      · exact hi
      · rw [List.getElem?_append_right (by simpa using hi)] at h2
        rw [List.getElem?_replicate] at h2
        split at h2 <;> cases h2
    have ha : vs[i]? = some v := by
      unfold start at h2
      rw [List.getElem?_append_left (by simpa using hi), List.getElem?_map] at h2
      cases e : vs[i]? with
      | none => rw [e] at h2; cases h2
      | some a => rw [e] at h2; cases h2; rfl
    obtain ⟨u, hu, rv⟩ := r.get ha
    have hp : ps[i]? = some y := by
      rw [← S.pre, List.getElem?_take_of_lt (by omega)]; exact h1
    have ndP : ps.Nodup := by rw [← S.pre]; exact S.nd.sublist (List.take_sublist _ _)
    refine ⟨u, rv, ?_⟩
    rcases S.par y (List.mem_of_getElem? hp) with k | k
    · exact .inl ⟨k, bindL_get ndP hp hu k⟩
    · obtain ⟨c, e⟩ := cell_has (n := s.heap.objs.size + 1) k
      refine .inr ⟨.inl k, c, e, ?_⟩
      have q := x.cell y c e
      rw [bindC_get ndP hp hu (by show scope.names.lookup y ≠ _; rw [k]; decide)] at q
      exact q
  · exact e0.hok.fresh (Nat.le_of_lt (x.above y c (PySem.mem_of_lookup h)))
  · unfold start
    show _ = N.length
    rw [List.length_append, List.length_map, List.length_replicate]
    omega

theorem fn_of {CX : CXT} {P : Program} {w : World} {K : PySem.W.Frag} {mg : Str → Option Value} {base : Heap} {k : Nat} {f : Addr} {name qual : Str} {params : Arguments} {body : List Stmt} {scope : Scope} {dV kV doc pm cdv ct oc : Value} {an od : Option Addr}
    {osl : Array (Option Value)} {N ps : List Str} {sp : Sp} (lk : K.lookup f = some ⟨oc, od, .func (PySem.W.fnOf name qual params body scope dV kV doc pm an cdv ct), osl⟩) (hcd : PySem.W.codeIn K cdv qual = true) (S : FnScope N ps scope)
    (len : ∀ vs H Q E, sp vs H Q E → vs.length = ps.length)
    (hbody : ∀ (A : Around) (outer : List Env) (s : Shared) (H : Hp) (vs : List V) (Q : VK) (E : XK), Room k (A.deeper (envOfC qual scope s.heap.objs.size f cdv)) → sp vs H Q E →
      ∃ t, PSs (cxOf CX P w K mg base N qual scope f cdv A outer s H E) body t ∧ t { nx := fun _ H' => Q .non H', rt := Q } (start N vs) H) :
    FnOk P w K mg base CX (k + 1) f (PySem.W.fnOf name qual params body scope dV kV doc pm an cdv ct) ps sp := by
  refine ⟨len, fun A outer s H args us vs Q E hr e0 hb r hsp => ?_⟩
  have hl := len _ _ _ _ hsp
  have KX : K.In s.heap := e0.mod.kin.keeps fun b o e => (e0.bs b o e).1
  have lim : s.heap.NoLimit := e0.mod.nolimit.keeps fun b o e => (e0.bs b o e).1
  have hkind : ∀ y ∈ ps.zip us, scope.names.lookup y.1 = some .local ∨ (scope.names.lookup y.1 = some .cell ∧ ((cellsFrom (s.heap.objs.size + 1) scope.names []).lookup y.1).isSome = true) := fun ⟨n, v⟩ hy => by
    rcases S.par n (List.of_mem_zip hy).1 with q | q
    · exact .inl q
    · exact .inr ⟨q, PySem.W.cellsFrom_some _ _ _ (.inl q)⟩
  refine codeAny_call_function hr.depth (KX _ _ lk) rfl S.co S.gen rfl (PySem.W.codeRec_of KX hcd) (hb _ _ _ _ ?_)
  refine wpAny_newFunctionEnv_cells S.kind hkind fun env he s1 x => ?_
  subst he
  refine ⟨lim.keeps x.toInCall.keep, codeAny_func ?_⟩
  obtain ⟨t, ht, hq⟩ := hbody A outer s H vs Q E (hr.deeper _) hsp
  have I : Inv (cxOf CX P w K mg base N qual scope f cdv A outer s H E) [] (start N vs) H s1 := inv_start S hr.hd e0 hl r x
  refine wpAny_mono (ht [] s1 (start N vs) H _ I hq) (fun fl s' hs => ?_) fun e s' hs => hs
  have fin : ∀ {σ' : St} {H' : Hp} {v : V} {u : Value}, Inv (cxOf CX P w K mg base N qual scope f cdv A outer s H E) [] σ' H' s' → RelV v u → Q v H' → CE outer P w H s Q u s' :=
    fun {σ' H' v u} J rv q => ⟨v, H', J.os, J.bare, J.base, J.hok, rv, q⟩
  cases fl with
  | ret u =>
    obtain ⟨v, σ', H', J, rv, q⟩ := hs
    exact fin J rv q
  | next =>
    obtain ⟨σ', H', J, q⟩ := hs
    exact fin (v := V.non) (u := Value.none) J rfl q
  | brk =>
    obtain ⟨_, _, _, q⟩ := hs
    exact False.elim q
  | cont =>
    obtain ⟨_, _, _, q⟩ := hs
    exact False.elim q
end L2

namespace L2
open PySem PySem.Spec PyProof.Rows
section
variable {X : Cx} {x : Str} {p pos : Pos} {e : Expr} {es : List Expr} {t : TA} {id T : String} {r : List V → Hp → VK → Prop}

def tCB (r : List V → Hp → VK → Prop) (t : TA) : TE := fun σ H Q => t σ H fun vs H1 => r vs H1 Q
theorem pe_callB (hc : CallR X (.builtin id) r) (hg : Gl X x) (hm : X.mg x = none) (hv : bootBuiltins x = some (.builtin id)) (ha : PA X (e :: es) t) (hn : x ≠ "__name__" := by decide) (hdb : (x == ("__debug__" : Str)) = false := by decide)
    (he : starEach (e :: es) X.env = (false, eval e X.env) :: starEach es X.env := by rfl) (hpl : (backTo pos (starEach es X.env)).any (·.1) = false := by rfl) : PE X (.Call (.Name x p) (e :: es) [] pos) (tCB r t) := by
  intro pins s σ H Q I h
  refine wpAny_Call_Name_kw (ld_blt I hg hm hv ?_ hn hdb)
  exact PyProof.Rows.callWith_builtin1 (thn (ha pos pins s σ H _ I h) fun us s1 ⟨vs, H1, I1, r1, q1⟩ => hc pins s1 σ H1 vs us Q I1 r1 q1) he hpl
theorem pe_callTy (hc : CallR X (.type T) r) (hg : Gl X x) (hm : X.mg x = none) (hv : bootBuiltins x = some (.type T)) (ha : PA X (e :: es) t) (hn : x ≠ "__name__" := by decide) (hdb : (x == ("__debug__" : Str)) = false := by decide)
    (he : starEach (e :: es) X.env = (false, eval e X.env) :: starEach es X.env := by rfl) (hpl : (backTo pos (starEach es X.env)).any (·.1) = false := by rfl) : PE X (.Call (.Name x p) (e :: es) [] pos) (tCB r t) := by
  intro pins s σ H Q I h
  refine wpAny_Call_Name_kw (ld_blt I hg hm hv ?_ hn hdb)
  exact PyProof.Rows.callWith_type1 (thn (ha pos pins s σ H _ I h) fun us s1 ⟨vs, H1, I1, r1, q1⟩ => hc pins s1 σ H1 vs us Q I1 r1 q1) he hpl
end
end L2

namespace HT
open PySem PyProof.Rows

def lexLt : List Int → List Int → Bool
  | [], [] => false
  | [], _ :: _ => true
  | _ :: _, [] => false
  | x :: xs, y :: ys => if x = y then lexLt xs ys else decide (x < y)
section
open PySem.SeqAt
open PySem.AutoSeq1 (wpAny_loadPart')
open PySem.MeetsSeq PySem.MeetsSeq2 PySem.MeetsSeq3

end

section
variable {prog : Program} {w : World} {A : Around} {E : Value → Shared → Prop} {s : Shared}

theorem cat_tup {t b : Addr} {vs ws : List Value} {Q : Value → Shared → Prop} (ht : IsTup s.heap t vs.toArray) (hb : IsTup s.heap b ws.toArray) (hv : vs ≠ [])
    (h1 : ws = [] → Q (.ref t) s) (h2 : ws ≠ [] → Q (.ref s.heap.objs.size) { s with heap := s.heap.push { cls := .type "tuple", data := .seq (vs ++ ws).toArray } })
    (hsz : vs.length + ws.length ≤ sizeLine) : wpAny (model prog w) A (binaryOp .Add (.ref t) (.ref b)) Q E s := by
  obtain ⟨⟨cls, dd, data, sl⟩, ho, hc, n, hd⟩ := id ht
  obtain ⟨⟨cls2, dd2, data2, sl2⟩, ho2, hc2, n2, hd2⟩ := id hb
  simp only at hc hd hc2 hd2
  subst hc hd hc2 hd2
  have e : vs.toArray ++ ws.toArray = (vs ++ ws).toArray := by simp
  by_cases hw : ws = []
  · exact concat_meets ⟨_, ho, rfl⟩ ⟨_, ho2, rfl⟩ noFill_tuple_add seq_tuple_add PySem.F.slot_tuple_add PySem.F.entry_tuple_add (PySem.F.args_tuple_add_2 _ _)
      (tuple_addW1 t b vs.toArray ws.toArray n n2 dd dd2 sl sl2 (by simpa using hv) (by simp [hw])) ⟨ho, ho2, h1 hw⟩
  · refine concat_meets ⟨_, ho, rfl⟩ ⟨_, ho2, rfl⟩ noFill_tuple_add seq_tuple_add PySem.F.slot_tuple_add PySem.F.entry_tuple_add (PySem.F.args_tuple_add_2 _ _)
      (tuple_addW2 t b vs.toArray ws.toArray n n2 dd dd2 sl sl2 (by simpa using hv) (by simpa using hw) (by rw [List.size_toArray, List.size_toArray]; exact hsz)) ⟨ho, ho2, ?_⟩
    rw [e]
    exact h2 hw

def sIx (n d : Nat) : Option Int → Nat
  | none => d
  | some v => if v < 0 then (v + (n : Int)).toNat else min v.toNat n
theorem sIx_none (n d : Nat) : sIx n d none = d := rfl
theorem sIx_nat (n d k : Nat) : sIx n d (some (k : Int)) = min k n := by
  show (if (k : Int) < 0 then ((k : Int) + (n : Int)).toNat else min (k : Int).toNat n) = min k n
  rw [if_neg (by omega), Int.toNat_natCast]
theorem sIx_le (n d : Nat) (hd : d ≤ n) (o : Option Int) : sIx n d o ≤ n := by
  cases o with
  | none => exact hd
  | some v =>
    show (if v < 0 then (v + (n : Int)).toNat else min v.toNat n) ≤ n
    by_cases hv : v < 0
    · rw [if_pos hv]; omega
    · rw [if_neg hv]; exact Nat.min_le_right _ _
theorem clip_eq (v : Int) (n d : Nat) : (if v < 0 then max (v + (n : Int)) 0 else min v (n : Int)) = ((sIx n d (some v) : Nat) : Int) := by
  show (if v < 0 then max (v + (n : Int)) 0 else min v (n : Int)) = (((if v < 0 then (v + (n : Int)).toNat else min v.toNat n) : Nat) : Int)
  by_cases hv : v < 0
  · simp only [if_pos hv]; omega
  · simp only [if_neg hv]; omega
theorem adjust_gen (lo hi : Option Int) (n : Nat) : Builtin.Slice.sliceAdjust lo hi 1 (n : Int) = (((sIx n 0 lo : Nat) : Int), ((sIx n n hi : Nat) : Int)) := by
  have h1 : ¬ ((1 : Int) < 0) := by omega
  unfold Builtin.Slice.sliceAdjust
  simp only [h1, if_false]
  refine Prod.ext ?_ ?_
  · cases lo with
    | none => rfl
    | some v => exact clip_eq v n 0
  · cases hi with
    | none => rfl
    | some v => exact clip_eq v n n
theorem places_gen (i j : Nat) : Builtin.Slice.slicePlaces (i : Int) (j : Int) 1 = j - i := by
  unfold Builtin.Slice.slicePlaces
  have h1 : (1 : Int) > 0 := by omega
  simp only [h1, if_true, Int.ediv_one]
  split <;> omega
theorem slicePart_ {v : Value} {o : Option Int} {Q : Option Int → Shared → Prop} (p : IsPart v o) (h : Q o s) : wpAny (model prog w) A (Builtin.Slice.slicePartIndex v) Q E s := by
  cases p with
  | none => exact slicePart_none h
  | int i t => exact slicePart_int h
theorem sliceApplied_gen {sl : Addr} {vl vu : Value} {lo hi : Option Int} {n : Nat} {Q : Int × Int × Nat → Shared → Prop} (hs : s.heap.IsSliceOf sl vl vu .none) (pl : IsPart vl lo) (pu : IsPart vu hi)
    (h : Q (((sIx n 0 lo : Nat) : Int), 1, sIx n n hi - sIx n 0 lo) s) : wpAny (model prog w) A (Builtin.Slice.sliceApplied (.ref sl) (pure (n : Int))) Q E s := by
  obtain ⟨os, hos, hcs, hds⟩ := id hs
  unfold Builtin.Slice.sliceApplied Builtin.Slice.sliceFields
  refine wpAny_bind (wpAny_bind (wpAny_field hos hds (x := vl) rfl (wpAny_bind (wpAny_field hos hds (x := vu) rfl (wpAny_bind (wpAny_field hos hds (x := .none) rfl (wpAny_pure ?_)))))))
  refine wpAny_bind (slicePart_none ?_)
  show wpAny _ _ (if ((1 : Int) == 0) = true then _ else _) _ _ s
  rw [if_neg (by decide)]
  refine wpAny_bind (slicePart_ pl (wpAny_bind (slicePart_ pu (wpAny_bind (wpAny_pure ?_)))))
  show wpAny _ _ (match Builtin.Slice.sliceAdjust lo hi 1 (n : Int) with | (lo, hi) => pure (lo, (1 : Int), Builtin.Slice.slicePlaces lo hi 1)) _ _ s
  rw [adjust_gen lo hi n]
  show wpAny _ _ (pure (((sIx n 0 lo : Nat) : Int), (1 : Int), Builtin.Slice.slicePlaces ((sIx n 0 lo : Nat) : Int) ((sIx n n hi : Nat) : Int) 1)) _ _ s
  rw [places_gen]
  exact wpAny_pure h
theorem pick_gen (xs : Array Value) (i k : Nat) : ((List.range k).filterMap fun (m : Nat) => xs[((i : Int) + (m : Int) * 1).toNat]?).toArray = ((xs.toList.drop i).take k).toArray := by
  have e : (fun (m : Nat) => xs[((i : Int) + (m : Int) * 1).toNat]?) = fun m => xs[i + m]? := by
    funext m
    have : ((i : Int) + (m : Int) * 1).toNat = i + m := by omega
    rw [this]
  rw [e]
  have := pick_run xs i k
  rw [List.filterMap_map] at this
  have e2 : ((fun x => xs[x]?) ∘ fun x => i + x) = fun m => xs[i + m]? := rfl
  rw [e2] at this
  rw [this]

theorem getItem_tuple_cut {t sl : Addr} {items : Array Value} {vl vu : Value} {lo hi : Option Int} {Q : Value → Shared → Prop} (ht : IsTup s.heap t items) (hs : s.heap.IsSliceOf sl vl vu .none) (pl : IsPart vl lo) (pu : IsPart vu hi)
    (hw : ¬ (sIx items.size 0 lo = 0 ∧ sIx items.size items.size hi = items.size))
    (h : Q (.ref s.heap.objs.size) { s with heap := s.heap.push { cls := .type "tuple", data := .seq ((items.toList.drop (sIx items.size 0 lo)).take (sIx items.size items.size hi - sIx items.size 0 lo)).toArray } })
    (hsz : items.size ≤ sizeLine) : wpAny (model prog w) A (getItem (.ref t) (.ref sl)) Q E s := by
  have htake : sizeOk (.seq ((items.toList.drop (sIx items.size 0 lo)).take (sIx items.size items.size hi - sIx items.size 0 lo)).toArray) := by
    show ((items.toList.drop (sIx items.size 0 lo)).take (sIx items.size items.size hi - sIx items.size 0 lo)).toArray.size ≤ sizeLine
    rw [List.size_toArray, List.length_take, List.length_drop, Array.length_toList]
    omega
  have hj : sIx items.size items.size hi ≤ items.size := sIx_le _ _ (Nat.le_refl _) hi
  obtain ⟨os, hos, hcs, hds⟩ := id hs
  have hTs : s.TypeIs (.ref sl) "slice" := ⟨os, hos, hcs⟩
  unfold getItem
  try with_reducible refine wpAny_holding ?_
  first | refine wpAny_bind (wpAny_pure ?_) | skip
  refine wpAny_bind (wpAny_sequenceKey ht.typeIs (by decide) ?_)
  refine wpAny_bind (wpAny_callSpecial?_slot (name := Str.ofString "__getitem__") ht.typeIs PyProof.Rows.slot_tuple_getitem
    (wpAny_call_entry PyProof.Rows.slot_tuple_getitem ht.typeIs entry_tuple_getitem ?_ (args_tuple_getitem _ _)))
  show wpAny _ _ (Builtin.Tuple.tupleItemsOf (.ref t) >>= _) _ _ s
  refine wpAny_bind (tupleItemsOf_ ht ?_)
  refine wpAny_bind (wpAny_typeOf hTs ?_)
  rw [if_pos (by decide)]
  refine wpAny_bind (sliceApplied_gen hs pl pu ?_)
  have hno : ¬ ((((sIx items.size 0 lo : Nat) : Int) == 0 && (1 : Int) == 1 && (sIx items.size items.size hi - sIx items.size 0 lo) == items.size) = true) := by
    intro q
    rw [Bool.and_eq_true, Bool.and_eq_true] at q
    have q1 : ((sIx items.size 0 lo : Nat) : Int) = 0 := eq_of_beq q.1.1
    have q2 : sIx items.size items.size hi - sIx items.size 0 lo = items.size := eq_of_beq q.2
    exact hw ⟨by omega, by omega⟩
  show wpAny _ _ (if (((sIx items.size 0 lo : Nat) : Int) == 0 && (1 : Int) == 1 && (sIx items.size items.size hi - sIx items.size 0 lo) == items.size) = true then _ else _) _ _ s
  rw [if_neg hno, pick_gen]
  first
    | exact wpAny_bind (m := Builtin.Tuple.tupleExact _) (wpAny_newObj_type (wpAny_pure ⟨_, rfl, wpAny_pure h⟩) htake)
    | exact wpAny_bind (m := Builtin.Tuple.tupleExact _) (wpAny_newObj_type (wpAny_bind (wpAny_pure (wpAny_pure ⟨_, rfl, wpAny_pure h⟩))) htake)
    | exact wpAny_bind (wpAny_bind (m := Builtin.Tuple.tupleExact _) (wpAny_newObj_type (wpAny_pure (wpAny_pure ⟨_, rfl, wpAny_pure h⟩)) htake))
    | exact wpAny_bind (wpAny_bind (m := Builtin.Tuple.tupleExact _) (wpAny_newObj_type (wpAny_pure ⟨_, rfl, wpAny_pure h⟩) htake))
end
end HT

namespace L2
open PySem PySem.Spec PyProof.Rows

abbrev TO := St → Hp → (Option Int → Hp → Prop) → Prop
def PO (X : Cx) (e : Option Expr) (t : TO) : Prop :=
  ∀ (pins : List (Addr × Obj)) (s : Shared) (σ : St) (H : Hp) (Q : Option Int → Hp → Prop), Inv X pins σ H s → t σ H Q →
    wpAny (model X.prog X.w) X.A (evalPart e X.env) (fun u s' => ∃ o H', Inv X pins σ H' s' ∧ IsPart u o ∧ Q o H') X.xe s
def tNoPart : TO := fun _ H Q => Q none H
def tPart (t : TE) : TO := fun σ H Q => t σ H fun x H1 => ∃ i, x = .int i ∧ Q (some i) H1

section
variable {X : Cx} {e : Expr} {te : TE} {lo hi : Option Expr} {tl th : TO} {pos p2 : Pos}

theorem po_none : PO X none tNoPart := by
  intro pins s σ H Q I h
  rw [evalPart_none]
  exact wpAny_pure ⟨none, H, I, .none, h⟩
theorem po_some (h : PE X e te) : PO X (some e) (tPart te) := by
  intro pins s σ H Q I hw
  rw [evalPart_some]
  refine thn (h pins s σ H _ I hw) fun u s1 ⟨x, H1, I1, r1, q1⟩ => ?_
  obtain ⟨i, rfl, q⟩ := q1
  obtain ⟨t, rfl⟩ := r1
  exact ⟨some i, H1, I1, .int i t, q⟩

def SlR (X : Cx) (r : V → Option Int → Option Int → Hp → VK → Prop) : Prop :=
  ∀ (pins : List (Addr × Obj)) (s : Shared) (σ : St) (H : Hp) (x : V) (v vl vu : Value) (lo hi : Option Int) (sl : Addr) (Q : VK), Inv X pins σ H s → RelV x v → s.heap.IsSliceOf sl vl vu .none → IsPart vl lo → IsPart vu hi → r x lo hi H Q →
    ∃ T id, typeLookup (.type T) "__getitem__" = pure (some (.builtin id)) ∧ s.TypeIs v T ∧ wpAny (model X.prog X.w) X.A (getItem v (.ref sl)) (EP X pins σ Q) X.xe s
theorem SlR.or {r r' : V → Option Int → Option Int → Hp → VK → Prop} (h : SlR X r) (h' : SlR X r') : SlR X (fun x lo hi H Q => r x lo hi H Q ∨ r' x lo hi H Q) := by
  intro pins s σ H x v vl vu lo hi sl Q I rx hs pl pu q
  rcases q with q | q
  · exact h pins s σ H x v vl vu lo hi sl Q I rx hs pl pu q
  · exact h' pins s σ H x v vl vu lo hi sl Q I rx hs pl pu q
def tSl (r : V → Option Int → Option Int → Hp → VK → Prop) (te : TE) (tl th : TO) : TE := fun σ H Q => te σ H fun x H1 => tl σ H1 fun l H2 => th σ H2 fun u H3 => r x l u H3 Q
theorem pe_slice {r : V → Option Int → Option Int → Hp → VK → Prop} (hr : SlR X r) (he : PE X e te) (hl : PO X lo tl) (hu : PO X hi th) : PE X (.Subscript e (.Slice lo hi none p2) pos) (tSl r te tl th) := by
  intro pins s σ H Q I h
  refine Subscript_ (thn (he pins s σ H _ I h) fun v s1 ⟨x, H1, I1, r1, q1⟩ => ?_)
  refine wpAny_Slice (thn (hl pins s1 σ H1 _ I1 q1) fun vl s2 ⟨l, H2, I2, pl, q2⟩ => thn (hu pins s2 σ H2 _ I2 q2) fun vu s3 ⟨u, H3, I3, pu, q3⟩ => ?_)
  rw [evalPart_none]
  refine wpAny_pure ?_
  have I4 : Inv X pins σ H3 { s3 with heap := s3.heap.push { cls := .type "slice", data := .fields #[vl, vu, .none] } } := I3.kept (t' := s3.toks) fun b ob q => Heap.get?_push_of_some _ q
  obtain ⟨T, id, hT, ht, hg⟩ := hr pins { s3 with heap := s3.heap.push { cls := .type "slice", data := .fields #[vl, vu, .none] } } σ H3 x v vl vu l u s3.heap.objs.size Q I4 r1 (Heap.IsSliceOf.new ..) pl pu q3
  show wpAny (model X.prog X.w) X.A (subscriptTail e (.Slice lo hi none p2) v (.ref s3.heap.objs.size)) (EP X pins σ Q) X.xe { s3 with heap := s3.heap.push { cls := .type "slice", data := .fields #[vl, vu, .none] } }
  exact tail_any (ops := [.ref s3.heap.objs.size, v]) ht hT hg (by with_unfolding_all rfl)

def cutV (xs : List V) (lo hi : Option Int) : List V := (xs.drop (HT.sIx xs.length 0 lo)).take (HT.sIx xs.length xs.length hi - HT.sIx xs.length 0 lo)
theorem cutV_length (xs : List V) (lo hi : Option Int) : (cutV xs lo hi).length ≤ xs.length := by
  unfold cutV
  rw [List.length_take, List.length_drop]
  omega
def rSlT (K : PySem.W.Frag) : V → Option Int → Option Int → Hp → VK → Prop := fun x lo hi H Q => ∃ a xs, x = .ref a ∧ SqT K H a xs ∧
  ¬ (HT.sIx xs.length 0 lo = 0 ∧ HT.sIx xs.length xs.length hi = xs.length) ∧ ∀ p, H p = none → Q (.ref p) (upd H p (.tup (cutV xs lo hi)))
theorem sl_tup : SlR X (rSlT X.K) := by
  intro pins s σ H x v vl vu lo hi sl Q I rx hs pl pu h
  obtain ⟨a, xs, rfl, hx, hw, q⟩ := h
  cases rx
  obtain ⟨its, r, ht, hz⟩ := I.tuple hx
  have hlen : its.toArray.size = xs.length := by rw [List.size_toArray]; exact r.length.symm
  refine ⟨"tuple", _, PyProof.Rows.slot_tuple_getitem.lookup, ht.typeIs, ?_⟩
  refine HT.getItem_tuple_cut ht hs pl pu (by rw [hlen]; exact hw) ?_ (by rw [hlen]; exact hz)
  rw [hlen]
  refine ⟨.ref s.heap.objs.size, _, I.laid (t' := s.toks) (o := .tup (cutV xs lo hi)) (fun b ob q => Heap.get?_push_of_some _ q) (Nat.le_refl _) ?_, rfl, q _ (I.hok.fresh (Nat.le_refl _))⟩
  exact ⟨Nat.le_trans (cutV_length xs lo hi) hz, _, (r.drop (HT.sIx xs.length 0 lo)).take (HT.sIx xs.length xs.length hi - HT.sIx xs.length 0 lo), IsTup.new _ _⟩

def rLtT (K : PySem.W.Frag) : R2 := fun x y H Q => ∃ a b ns ms, x = .ref a ∧ y = .ref b ∧ SqT K H a (ns.map V.int) ∧ SqT K H b (ms.map V.int) ∧ Q (.bl (HT.lexLt ns ms)) H
def rCatT (K : PySem.W.Frag) : R2 := fun x y H Q => ∃ a b xs ys, x = .ref a ∧ y = .ref b ∧ SqT K H a xs ∧ SqT K H b ys ∧ xs ≠ [] ∧ xs.length + ys.length ≤ sizeLine ∧
  (ys = [] → Q (.ref a) H) ∧ (ys ≠ [] → ∀ p, H p = none → Q (.ref p) (upd H p (.tup (xs ++ ys))))
theorem Vals.nil_iff {xs : List V} {us : List Value} (r : Vals xs us) : us = [] ↔ xs = [] := by
  cases r with
  | nil => simp
  | cons _ _ => simp
theorem op_catT : OpR X (binaryOp .Add) (rCatT X.K) := by
  intro pins s σ H x y v u Q I rx ry h
  obtain ⟨a, b, xs, ys, rfl, rfl, ha, hb, hx, hz, q1, q2⟩ := h
  cases rx
  cases ry
  obtain ⟨its, r1, p1, _⟩ := I.tuple ha
  obtain ⟨its2, r2, p2, _⟩ := I.tuple hb
  refine HT.cat_tup p1 p2 (fun z => hx (r1.nil_iff.mp z)) (fun z => ⟨.ref a, H, I, rfl, q1 (r2.nil_iff.mp z)⟩) (fun z => ?_) (by rw [← r1.length, ← r2.length]; exact hz)
  refine ⟨.ref s.heap.objs.size, _, I.laid (t' := s.toks) (o := .tup (xs ++ ys)) (fun b ob q => Heap.get?_push_of_some _ q) (Nat.le_refl _) ?_, rfl, q2 (fun w => z (r2.nil_iff.mpr w)) _ (I.hok.fresh (Nat.le_refl _))⟩
  exact ⟨by rw [List.length_append]; exact hz, _, r1.append r2, IsTup.new _ _⟩
end
end L2

namespace L2
open PySem PySem.Spec PyProof.Rows

def ixN (n : Nat) (i : Int) : Option Nat := if 0 ≤ i then (if i < n then some i.toNat else none) else if -(n : Int) ≤ i then some (i + n).toNat else none
def atI {α : Type} (xs : List α) (i : Int) : Option α := (ixN xs.length i).bind fun j => xs[j]?
theorem ixN_seq {n : Nat} {i : Int} {j : Nat} (h : ixN n i = some j) : seqIndex? i n = some j ∧ j < n ∧ -(n : Int) ≤ i ∧ i < n := by
  unfold ixN at h
  by_cases h0 : 0 ≤ i
  · rw [if_pos h0] at h
    by_cases h1 : i < n
    · rw [if_pos h1] at h
      have e : i.toNat = j := Option.some.inj h
      exact ⟨by rw [seqIndex_of h0 h1, e], by omega, by omega, h1⟩
    · rw [if_neg h1] at h; cases h
  · rw [if_neg h0] at h
    by_cases h1 : -(n : Int) ≤ i
    · rw [if_pos h1] at h
      have e : (i + n).toNat = j := Option.some.inj h
      exact ⟨by rw [seqIndex_neg (by omega) h1, e], by omega, h1, by omega⟩
    · rw [if_neg h1] at h; cases h
theorem atI_get {α : Type} {xs : List α} {i : Int} {v : α} (h : atI xs i = some v) : ∃ j, seqIndex? i xs.length = some j ∧ xs[j]? = some v ∧ j < xs.length ∧ -(xs.length : Int) ≤ i ∧ i < xs.length := by
  unfold atI at h
  cases e : ixN xs.length i with
  | none => rw [e] at h; cases h
  | some j =>
    rw [e] at h
    obtain ⟨h1, h2, h3, h4⟩ := ixN_seq e
    exact ⟨j, h1, h, h2, h3, h4⟩
theorem atI_nat {α : Type} {xs : List α} {j : Nat} {v : α} (h : xs[j]? = some v) : atI xs (j : Int) = some v := by
  have hj : j < xs.length := (List.getElem?_eq_some_iff.mp h).1
  have e : ixN xs.length (j : Int) = some j := by
    unfold ixN
    rw [if_pos (by omega), if_pos (by omega)]; simp
  unfold atI; rw [e]; exact h
def PlainIx (b : Expr) : Prop := ∀ o i, subscripted b false o i = operate [o, i] (getItem o i)
def IxR (X : Cx) (r : R2) : Prop :=
  ∀ (value slice : Expr) (pins : List (Addr × Obj)) (s : Shared) (σ : St) (H : Hp) (x y : V) (v u : Value) (Q : VK), Inv X pins σ H s → RelV x v → RelV y u → r x y H Q →
    subscripted slice false v u = operate [v, u] (getItem v u) → wpAny (model X.prog X.w) X.A (subscriptTail value slice v u) (EP X pins σ Q) X.xe s
def MtR (X : Cx) (id : String) (r : V → List V → Hp → VK → Prop) : Prop :=
  ∀ (pins : List (Addr × Obj)) (s : Shared) (σ : St) (H : Hp) (x : V) (xs : List V) (v : Value) (us : List Value) (Q : VK), Inv X pins σ H s → RelV x v → Vals xs us → r x xs H Q →
    wpAny (model X.prog X.w) X.A (call (.builtin id) (v :: us)) (EP X pins σ Q) X.xe s
section
variable {X : Cx} {a b : Expr} {ta tb : TE} {pos : Pos}
theorem IxR.or {r r' : R2} (h : IxR X r) (h' : IxR X r') : IxR X (fun x y H Q => r x y H Q ∨ r' x y H Q) := by
  intro value slice pins s σ H x y v u Q I rx ry q hs
  rcases q with q | q
  · exact h value slice pins s σ H x y v u Q I rx ry q hs
  · exact h' value slice pins s σ H x y v u Q I rx ry q hs
theorem MtR.or {id : String} {r r' : V → List V → Hp → VK → Prop} (h : MtR X id r) (h' : MtR X id r') : MtR X id (fun x xs H Q => r x xs H Q ∨ r' x xs H Q) := by
  intro pins s σ H x xs v us Q I rx rs q
  rcases q with q | q
  · exact h pins s σ H x xs v us Q I rx rs q
  · exact h' pins s σ H x xs v us Q I rx rs q
theorem pe_ix {r : R2} (hr : IxR X r) (ha : PE X a ta) (hb : PE X b tb) (hs : PlainIx b) : PE X (.Subscript a b pos) (tOp r ta tb) := by
  intro pins s σ H Q I h
  exact Subscript_ (binT ha hb I h fun v u s2 x y H2 I2 rx ry q => hr a b pins s2 σ H2 x y v u Q I2 rx ry q (hs _ _))

def rIxL (K : PySem.W.Frag) : R2 := fun x y H Q => ∃ p xs i v, x = .ref p ∧ y = .int i ∧ SqL K H p xs ∧ atI xs i = some v ∧ Q v H
def rIxT (K : PySem.W.Frag) : R2 := fun x y H Q => ∃ p xs i v, x = .ref p ∧ y = .int i ∧ SqT K H p xs ∧ atI xs i = some v ∧ Q v H
def rIxS : R2 := fun x y H Q => ∃ z i c, x = .str z ∧ y = .int i ∧ z.length ≤ sizeLine ∧ atI z.cps.toList i = some c ∧ Q (.str ⟨#[c]⟩) H
theorem ix_list : IxR X (rIxL X.K) := by
  intro value slice pins s σ H x y v u Q I rx ry h hs
  obtain ⟨p, xs, i, z, rfl, rfl, hq, he, q⟩ := h
  cases rx
  obtain ⟨t, rfl⟩ := ry
  obtain ⟨its, r, pl, hz⟩ := I.list hq
  obtain ⟨j, h1, h2, h3, h4, h5⟩ := atI_get he
  obtain ⟨w, ew, rw'⟩ := r.get h2
  have hl := r.length
  have hn := line63
  have fin : EP X pins σ Q w s := ⟨z, H, I, rw', q⟩
  by_cases h0 : 0 ≤ i
  · have hj : i.toNat = j := by
      rw [seqIndex_of h0 h5] at h1
      exact Option.some.inj h1
    exact item_listR pl.isList h0 (by omega) (by rw [hj]; simpa using ew) fin hs
  · have hj : (i + (its.toArray.size : Int)).toNat = j := by
      rw [seqIndex_neg (by omega) h4] at h1
      rw [List.size_toArray, ← hl]
      exact Option.some.inj h1
    exact subscriptTail_builtinR (x := w) pl.isList.typeIs slot_list_getitem.lookup
      (wpAny_getItem_list_neg (Q := fun r s' => r = w ∧ EP X pins σ Q r s') pl.isList (by omega) (by rw [List.size_toArray] <;> omega) (by omega) (by rw [hj]; simpa using ew) ⟨rfl, fin⟩) hs
theorem ix_tup : IxR X (rIxT X.K) := by
  intro value slice pins s σ H x y v u Q I rx ry h hs
  obtain ⟨p, xs, i, z, rfl, rfl, hq, he, q⟩ := h
  cases rx
  obtain ⟨t, rfl⟩ := ry
  obtain ⟨its, r, pl, hz⟩ := I.tuple hq
  obtain ⟨j, h1, h2, h3, h4, h5⟩ := atI_get he
  obtain ⟨w, ew, rw'⟩ := r.get h2
  have hl := r.length
  have hn := line63
  have fin : EP X pins σ Q w s := ⟨z, H, I, rw', q⟩
  exact subscriptTail_builtinR (x := w) pl.typeIs slot_tuple_getitem.lookup
    (getItem_tuple (j := j) (Q := fun r s' => r = w ∧ EP X pins σ Q r s') pl (by omega) (by omega) (by rw [List.size_toArray, ← hl]; exact h1) (by simpa using ew) ⟨rfl, fin⟩) hs
theorem ix_str : IxR X rIxS := by
  intro value slice pins s σ H x y v u Q I rx ry h hs
  obtain ⟨z, i, c, rfl, rfl, hz, he, q⟩ := h
  obtain ⟨t, rfl⟩ := rx
  obtain ⟨t', rfl⟩ := ry
  obtain ⟨j, h1, h2, h3, h4, h5⟩ := atI_get he
  have hl : z.cps.toList.length = z.length := by simp [Str.length]
  rw [hl] at h1 h4 h5
  have hn := line63
  exact tail_any (typeIs_str s z t) slot_str_getitem.lookup (getItem_str (c := c) (by
    have e1 : decide (i < -(2 ^ 63 : Int)) = false := decide_eq_false (by omega)
    have e2 : decide (i ≥ 2 ^ 63) = false := decide_eq_false (by omega)
    rw [e1, e2, Bool.or_false]) (by rw [h1]; simpa using h2) ⟨.str ⟨#[c]⟩, H, I.tok _, ⟨_, rfl⟩, q⟩) hs
def rIx (K : PySem.W.Frag) : R2 := fun x y H Q => rIxL K x y H Q ∨ rIxT K x y H Q ∨ rIxS x y H Q
theorem ix_seq : IxR X (rIx X.K) := ix_list.or (ix_tup.or ix_str)

def rSetL : V → V → V → Hp → (Hp → Prop) → Prop := fun o i v H Q => ∃ p xs k j, o = .ref p ∧ i = .int k ∧ H p = some (.lst xs) ∧ ixN xs.length k = some j ∧ Q (upd H p (.lst (xs.set j v)))
theorem slice_bounds (lo hi : Option Int) (n : Nat) : (sliceBounds lo hi none n).1 = ((HT.sIx n 0 lo : Nat) : Int) ∧ (sliceBounds lo hi none n).2.1 = ((HT.sIx n n hi : Nat) : Int) ∧ (sliceBounds lo hi none n).2.2 = 1 := by
  refine ⟨?_, ?_, rfl⟩
  · cases lo with
    | none => simp [sliceBounds, HT.sIx]
    | some i =>
      simp only [sliceBounds, HT.sIx, Option.getD_none, show (1 : Int) > 0 by decide, if_true]
      by_cases h : i < 0
      · simp only [h, if_true] <;> omega
      · simp only [h, if_false] <;> omega
  · cases hi with
    | none => simp [sliceBounds, HT.sIx]
    | some i =>
      simp only [sliceBounds, HT.sIx, Option.getD_none, show (1 : Int) > 0 by decide, if_true]
      by_cases h : i < 0
      · simp only [h, if_true] <;> omega
      · simp only [h, if_false] <;> omega
theorem slicePick_cut (its : List Value) (lo hi : Option Int) : slicePick its.toArray lo hi none = ((its.drop (HT.sIx its.length 0 lo)).take (HT.sIx its.length its.length hi - HT.sIx its.length 0 lo)).toArray := by
  obtain ⟨h1, h2, h3⟩ := slice_bounds lo hi its.toArray.size
  unfold slicePick
  rw [h1, h2, h3]
  simp only [sliceRange_one, pick_run, List.size_toArray] <;> rfl
def rSlL (K : PySem.W.Frag) : V → Option Int → Option Int → Hp → VK → Prop := fun x lo hi H Q => ∃ a xs, x = .ref a ∧ SqL K H a xs ∧ ∀ p, H p = none → Q (.ref p) (upd H p (.lst (cutV xs lo hi)))
theorem sl_list : SlR X (rSlL X.K) := by
  intro pins s σ H x v vl vu lo hi sl Q I rx hs pl pu h
  obtain ⟨a, xs, rfl, hx, q⟩ := h
  cases rx
  obtain ⟨its, r, ht, hz⟩ := I.list hx
  have hlen := r.length
  refine ⟨"list", _, slot_list_getitem.lookup, ht.isList.typeIs, ?_⟩
  refine wpAny_getItem_list_slice ht.isList hs pl pu .none (by simp) ?_ (by rw [List.size_toArray] <;> omega)
  rw [slicePick_cut, ← hlen]
  refine ⟨.ref s.heap.objs.size, _, I.laid (t' := s.toks) (o := .lst (cutV xs lo hi)) (fun b ob q => Heap.get?_push_of_some _ q) (Nat.le_refl _) ?_, rfl, q _ (I.hok.fresh (Nat.le_refl _))⟩
  exact ⟨Nat.le_trans (cutV_length xs lo hi) hz, _, 0, (r.drop (HT.sIx xs.length 0 lo)).take (HT.sIx xs.length xs.length hi - HT.sIx xs.length 0 lo), Heap.get?_push_size _ rfl⟩

def flatV : V → Bool
  | .non => true
  | .bl _ => true
  | .int _ => true
  | .str _ => true
  | _ => false
def eqV : V → V → Bool
  | .non, .non => true
  | .bl a, .bl b => a == b
  | .bl a, .int b => (if a then 1 else 0) == b
  | .int a, .bl b => a == (if b then 1 else 0)
  | .int a, .int b => a == b
  | .str a, .str b => a == b
  | _, _ => false
def eqU (x : V) (u : Value) : Bool := match u with
  | .none => eqV .non x
  | .bool b => eqV (.bl b) x
  | .int i _ => eqV (.int i) x
  | .str z _ => eqV (.str z) x
  | _ => false
def inV (x : V) (xs : List V) : Bool := xs.any fun y => eqV y x
def rIn (K : PySem.W.Frag) (neg : Bool) : R2 := fun x y H Q => ∃ p xs, y = .ref p ∧ (SqL K H p xs ∨ SqT K H p xs) ∧ flatV x = true ∧ xs.all flatV = true ∧ Q (.bl (if neg then !inV x xs else inV x xs)) H
theorem call_len_seq : CallR X (.builtin "len") (fun xs H Q => ∃ p ys, xs = [.ref p] ∧ (SqL X.K H p ys ∨ SqT X.K H p ys) ∧ Q (.int ys.length) H) := by
  intro pins s σ H xs us Q I r h
  obtain ⟨p, ys, rfl, hq, q⟩ := h
  obtain ⟨u, rfl, rx⟩ := vals1 r
  cases rx
  have hn := line63
  rcases hq with hq | hq
  · obtain ⟨its, r', pl, hz⟩ := I.list hq
    have hlen := r'.length
    exact Calls.call_len_list pl.isList (by simp only [List.size_toArray] <;> omega) ⟨.int ys.length, H, I.tok _, ⟨s.toks + 1, by rw [List.size_toArray, hlen]⟩, q⟩
  · obtain ⟨its, r', pl, hz⟩ := I.tuple hq
    have hlen := r'.length
    exact len_tuple pl (by simp only [List.size_toArray] <;> omega) ⟨.int ys.length, H, I.tok _, ⟨s.toks + 1, by rw [List.size_toArray, hlen]⟩, q⟩
theorem call_len_str : CallR X (.builtin "len") (fun xs H Q => ∃ z, xs = [.str z] ∧ z.length ≤ sizeLine ∧ Q (.int z.length) H) := by
  intro pins s σ H xs us Q I r h
  obtain ⟨z, rfl, hz, q⟩ := h
  obtain ⟨u, rfl, t, rfl⟩ := vals1 r
  have hn := line63
  exact len_str (by omega) ⟨.int z.length, H, I.tok _, ⟨_, rfl⟩, q⟩
theorem CallR.or {f : Value} {r r' : List V → Hp → VK → Prop} (h : CallR X f r) (h' : CallR X f r') : CallR X f (fun xs H Q => r xs H Q ∨ r' xs H Q) := by
  intro pins s σ H xs us Q I rs q
  rcases q with q | q
  · exact h pins s σ H xs us Q I rs q
  · exact h' pins s σ H xs us Q I rs q
theorem call_tuple_of : CallR X (.type "tuple") (fun xs H Q => ∃ p ys, xs = [.ref p] ∧ ((SqL X.K H p ys ∧ ∀ l, H l = none → Q (.ref l) (upd H l (.tup ys))) ∨ (SqT X.K H p ys ∧ Q (.ref p) H))) := by
  intro pins s σ H xs us Q I r h
  obtain ⟨p, ys, rfl, h⟩ := h
  obtain ⟨u, rfl, rx⟩ := vals1 r
  cases rx
  rcases h with ⟨hq, q⟩ | ⟨hq, q⟩
  · obtain ⟨its, r', pl, hz⟩ := I.list hq
    have hlen := r'.length
    refine call_tuple_list pl.isList (fun h' kp => ?_) (by simp only [List.size_toArray] <;> omega)
    have I1 : Inv X pins σ H { s with heap := h' } := I.kept (t' := s.toks) kp
    have I2 : Inv X pins σ (upd H h'.objs.size (.tup ys)) { s with heap := h'.push { cls := .type "tuple", data := .seq its.toArray } } :=
      I1.laid (t' := s.toks) (fun b o e => Heap.get?_push_of_some _ e) (Nat.le_refl _) (show ObjOk X.prog X.w _ _ _ (.tup ys) from ⟨hz, its, r', IsTup.new _ _⟩)
    exact ⟨.ref h'.objs.size, _, I2, rfl, q _ (I1.hok.fresh (Nat.le_refl _))⟩
  · obtain ⟨its, r', pl, hz⟩ := I.tuple hq
    exact call_tuple_same pl ⟨.ref p, H, I, rfl, q⟩

def tyV (K : PySem.W.Frag) (T : String) (x : V) (H : Hp) : Prop := match x with
  | .str _ => T = "str"
  | .int _ => T = "int"
  | .ref p => (T = "list" ∧ ∃ xs, SqL K H p xs) ∨ (T = "tuple" ∧ ∃ o, K.lookup p = some o ∧ o.cls = .type "tuple" ∧ o.dict = none) ∨
      (T = "dict" ∧ ((∃ kvs, H p = some (.dK kvs)) ∨ ∃ kvs, H p = some (.dT kvs))) ∨ (T = "set" ∧ ∃ S n, H p = some (.set S n))
  | _ => False
theorem tyV_is {pins : List (Addr × Obj)} {σ : St} {H : Hp} {s : Shared} {T : String} {x : V} {v : Value} (I : Inv X pins σ H s) (r : RelV x v) (ty : tyV X.K T x H) :
    s.TypeIs v T ∧ ∀ a, v = .ref a → ∃ ob, s.heap.get? a = some ob ∧ ob.dict = none := by
  cases x with
  | str z =>
    obtain ⟨t, rfl⟩ := r
    cases (show T = "str" from ty)
    exact ⟨typeIs_str s z t, fun _ e => nomatch e⟩
  | int i =>
    obtain ⟨t, rfl⟩ := r
    cases (show T = "int" from ty)
    exact ⟨typeIs_int s i t, fun _ e => nomatch e⟩
  | ref p =>
    cases r
    rcases ty with ⟨rfl, xs, hq⟩ | ⟨rfl, o, hk, hc, hd⟩ | ⟨rfl, hk⟩ | ⟨rfl, S, n, hk⟩
    · obtain ⟨its, _, pl, _⟩ := I.list hq
      refine ⟨pl.isList.typeIs, fun a e => ?_⟩
      cases e
      obtain ⟨o, n, e, c, hd, _⟩ := pl
      exact ⟨o, e, hd⟩
    · refine ⟨⟨o, I.kIn p o hk, hc⟩, fun a e => ?_⟩
      cases e
      exact ⟨o, I.kIn _ o hk, hd⟩
    · have z : ∃ o, s.heap.get? p = some o ∧ o.ExactDict := by
        rcases hk with ⟨kvs, hk⟩ | ⟨kvs, hk⟩
        · obtain ⟨_, _, _, _, o, _, _, e, ex, _⟩ := I.hok p _ hk
          exact ⟨o, e, ex⟩
        · obtain ⟨_, _, _, _, o, _, _, e, ex, _⟩ := I.hok p _ hk
          exact ⟨o, e, ex⟩
      obtain ⟨o, e, ex⟩ := z
      refine ⟨⟨o, e, ex.1⟩, fun a e2 => ?_⟩
      cases e2
      exact ⟨o, e, ex.2.1⟩
    · obtain ⟨o, _, _, _, e, ex, _⟩ := I.hok p _ hk
      refine ⟨⟨o, e, ex.1⟩, fun a e2 => ?_⟩
      cases e2
      exact ⟨o, e, ex.2.1⟩
  | _ => exact False.elim ty
def tBM0 (K : PySem.W.Frag) (T : String) (r : V → List V → Hp → VK → Prop) (to : TE) : TE := fun σ H Q => to σ H fun x H1 => tyV K T x H1 ∧ r x [] H1 Q
def tBM (K : PySem.W.Frag) (T : String) (r : V → List V → Hp → VK → Prop) (to : TE) (t : TA) : TE := fun σ H Q => to σ H fun x H1 => tyV K T x H1 ∧ t σ H1 fun xs H2 => r x xs H2 Q
variable {o e : Expr} {es : List Expr} {to : TE} {t : TA} {name : Str} {apos cpos : Pos} {T id : String} {r : V → List V → Hp → VK → Prop}
theorem pe_bm0 (pa : PlainAttrs T) (slot : Slot T name id) (hty : typeOf (.builtin id) = pure (.type "method_descriptor")) (hm : MtR X id r) (ho : PE X o to)
    (hbase : attributeBase o name X.env (eval o X.env) = eval o X.env := by rfl) (hline : (apos.endLine == cpos.line) = true := by rfl) : PE X (.Call (.Attribute o name apos) [] [] cpos) (tBM0 X.K T r to) := by
  intro pins s σ H Q I h
  refine wpAny_Call_method0_late hbase hline (thn (ho pins s σ H _ I h) fun v s1 ⟨x, H1, I1, r1, ty, q1⟩ => ?_)
  obtain ⟨h1, h2⟩ := tyV_is I1 r1 ty
  exact ⟨T, id, pa, slot, hty, h1, h2, Calls.callWith_builtin rfl (PySem.evalArgs_none (hm pins s1 σ H1 x [] v [] Q I1 r1 .nil q1))⟩
theorem pe_bm (pa : PlainAttrs T) (slot : Slot T name id) (hty : typeOf (.builtin id) = pure (.type "method_descriptor")) (hm : MtR X id r) (ho : PE X o to) (ha : PA X (e :: es) t)
    (hbase : attributeBase o name X.env (eval o X.env) = eval o X.env := by rfl)
    (hfew : ((backTo cpos (starEach (e :: es) X.env)).all (fun x => !x.1) && (backToKw cpos (keywordEach [] X.env)).all (fun x => x.1.isSome)
      && decide ((e :: es).length + ([] : List Keyword).length + (if ([] : List Keyword).isEmpty then 0 else 1) < 30)) = true := by rfl)
    (hline : (apos.endLine == cpos.line) = true := by rfl) (hs : starEach (e :: es) X.env = (false, eval e X.env) :: starEach es X.env := by rfl) (hplain : (backTo cpos (starEach es X.env)).any (·.1) = false := by rfl) :
    PE X (.Call (.Attribute o name apos) (e :: es) [] cpos) (tBM X.K T r to t) := by
  intro pins s σ H Q I h
  refine wpAny_Call_method_late hbase hfew hline rfl (thn (ho pins s σ H _ I h) fun v s1 ⟨x, H1, I1, r1, ty, q1⟩ => ?_)
  obtain ⟨h1, h2⟩ := tyV_is I1 r1 ty
  refine ⟨T, id, pa, slot, hty, h1, h2, ?_⟩
  have hA := ha cpos pins s1 σ H1 _ I1 q1
  rw [hs] at hA ⊢
  refine Calls.callWith_builtin (by show (false || (backTo cpos (starEach es X.env)).any (·.1)) = false; rw [hplain] <;> rfl) (Calls.evalArgs_plain ?_)
  exact thn hA fun us s2 ⟨vs, H2, I2, r2, q2⟩ => hm pins s2 σ H2 x vs v us Q I2 r1 r2 q2
/- xs.append(e), list.index on a module's tuple .. are MtR facts of 06m -/
end
end L2

namespace L2
open PySem PySem.Spec PyProof.Rows

def MtM (X : Cx) (id : String) (r : V → List V → Hp → VK → Prop) : Prop :=
  ∀ (pins : List (Addr × Obj)) (s : Shared) (σ : St) (H : Hp) (x : V) (xs : List V) (v : Value) (us : List Value) (Q : VK), Inv X pins σ H s → RelV x v → Vals xs us → r x xs H Q →
    wpAny (model X.prog X.w) X.A (call (.builtin id) (v :: us)) (EP X pins σ Q) X.xe s

theorem Vals.one : ∀ {x : V} {us : List Value}, Vals [x] us → ∃ u, us = [u] ∧ RelV x u
  | _, _, .cons r .nil => ⟨_, rfl, r⟩
theorem Vals.zero : ∀ {us : List Value}, Vals [] us → us = []
  | _, .nil => rfl
theorem Vals.dropLast {xs : List V} {us : List Value} (h : Vals xs us) : Vals xs.dropLast us.dropLast := by
  induction h with
  | nil => exact .nil
  | cons r t ih =>
    cases t with
    | nil => exact .nil
    | cons q t' => exact .cons r ih
theorem erase_last {α : Type} (l : List α) : l.eraseIdx (l.length - 1) = l.dropLast := by
  induction l with
  | nil => rfl
  | cons a r ih =>
    cases r with
    | nil => rfl
    | cons b r =>
      have e : (a :: b :: r).length - 1 = ((b :: r).length - 1) + 1 := by
        have h1 : (a :: b :: r).length = r.length + 2 := rfl
        have h2 : (b :: r).length = r.length + 1 := rfl
        omega
      rw [e, List.eraseIdx_cons_succ, ih]
      all_goals rfl
section
variable {X : Cx} {pins : List (Addr × Obj)} {σ : St} {H : Hp} {s : Shared} {l b : Addr} {xs ys zs : List V}

theorem Inv.lset {its its' : List Value} {n : Nat} {f : Array Value → Array Value} {t' : Nat} (I : Inv X pins σ H s) (hH : H l = some (.lst xs))
    (e : s.heap.get? l = some { cls := .type "list", data := .seq its.toArray n }) (hf : f its.toArray = its'.toArray) (hv : Vals ys its') (hz : ys.length ≤ sizeLine) :
    Inv X pins σ (upd H l (.lst ys)) { s with heap := s.heap.update l (Obj.mapSeq f), toks := t' } := by
  have q := PySem.IsL.update e f
  rw [hf] at q
  refine I.write (x := l) (e := l) (by rw [hH]; exact trivial) (.inl rfl) (fun b' u hb hu => (Heap.get?_update_other s.heap (Obj.mapSeq f) (Ne.symm hb)).trans hu) ⟨_, q⟩ ?_
  exact ⟨hz, its', _, hv, q⟩
theorem Inv.lnew {its : List Value} {t' : Nat} (I : Inv X pins σ H s) (hv : Vals ys its) (hz : ys.length ≤ sizeLine) :
    Inv X pins σ (upd H s.heap.objs.size (.lst ys)) { s with heap := s.heap.push { cls := .type "list", data := .seq its.toArray }, toks := t' } :=
  I.laid (fun _ _ q => Heap.get?_push_of_some _ q) (Nat.le_refl _) ⟨hz, its, 0, hv, Heap.get?_push_size _ rfl⟩
theorem Inv.fresh (I : Inv X pins σ H s) : H s.heap.objs.size = none := I.hok.fresh (Nat.le_refl _)
theorem Inv.lstM (I : Inv X pins σ H s) (hH : H l = some (.lst xs)) : xs.length ≤ sizeLine ∧ ∃ (its : List Value) (n : Nat), Vals xs its ∧ xs.length = its.length ∧ s.heap.get? l = some { cls := .type "list", data := .seq its.toArray n } := by
  obtain ⟨z, its, n, r, e⟩ := I.hok l _ hH
  exact ⟨z, its, n, r, r.length, e⟩

theorem notLongL {n : Nat} (h : n ≤ sizeLine) : Builtin.List.listTooLong n = false := by
  unfold Builtin.List.listTooLong
  exact decide_eq_false (by omega)
end

section
variable {X : Cx}

def rAppend : V → List V → Hp → VK → Prop := fun x vs H Q => ∃ l xs y, x = .ref l ∧ vs = [y] ∧ H l = some (.lst xs) ∧ xs.length < sizeLine ∧ Q .non (upd H l (.lst (xs ++ [y])))
theorem mt_append : MtM X "list.append" rAppend := by
  intro pins s σ H x vs v us Q I rx rv h
  obtain ⟨l, xs, y, rfl, rfl, hH, hz, q⟩ := h
  cases rx
  obtain ⟨u, rfl, ru⟩ := rv.one
  obtain ⟨z, its, n, r, hl, e⟩ := I.lstM hH
  refine call_meets F.slot_list_append ⟨_, e, rfl⟩ F.entry_list_append (F.args_list_append_2 _ _) (PySem.list_append l its.toArray n u (by rw [List.size_toArray]; omega)) ⟨e, ?_⟩
  refine ⟨.non, _, I.lset (its' := its ++ [u]) hH e (by simp) (r.append (.cons ru .nil)) ?_, rfl, q⟩
  rw [List.length_append, List.length_singleton]
  omega

def rExtend : V → List V → Hp → VK → Prop := fun x vs H Q => ∃ l b xs zs, x = .ref l ∧ vs = [.ref b] ∧ H l = some (.lst xs) ∧ H b = some (.lst zs) ∧ xs.length + zs.length ≤ sizeLine ∧ Q .non (upd H l (.lst (xs ++ zs)))
theorem mt_extend : MtM X "list.extend" rExtend := by
  intro pins s σ H x vs v us Q I rx rv h
  obtain ⟨l, b, xs, zs, rfl, rfl, hH, hB, hz, q⟩ := h
  cases rx
  obtain ⟨u, rfl, ru⟩ := rv.one
  cases ru
  obtain ⟨z, its, n, r, hl, e⟩ := I.lstM hH
  obtain ⟨z2, its2, n2, r2, hl2, e2⟩ := I.lstM hB
  have hsz : its.toArray.size + its2.toArray.size ≤ sizeLine := by rw [List.size_toArray, List.size_toArray]; omega
  have hlong : ¬ (!its.toArray.isEmpty && Builtin.List.listTooLong (its.toArray.size + its2.toArray.size)) = true := by
    rw [notLongL hsz, Bool.and_false]
    exact Bool.false_ne_true
  refine call_meets F.slot_list_extend ⟨_, e, rfl⟩ F.entry_list_extend (F.args_list_extend_2 _ _)
    (AutoSeq1.list_extend_list_list_0 l its.toArray n b its2.toArray n2 hlong (by rw [List.size_toArray]; omega) (by omega)) ⟨e, e2, ?_⟩
  refine ⟨.non, _, I.lset (its' := its ++ its2) hH e (by simp) (r.append r2) ?_, rfl, q⟩
  rw [List.length_append]
  omega

def rPop : V → List V → Hp → VK → Prop := fun x vs H Q => ∃ l xs y, x = .ref l ∧ vs = [] ∧ H l = some (.lst xs) ∧ xs[xs.length - 1]? = some y ∧ Q y (upd H l (.lst xs.dropLast))
theorem mt_pop : MtM X "list.pop" rPop := by
  intro pins s σ H x vs v us Q I rx rv h
  obtain ⟨l, xs, y, rfl, rfl, hH, hy, q⟩ := h
  cases rx
  have hus := rv.zero
  subst hus
  obtain ⟨z, its, n, r, hl, e⟩ := I.lstM hH
  obtain ⟨u, hu, ru⟩ := r.get hy
  have hy' : its.toArray[its.toArray.size - 1]? = some u := by
    show its.toArray[its.length - 1]? = some u
    rw [← Array.getElem?_toList, ← hl]
    exact hu
  refine call_meets F.slot_list_pop ⟨_, e, rfl⟩ F.entry_list_pop (F.args_list_pop_1 _) (MeetsSeq.list_pop_last l its.toArray n u hy' (by rw [List.size_toArray]; omega)) ⟨e, ?_⟩
  refine ⟨y, _, I.lset (its' := its.dropLast) hH e ?_ r.dropLast ?_, ru, q⟩
  · show its.toArray.eraseIdxIfInBounds (its.toArray.size - 1) = its.dropLast.toArray
    rw [List.size_toArray, List.eraseIdxIfInBounds_toArray, erase_last]
  · rw [List.length_dropLast]
    omega

def rPopAt : V → List V → Hp → VK → Prop := fun x vs H Q => ∃ l xs i k y, x = .ref l ∧ vs = [.int i] ∧ H l = some (.lst xs) ∧ -(2 ^ 63) ≤ i ∧ i < 2 ^ 63 ∧ seqIndex? i xs.length = some k ∧ xs[k]? = some y ∧ Q y (upd H l (.lst (xs.eraseIdx k)))
def rReverse : V → List V → Hp → VK → Prop := fun x vs H Q => ∃ l xs, x = .ref l ∧ vs = [] ∧ H l = some (.lst xs) ∧ Q .non (upd H l (.lst xs.reverse))
def rClear : V → List V → Hp → VK → Prop := fun x vs H Q => ∃ l xs, x = .ref l ∧ vs = [] ∧ H l = some (.lst xs) ∧ Q .non (upd H l (.lst []))
def rCat : R2 := fun x y H Q => ∃ l b xs zs, x = .ref l ∧ y = .ref b ∧ H l = some (.lst xs) ∧ H b = some (.lst zs) ∧ xs.length + zs.length ≤ sizeLine ∧ ∀ p, H p = none → Q (.ref p) (upd H p (.lst (xs ++ zs)))
theorem op_cat : OpR X (binaryOp .Add) rCat := by
  intro pins s σ H x y v u Q I rx ry h
  obtain ⟨l, b, xs, zs, rfl, rfl, hH, hB, hz, q⟩ := h
  cases rx
  cases ry
  obtain ⟨z, its, n, r, hl, e⟩ := I.lstM hH
  obtain ⟨z2, its2, n2, r2, hl2, e2⟩ := I.lstM hB
  refine PySem.P.add_list e e2 ?_ (by rw [List.size_toArray, List.size_toArray]; omega)
  have ea : its.toArray ++ its2.toArray = (its ++ its2).toArray := by simp
  rw [ea]
  exact ⟨.ref _, _, I.lnew (t' := s.toks) (r.append r2) (by rw [List.length_append]; omega), rfl, q _ I.fresh⟩
def rRep : R2 := fun x y H Q => ∃ l k xs, x = .ref l ∧ y = .int k ∧ H l = some (.lst xs) ∧ -(2 ^ 63) ≤ k ∧ k < 2 ^ 63 ∧ xs.length * k.toNat ≤ sizeLine ∧
  ∀ p, H p = none → Q (.ref p) (upd H p (.lst (List.replicate k.toNat xs).flatten))
end

section
variable {prog : Program} {w : World} {A : Around} {E : Value → Shared → Prop} {s : Shared}
end

section
variable {X : Cx}
end
end L2

namespace L2
open PySem PySem.Spec PyProof.Rows

section
variable {κ : Type} [DecidableEq κ]
def valV (kvs : List (κ × V)) (k : κ) : Option V := (kvs.find? fun kv => decide (kv.1 = k)).map (·.2)
def putK (kvs : List (κ × V)) (k : κ) (v : V) : List (κ × V) :=
  if (kvs.any fun kv => decide (kv.1 = k)) = true then kvs.map (fun kv => if kv.1 = k then (kv.1, v) else kv) else kvs ++ [(k, v)]
def dropK (kvs : List (κ × V)) (k : κ) : List (κ × V) := kvs.filter fun kv => decide (kv.1 ≠ k)

theorem valV_pos {p : κ × V} {r : List (κ × V)} {k : κ} (e : p.1 = k) : valV (p :: r) k = some p.2 := by simp [valV, List.find?_cons, e]
theorem valV_neg {p : κ × V} {r : List (κ × V)} {k : κ} (e : ¬ p.1 = k) : valV (p :: r) k = valV r k := by simp [valV, List.find?_cons, e]
theorem valV_any (k : κ) : ∀ kvs : List (κ × V), (kvs.any fun kv => decide (kv.1 = k)) = (valV kvs k).isSome
  | [] => rfl
  | p :: r => by
    rw [List.any_cons]
    by_cases e : p.1 = k
    · simp only [valV_pos e, decide_eq_true e, Bool.true_or, Option.isSome_some]
    · rw [valV_neg e, decide_eq_false e, Bool.false_or]; exact valV_any k r
theorem length_putK (kvs : List (κ × V)) (k : κ) (v : V) : (putK kvs k v).length ≤ kvs.length + 1 := by
  unfold putK
  split
  · rw [List.length_map]; omega
  · rw [List.length_append, List.length_cons, List.length_nil]; omega
theorem RelO.isSome_eq {o : Option V} {u : Option Value} (r : RelO o u) : o.isSome = u.isSome := by
  cases o with
  | none => cases u with
    | none => rfl
    | some _ => exact (show False from r).elim
  | some _ => cases u with
    | none => exact (show False from r).elim
    | some _ => rfl
theorem RelO.getD {o : Option V} {u : Option Value} {d : V} {d' : Value} (r : RelO o u) (rd : RelV d d') : RelV (o.getD d) (u.getD d') := by
  cases o with
  | none => cases u with
    | none => exact rd
    | some _ => exact (show False from r).elim
  | some _ => cases u with
    | none => exact (show False from r).elim
    | some _ => exact r

theorem KV.val {kvs : List (κ × V)} {vs : List (κ × Value)} (r : KV kvs vs) (k : κ) : RelO (valV kvs k) (valueAt vs k) := by
  unfold KV at r
  induction r with
  | nil => exact True.intro
  | @cons p q ps qs h t ih =>
    obtain ⟨h1, h2⟩ := h
    by_cases e : p.1 = k
    · have e' : q.1 = k := h1.symm.trans e
      have b : valueAt (q :: qs) k = some q.2 := by simp [valueAt, List.find?_cons, e']
      rw [valV_pos e, b]; exact h2
    · have e' : ¬ q.1 = k := fun z => e (h1.trans z)
      have b : valueAt (q :: qs) k = valueAt qs k := by simp [valueAt, List.find?_cons, e']
      rw [valV_neg e, b]; exact ih
theorem KV.any {kvs : List (κ × V)} {vs : List (κ × Value)} (r : KV kvs vs) (k : κ) : (kvs.any fun kv => decide (kv.1 = k)) = vs.any fun kv => decide (kv.1 = k) := by
  unfold KV at r
  induction r with
  | nil => rfl
  | cons h t ih => rw [List.any_cons, List.any_cons, ih, h.1]
theorem KV.repl {kvs : List (κ × V)} {vs : List (κ × Value)} (r : KV kvs vs) (k : κ) {y : V} {u : Value} (ry : RelV y u) :
    KV (kvs.map fun kv => if kv.1 = k then (kv.1, y) else kv) (vs.map fun kv => if kv.1 = k then (kv.1, u) else kv) := by
  unfold KV at r ⊢
  induction r with
  | nil => exact .nil
  | @cons p q ps qs h t ih =>
    rw [List.map_cons, List.map_cons]
    refine .cons ?_ ih
    obtain ⟨h1, h2⟩ := h
    by_cases e : p.1 = k
    · rw [if_pos e, if_pos (h1.symm.trans e)]; exact ⟨h1, ry⟩
    · rw [if_neg e, if_neg (fun z => e (h1.trans z))]; exact ⟨h1, h2⟩
theorem KV.put {kvs : List (κ × V)} {vs : List (κ × Value)} (r : KV kvs vs) (k : κ) {y : V} {u : Value} (ry : RelV y u) : KV (putK kvs k y) (stored vs k u) := by
  unfold putK stored
  rw [r.any k]
  by_cases e : (vs.any fun kv => decide (kv.1 = k)) = true
  · rw [if_pos e, if_pos e]; exact r.repl k ry
  · rw [if_neg e, if_neg e]; exact Paired.snoc r ⟨rfl, ry⟩
theorem KV.length {kvs : List (κ × V)} {vs : List (κ × Value)} (r : KV kvs vs) : kvs.length = vs.length := Paired.length r
end

theorem kV_is {P : Program} {w : World} {k : Key} {u : Value} (r : RelV (kV k) u) : (mixKind P w).is k u = true := by
  cases k with
  | inl i => obtain ⟨t, e⟩ := (show ∃ t, u = Value.int i t from r); subst e; exact mixKind_int P w i t
  | inr x => obtain ⟨t, e⟩ := (show ∃ t, u = Value.str x t from r); subst e; exact mixKind_str P w x t
theorem items_are {P : Program} {w : World} : ∀ {ks : List Key} {us : List Value}, Vals (ks.map kV) us → ItemsAre (mixKind P w) ks us
  | [], _, r => by rw [List.map_nil] at r; cases r; exact .nil
  | k :: ks, _, r => by
    rw [List.map_cons] at r
    cases r with
    | cons h t => exact .cons (kV_is h) (items_are t)

abbrev KT (H : Hp) : List (List Key × V) → List (List Key × Addr × Value) → Prop := Paired fun p q => p.1 = q.1 ∧ H q.2.1 = some (.tup (p.1.map kV)) ∧ RelV p.2 q.2.2
theorem KT.val {H : Hp} {kvs : List (List Key × V)} {xs : List (List Key × Addr × Value)} (r : KT H kvs xs) (k : List Key) : RelO (valV kvs k) ((atKey xs k).map (·.2)) := by
  induction r with
  | nil => exact True.intro
  | @cons p q ps qs h t ih =>
    obtain ⟨h1, _, h2⟩ := h
    by_cases e : p.1 = k
    · have e' : q.1 = k := h1.symm.trans e
      have b : atKey (q :: qs) k = some q.2 := by simp [atKey, List.find?_cons, e']
      rw [valV_pos e, b]; exact h2
    · have e' : ¬ q.1 = k := fun z => e (h1.trans z)
      have b : atKey (q :: qs) k = atKey qs k := by simp [atKey, List.find?_cons, e']
      rw [valV_neg e, b]; exact ih
theorem KT.repl {H : Hp} {kvs : List (List Key × V)} {xs : List (List Key × Addr × Value)} (r : KT H kvs xs) (k : List Key) {y : V} {u : Value} (ry : RelV y u) :
    KT H (kvs.map fun kv => if kv.1 = k then (kv.1, y) else kv) (xs.map (putAt k u)) := by
  induction r with
  | nil => exact .nil
  | @cons p q ps qs h t ih =>
    rw [List.map_cons, List.map_cons]
    refine .cons ?_ ih
    obtain ⟨h1, h2, h3⟩ := h
    unfold putAt
    by_cases e : p.1 = k
    · rw [if_pos e, if_pos (h1.symm.trans e)]; exact ⟨h1, h2, ry⟩
    · rw [if_neg e, if_neg (fun z => e (h1.trans z))]; exact ⟨h1, h2, h3⟩
theorem KT.put {H : Hp} {kvs : List (List Key × V)} {xs : List (List Key × Addr × Value)} (r : KT H kvs xs) (k : List Key) {b : Addr} {y : V} {u : Value} (hb : H b = some (.tup (k.map kV))) (ry : RelV y u) :
    KT H (putK kvs k y) (storedH xs k b u) := by
  have e : (kvs.any fun kv => decide (kv.1 = k)) = (atKey xs k).isSome := by
    rw [valV_any, (r.val k).isSome_eq, Option.isSome_map]
  unfold putK storedH
  rw [e]
  by_cases q : (atKey xs k).isSome = true
  · rw [if_pos q, if_pos q]; exact r.repl k ry
  · rw [if_neg q, if_neg q]; exact Paired.snoc r ⟨rfl, hb, ry⟩
theorem KT.keeps {H H' : Hp} {kvs : List (List Key × V)} {xs : List (List Key × Addr × Value)} (r : KT H kvs xs) (ht : ∀ b ys, H b = some (.tup ys) → H' b = some (.tup ys)) : KT H' kvs xs :=
  Paired.mapP r fun _ _ z => ⟨z.1, ht _ _ z.2.1, z.2.2⟩

section
variable {P : Program} {w : World} {H : Hp} {h : Heap} {a : Addr}
theorem rd_of {u : HO} (ok : HOk P w H h) (e : Rd H a u) : ObjOk P w H h a u := e.ok ok
theorem dk_rd {kvs : List (Key × V)} (ok : HOk P w H h) (e : Rd H a (.dK kvs)) : kvs.length ≤ sizeLine ∧ (a == sysModules) = false ∧ ∃ vs, KV kvs vs ∧ h.DictOf (mixKind P w) a vs :=
  show ObjOk P w H h a (.dK kvs) from rd_of ok e
theorem dk_of {kvs : List (Key × V)} (ok : HOk P w H h) (e : H a = some (.dK kvs)) : kvs.length ≤ sizeLine ∧ (a == sysModules) = false ∧ ∃ vs, KV kvs vs ∧ h.DictOf (mixKind P w) a vs := dk_rd ok (.inl e)
theorem key_of {ks : List Key} (ok : HOk P w H h) (e : H a = some (.tup (ks.map kV))) : (tupleKind (mixKind P w)).is h ks a := by
  obtain ⟨_, its, r, o, h1, h2, n, h3⟩ := (show ObjOk P w H h a (.tup (ks.map kV)) from ok a _ e)
  exact ⟨o, its.toArray, n, h1, h2, h3, by simpa using items_are r⟩
theorem dt_rd {kvs : List (List Key × V)} (ok : HOk P w H h) (e : Rd H a (.dT kvs)) : kvs.length ≤ sizeLine ∧ (a == sysModules) = false ∧
    ∃ xs, KT H kvs xs ∧ h.DictOfH (tupleKind (mixKind P w)) a xs := by
  obtain ⟨z, y, xs, r, o, es, ep, h1, h2, h3, h4, h5⟩ := (show ObjOk P w H h a (.dT kvs) from rd_of ok e)
  refine ⟨z, y, xs, r, o, es, ep, h1, h2, h3, h4, fun x hx => ?_, h5⟩
  have all : ∀ {l : List (List Key × V)} {m : List (List Key × Addr × Value)}, KT H l m → ∀ x ∈ m, (tupleKind (mixKind P w)).is h x.1 x.2.1 := by
    intro l m q
    induction q with
    | nil => intro x hx; exact nomatch hx
    | @cons p q ps qs hq t ih =>
      intro x hx
      rcases List.mem_cons.mp hx with e | hx
      · subst e
        exact key_of ok (by rw [← hq.1]; exact hq.2.1)
      · exact ih x hx
  exact all r x hx
theorem dt_of {kvs : List (List Key × V)} (ok : HOk P w H h) (e : H a = some (.dT kvs)) : kvs.length ≤ sizeLine ∧ (a == sysModules) = false ∧
    ∃ xs, KT H kvs xs ∧ h.DictOfH (tupleKind (mixKind P w)) a xs := dt_rd ok (.inl e)
end

def DGet (H : Hp) (a : Addr) (y : V) (r : Option V) : Prop :=
  (∃ kvs k, Rd H a (.dK kvs) ∧ y = kV k ∧ r = valV kvs k) ∨ ∃ kvs k b, Rd H a (.dT kvs) ∧ y = .ref b ∧ H b = some (.tup (k.map kV)) ∧ r = valV kvs k
def DPut (H : Hp) (a : Addr) (y v : V) (H' : Hp) : Prop :=
  (∃ kvs k, H a = some (.dK kvs) ∧ y = kV k ∧ kvs.length < sizeLine ∧ H' = upd H a (.dK (putK kvs k v))) ∨
  ∃ kvs k b, H a = some (.dT kvs) ∧ y = .ref b ∧ H b = some (.tup (k.map kV)) ∧ kvs.length < sizeLine ∧ H' = upd H a (.dT (putK kvs k v))
theorem DGet.k {H : Hp} {a : Addr} {kvs : List (Key × V)} {k : Key} (e : H a = some (.dK kvs)) : DGet H a (kV k) (valV kvs k) := .inl ⟨kvs, k, .inl e, rfl, rfl⟩
theorem DPut.k {H : Hp} {a : Addr} {kvs : List (Key × V)} {k : Key} {v : V} (e : H a = some (.dK kvs)) (hl : kvs.length < sizeLine) : DPut H a (kV k) v (upd H a (.dK (putK kvs k v))) := .inl ⟨kvs, k, e, rfl, hl, rfl⟩
section
variable {X : Cx} {pins : List (Addr × Obj)} {σ : St} {H : Hp} {s : Shared} {a : Addr} {y v : V} {u r : Value} {o : Option V} {A : Around} {E : Value → Shared → Prop}

theorem Inv.big (I : Inv X pins σ H s) : sysModules < s.heap.objs.size := by
  have h : mainGlobals < s.heap.objs.size := (I.mod.glob.keeps I.bk).lt
  exact Nat.lt_trans (by decide) h

theorem d_getItem {Q : Value → Shared → Prop} (hu : A.units + 1 < cLine) (I : Inv X pins σ H s) (g : DGet H a y (some v)) (ry : RelV y u) (h : ∀ w' s', Inv X pins σ H s' → RelV v w' → Q w' s') :
    wpAny (model X.prog X.w) A (getItem (.ref a) u) Q E s := by
  rcases g with ⟨kvs, k, e, ey, l⟩ | ⟨kvs, k, b, e, ey, eb, l⟩
  · subst ey
    obtain ⟨z, hd, vs, rel, dd⟩ := dk_rd I.hok e
    obtain ⟨w', hw, rw'⟩ := RelO.some_of (v := v) (o := valueAt vs k) (by rw [l]; exact rel.val k)
    exact wpAny_getItem_of (kV_is ry) dd.mapOf hw (h w' _ (I.tok _) rw')
  · subst ey
    cases (show u = Value.ref b from ry)
    obtain ⟨z, hd, xs, rel, dd⟩ := dt_rd I.hok e
    obtain ⟨w', hw, rw'⟩ := RelO.some_of (v := v) (o := (atKey xs k).map (·.2)) (by rw [l]; exact rel.val k)
    obtain ⟨p, hp, hp2⟩ := Option.map_eq_some_iff.mp hw
    refine wpAny_getItem_heap (tupleKind_room_in1 hu) (key_of I.hok eb) dd hp ?_
    rw [hp2]
    exact h w' _ (I.tok _) rw'
theorem d_write {h' : Heap} {t' : Nat} {ob : HO} (I : Inv X pins σ H s) (mu : Mut (H a)) (hs : Heap.SameBut a s.heap h') (he : ∃ q, h'.get? a = some q) (new : ObjOk X.prog X.w (upd H a ob) h' a ob) :
    Inv X pins σ (upd H a ob) { s with heap := h', toks := t' } :=
  I.write (x := a) (e := a) mu (.inl rfl) (fun b q hb z => (hs.2 b hb).trans z) he new
theorem dk_new {P : Program} {w : World} {H' : Hp} {h' : Heap} {kvs : List (Key × V)} {vs : List (Key × Value)} (z : kvs.length ≤ sizeLine) (hd : (a == sysModules) = false) (rel : KV kvs vs) (dd : h'.DictOf (mixKind P w) a vs) :
    ObjOk P w H' h' a (.dK kvs) := ⟨z, hd, vs, rel, dd⟩
theorem d_setItem {H' : Hp} {Q : Unit → Shared → Prop} (hu : A.units + 1 < cLine) (I : Inv X pins σ H s) (g : DPut H a y v H') (ry : RelV y u) (rv : RelV v r) (h : ∀ s', Inv X pins σ H' s' → Q () s') :
    wpAny (model X.prog X.w) A (setItem (.ref a) u r) Q E s := by
  rcases g with ⟨kvs, k, e, ey, l, eH⟩ | ⟨kvs, k, b, e, ey, eb, l, eH⟩
  · subst ey eH
    obtain ⟨z, hd, vs, rel, dd⟩ := dk_of I.hok e
    have hz : vs.length ≤ sizeLine := by rw [← rel.length]; exact z
    have hl : (putK kvs k v).length ≤ sizeLine := by have := length_putK kvs k v; omega
    refine wpAny_setItem_pairs (hsz := hz) (kV_is ry) dd fun h' dd' hs => h _ ?_
    have he : ∃ q, h'.get? a = some q := let ⟨q, _, _, hq, _⟩ := dd'; ⟨q, hq⟩
    exact d_write I (by rw [e]; exact True.intro) hs he (dk_new hl hd (rel.put k rv) dd')
  · subst ey eH
    cases (show u = Value.ref b from ry)
    obtain ⟨z, hd, xs, rel, dd⟩ := dt_of I.hok e
    have hz : xs.length ≤ sizeLine := by rw [← Paired.length rel]; exact z
    have hl : (putK kvs k v).length ≤ sizeLine := by have := length_putK kvs k v; omega
    refine wpAny_setItem_heap (hsz := hz) (tupleKind_room_in1 hu) (key_of I.hok eb) dd fun h' dd' hs => h _ ?_
    obtain ⟨q, es, ep, hq, h2, h3, h4, _, h5⟩ := dd'
    refine d_write I (by rw [e]; exact True.intro) hs ⟨q, hq⟩ ⟨hl, hd, _, (rel.put k eb rv).keeps fun c ys ec => ?_, q, es, ep, hq, h2, h3, h4, h5⟩
    rw [upd_ne (ne_of ec e (fun z => nomatch z))]
    exact ec
end

section
variable {X : Cx} {pins : List (Addr × Obj)} {σ : St} {H : Hp} {s : Shared} {a : Addr} {kvs : List (Key × V)} {k : Key} {u : Value} {A : Around} {E : Value → Shared → Prop}
end

def NoSl (i : Expr) : Prop := ∀ ov iv, subscripted i false ov iv = operate [ov, iv] (getItem ov iv)
theorem dict_typeIs {X : Cx} {pins : List (Addr × Obj)} {σ : St} {H : Hp} {s : Shared} {a : Addr} {y : V} {o : Option V} (I : Inv X pins σ H s) (g : DGet H a y o) : s.TypeIs (.ref a) "dict" := by
  rcases g with ⟨kvs, k, e, _, _⟩ | ⟨kvs, k, b, e, _, _, _⟩
  · obtain ⟨_, _, vs, _, dd⟩ := dk_rd I.hok e
    exact dd.typeIs
  · obtain ⟨_, _, xs, _, dd⟩ := dt_rd I.hok e
    exact dd.typeIs
def tDGet (td ty : TE) : TE := fun σ H Q => td σ H fun x H1 => ty σ H1 fun y H2 => ∃ a v, x = .ref a ∧ DGet H2 a y (some v) ∧ Q v H2
def tDIn (ty td : TE) : TE := fun σ H Q => ty σ H fun y H1 => td σ H1 fun x H2 => ∃ a o, x = .ref a ∧ DGet H2 a y o ∧ Q (.bl o.isSome) H2
def tDNotIn (ty td : TE) : TE := fun σ H Q => ty σ H fun y H1 => td σ H1 fun x H2 => ∃ a o, x = .ref a ∧ DGet H2 a y o ∧ Q (.bl (!o.isSome)) H2
def sDPut (td ty tv : TE) : TS := fun D σ H => tv σ H fun v H1 => td σ H1 fun x H2 => ty σ H2 fun y H3 => ∃ a H4, x = .ref a ∧ DPut H3 a y v H4 ∧ D.nx σ H4
def sDAug (td ty tv : TE) (rd : V → V → Hp → VK → Prop) : TS := fun D σ H => td σ H fun x H1 => ty σ H1 fun y H2 => ∃ a v, x = .ref a ∧ DGet H2 a y (some v) ∧
  tv σ H2 fun y2 H3 => rd v y2 H3 fun z H4 => ∃ H5, DPut H4 a y z H5 ∧ D.nx σ H5
def sDDel (td ty : TE) : TS := fun D σ H => td σ H fun x H1 => ty σ H1 fun y H2 => ∃ a kvs k, x = .ref a ∧ H2 a = some (.dK kvs) ∧ y = kV k ∧ (valV kvs k).isSome = true ∧ D.nx σ (upd H2 a (.dK (dropK kvs k)))

section
variable {X : Cx} {o i e value : Expr} {pos pos' tpos : Pos} {td ty tv : TE}
theorem ps_dput (hu : X.A.units + 1 < cLine) (ho : PE X o td) (hi : PE X i ty) (hv : PE X value tv) (hs : swapsWith value (some (.Subscript o i pos')) pos.line X.env = pure false) :
    PS X (.Assign [.Subscript o i pos'] value pos) (sDPut td ty tv) := by
  intro pins s σ H D I h
  refine wpAny_Assign_Subscript (thn (hv pins s σ H _ I h) fun r s1 ⟨v, H1, I1, rv, q1⟩ => thn (ho pins s1 σ H1 _ I1 q1) fun u s2 ⟨x, H2, I2, rx, q2⟩ => thn (hi pins s2 σ H2 _ I2 q2) fun iv s3 ⟨y, H3, I3, ry, a, H4, ex, g, q3⟩ => ?_) hs
  subst ex
  obtain rfl : u = Value.ref a := rx
  exact d_setItem hu I3 g ry rv fun s4 I4 => ⟨σ, H4, I4, q3⟩
end

theorem dk_empty {P : Program} {w : World} {H : Hp} (h : Heap) (hb : sysModules < h.objs.size) : ObjOk P w H (h.push { cls := .type "dict", data := .dict #[] }) h.objs.size (.dK []) :=
  ⟨Nat.zero_le _, beq_eq_false_iff_ne.mpr (Ne.symm (Nat.ne_of_lt hb)), [], .nil, Heap.DictOf.new h⟩
def tDNewK : TE := fun _ H Q => ∀ p, H p = none → Q (.ref p) (upd H p (.dK []))
def tDNewT : TE := fun _ H Q => ∀ p, H p = none → Q (.ref p) (upd H p (.dT []))
section
variable {X : Cx} {pos : Pos}
theorem pe_dnewK : PE X (.Dict [] [] pos) tDNewK := fun pins s σ H Q I h =>
  wpAny_Dict_empty ⟨.ref s.heap.objs.size, _, I.laid (a := s.heap.objs.size) (o := .dK []) (t' := s.toks) (fun _ _ q => Heap.get?_push_of_some _ q) (Nat.le_refl _) (dk_empty s.heap I.big), rfl, h _ (I.hok.fresh (Nat.le_refl _))⟩
end

def tPairs : List (TE × TE) → St → Hp → (List (V × V) → Hp → Prop) → Prop
  | [], _, H, Q => Q [] H
  | (tk, tv) :: r, σ, H, Q => tk σ H fun x H1 => tv σ H1 fun y H2 => tPairs r σ H2 fun ps H3 => Q ((x, y) :: ps) H3
abbrev VV : List (V × V) → List (Value × Value) → Prop := Paired fun p q => RelV p.1 q.1 ∧ RelV p.2 q.2
def PPs (X : Cx) (pos : Pos) (keys : List (Option Expr)) (values : List Expr) (trs : List (TE × TE)) : Prop :=
  ∀ (pins : List (Addr × Obj)) (s : Shared) (σ : St) (H : Hp) (Q : List (V × V) → Hp → Prop), Inv X pins σ H s → tPairs trs σ H Q →
    wpAny (model X.prog X.w) X.A (evalPairs (pairTrees keys values X.env pos)) (fun vs s' => ∃ ps H', Inv X pins σ H' s' ∧ VV ps vs ∧ Q ps H') X.xe s
def mergeK (kvs more : List (Key × V)) : List (Key × V) := more.foldl (fun acc kv => putK acc kv.1 kv.2) kvs
def tDisp (trs : List (TE × TE)) : TE := fun σ H Q => ∀ p, H p = none → tPairs trs σ (upd H p (.dK [])) fun ps H2 => H2 p = some (.dK []) ∧ ∃ kvs : List (Key × V), ps = kvs.map (fun kv => (kV kv.1, kv.2)) ∧ kvs.length ≤ 15 ∧ Q (.ref p) (upd H2 p (.dK (mergeK [] kvs)))
structure M1 (X : Cx) (o : Expr) (m : Str) (apos : Pos) (e : Expr) (cpos : Pos) : Prop where
  base : attributeBase o m X.env (eval o X.env) = eval o X.env
  few : ((backTo cpos (starEach [e] X.env)).all (fun x => !x.1) && (backToKw cpos (keywordEach [] X.env)).all (fun x => x.1.isSome)
    && decide (([e] : List Expr).length + ([] : List Keyword).length + (if ([] : List Keyword).isEmpty then 0 else 1) < 30)) = true
  line : (apos.endLine == cpos.line) = true
  trees : backTo cpos (starEach [e] X.env) = [(false, eval e X.env)]
structure M2 (X : Cx) (o : Expr) (m : Str) (apos : Pos) (e f : Expr) (cpos : Pos) : Prop where
  base : attributeBase o m X.env (eval o X.env) = eval o X.env
  few : ((backTo cpos (starEach [e, f] X.env)).all (fun x => !x.1) && (backToKw cpos (keywordEach [] X.env)).all (fun x => x.1.isSome)
    && decide (([e, f] : List Expr).length + ([] : List Keyword).length + (if ([] : List Keyword).isEmpty then 0 else 1) < 30)) = true
  line : (apos.endLine == cpos.line) = true
  trees : backTo cpos (starEach [e, f] X.env) = [(false, eval e X.env), (false, eval f X.env)]

def IsD (H : Hp) (a : Addr) : Prop := (∃ kvs, Rd H a (.dK kvs)) ∨ ∃ kvs, Rd H a (.dT kvs)
section
variable {X : Cx} {pins : List (Addr × Obj)} {σ : St} {H : Hp} {s : Shared} {a : Addr} {y d : V} {u r : Value} {o : Option V} {A : Around} {E : Value → Shared → Prop}
theorem d_get2 {Q : Value → Shared → Prop} (hu : A.units + 1 < cLine) (I : Inv X pins σ H s) (g : DGet H a y o) (ry : RelV y u) (rd : RelV d r) (h : ∀ w' s', Inv X pins σ H s' → RelV (o.getD d) w' → Q w' s') :
    wpAny (model X.prog X.w) A (call (.builtin "dict.get") [.ref a, u, r]) Q E s := by
  rcases g with ⟨kvs, k, e, ey, l⟩ | ⟨kvs, k, b, e, ey, eb, l⟩
  · subst ey
    obtain ⟨z, hd, vs, rel, dd⟩ := dk_rd I.hok e
    refine call_meetsIn PySem.F.slot_dict_get dd.typeIs PySem.F.entry_dict_get (PySem.F.args_dict_get_3 _ _ _) (meets_dict_get_default (mixKind X.prog X.w) a (kV_is ry) hd r) ⟨_, dd.mapOf, h _ _ (I.tok _) ?_⟩
    rw [l]
    exact (rel.val k).getD rd
  · subst ey
    cases (show u = Value.ref b from ry)
    obtain ⟨z, hd, xs, rel, dd⟩ := dt_rd I.hok e
    refine call_meetsIn PySem.F.slot_dict_get dd.typeIs PySem.F.entry_dict_get (PySem.F.args_dict_get_3 _ _ _) (meetsH_dict_get_default (tupleKind (mixKind X.prog X.w)) a b hd r) ⟨tupleKind_room_in1 hu, k, xs, key_of I.hok eb, dd, h _ _ (I.tok _) ?_⟩
    rw [l]
    exact (rel.val k).getD rd
end

def tDGet1 (td ty : TE) : TE := fun σ H Q => td σ H fun x H1 => ∃ a, x = .ref a ∧ IsD H1 a ∧ ty σ H1 fun y H2 => ∃ o, DGet H2 a y o ∧ Q (o.getD .non) H2
def tDGet2 (td ty tx : TE) : TE := fun σ H Q => td σ H fun x H1 => ∃ a, x = .ref a ∧ IsD H1 a ∧ ty σ H1 fun y H2 => tx σ H2 fun z H3 => ∃ o, DGet H3 a y o ∧ Q (o.getD z) H3
def tDPop1 (td ty : TE) : TE := fun σ H Q => td σ H fun x H1 => ∃ a, x = .ref a ∧ IsD H1 a ∧ ty σ H1 fun y H2 => ∃ kvs k v, H2 a = some (.dK kvs) ∧ y = kV k ∧ valV kvs k = some v ∧ Q v (upd H2 a (.dK (dropK kvs k)))
def tDPop2 (td ty tx : TE) : TE := fun σ H Q => td σ H fun x H1 => ∃ a, x = .ref a ∧ IsD H1 a ∧ ty σ H1 fun y H2 => tx σ H2 fun z H3 => ∃ kvs k, H3 a = some (.dK kvs) ∧ y = kV k ∧
  (∀ v, valV kvs k = some v → Q v (upd H3 a (.dK (dropK kvs k)))) ∧ (valV kvs k = none → Q z H3)
section
variable {X : Cx} {o e f : Expr} {apos cpos : Pos} {td ty tx : TE}
end

section
variable {X : Cx} {pins : List (Addr × Obj)} {σ : St} {H : Hp} {s : Shared} {a : Addr} {kvs : List (Key × V)} {A : Around} {E : Value → Shared → Prop}
end

section
variable {X : Cx} {pins : List (Addr × Obj)} {σ : St} {H : Hp} {s : Shared} {a : Addr} {y : V} {u : Value} {A : Around} {E : Value → Shared → Prop}
end
end L2

namespace Att
open PySem PySem.W PySem.Calls PyProof.Rows

theorem ints_of_wellAll {P : Params} {h : Heap} : ∀ (ns : List Int) (vs : List Value), WellAll P h vs (ns.map WData.int) → IntsAre vs ns := by
  intro ns
  induction ns with
  | nil =>
    intro vs w
    rw [List.map_nil] at w
    cases w
    exact .nil
  | cons n ns ih =>
    intro vs w
    rw [List.map_cons] at w
    cases w with
    | cons a b =>
      cases a
      exact .cons _ _ (ih _ b)

theorem script_of {l : OpenLaw} {n : Nat} (hn : l.most = some n) {P : Params} {h : Heap} {args : List WData} {vals : List Value}
    (hpre : l.row.toRowW.claim.pre args = true) (hwl : WellAll P h vals args) :
    ∃ a vs ns, vals = [Value.ref a] ∧ args = [WData.list (ns.map WData.int)] ∧ h.get? a = some { cls := .type "list", data := .seq vs.toArray } ∧ IntsAre vs ns ∧ ns.length ≤ n := by
  have hsh : WShape.hasAll [] args [.list .int] = true := (pre_splitW hpre).1
  have hc : l.pre.holds [] { args := args } = true := (pre_splitW hpre).2
  obtain ⟨d, r, rfl, h1, h2⟩ := hasAllW_cons hsh
  obtain rfl := hasAllW_nil h2
  obtain ⟨xs, rfl, h3⟩ := hasW_list h1
  obtain ⟨ns, rfl⟩ := items_int h3
  have hlen : ns.length ≤ n := by
    unfold OpenLaw.pre at hc
    have h4 : (WTm.not (.lt (.lit (.int (n : Int))) (.len (.arg 0)))).holds [] { args := [.list (ns.map .int)] } = true := by
      have h4 := (holds_andW hc).1
      rw [hn] at h4
      exact h4
    have h5 := condW_of h4 (w_not (w_lt w_lit (w_len_list (w_arg rfl))))
    rw [List.length_map] at h5
    refine Nat.le_of_not_lt fun q => ?_
    have q' : (n : Int) < ((ns.length : Nat) : Int) := by omega
    first
      | (rw [decide_eq_true q'] at h5; exact absurd h5 (by decide))
      | (simp at h5; omega)
  cases hwl with
  | cons w1 w2 =>
    cases w2
    cases w1 with
    | list ho hall => exact ⟨_, _, ns, rfl, rfl, ho, ints_of_wellAll ns _ hall, hlen⟩

theorem post_true (l : OpenLaw) (args : List WData) : l.row.toRowW.claim.post args (.bool true) args = true :=
  postW_of (r := l.row.toRowW) (X := (true == true))
    (show WShape.has [] (.bool true) .bool = true by first | rfl | decide | simp [WShape.has, WShape.arms, WShape.armsAll])
    (show (WTm.eq .res (.lit (.bool true))).value [] { args := args, res := some (.bool true), after := args } = some (.bool (true == true)) from w_eq_bool (w_res rfl) w_lit) rfl

section
variable {prog : Program} {w : World} {A : Around} {E : Value → Shared → Prop} {s : Shared} {K : Frag}

def noObjs (h : Heap) : Heap := { h with objs := #[] }
def ledger (h : Heap) (L d : Addr) : List (Addr × Obj) := (List.range h.objs.size).filterMap fun a => if a = L ∨ a = d then none else (h.get? a).map fun o => (a, o)
end
end Att

namespace L2
open PySem PySem.Spec PyProof.Rows

theorem vals_ints : ∀ {vs : List Value} {ns : List Int}, IntsAre vs ns → Vals (ns.map V.int) vs
  | _, _, .nil => .nil
  | _, _, .cons n t h => .cons ⟨t, rfl⟩ (vals_ints h)

def Only (H : Hp) : Prop := ∀ b, H b = none ∨ ∃ o xs, H b = some (.frz o (.lst xs))

theorem law_call {P : Program} {w : World} {K : PySem.W.Frag} {mg mb : Str → Option Value} {CX : CXT} {k : Nat} {fa a : Addr} {fd : FuncData} {x : Str} {sp : Sp} {s₁ : Shared} {vs : List Value} {ns : List Int}
    (KX : K.In s₁.heap) (hns : s₁.heap.Ns mainGlobals mg) (hb : s₁.heap.Ns builtinsNs mb) (hbb : ∀ x : Str, x ≠ "__name__" → mb x = bootBuiltins x) (hlim : s₁.heap.NoLimit) (hg : s₁.gens = #[])
    (ha : s₁.heap.get? a = some { cls := .type "list", data := .seq vs.toArray }) (hi : IntsAre vs ns) (hl : ns.length ≤ sizeLine) (hr : Room k callerA)
    (F : ∀ base : Heap, K.In base → base.Ns mainGlobals mg → FnOk P w K mg base CX k fa fd [x] sp) (hbind : ∀ (s : Shared) (u : Value), BindsTo s fd ⟨[u], []⟩ [(x, u)])
    (hsp : ∀ H : Hp, Only H → SqL K H a (ns.map V.int) → sp [.ref a] H (fun v _ => v = .bl true) fun _ _ _ => False)
    (hCX : ∀ H e s', CX [] H s₁ (fun _ _ _ => False) e s' → False) :
    codeAny (model P w) callerA (.call (.ref fa) ⟨[.ref a], []⟩) (fun r s' => r = .ok (.ret (.bool true)) ∧ OldK s₁.heap s'.heap ∧ s'.os = s₁.os ∧ AllBare s'.gens) s₁ := by
  have rv := vals_ints hi
  have lenV := hi.length
  have core : ∀ H : Hp, Only H → SqL K H a (ns.map V.int) → HOk P w H s₁.heap → (∀ b, H b ≠ none → b = a) → (H a ≠ none → K.lookup a = none) →
      codeAny (model P w) callerA (.call (.ref fa) ⟨[.ref a], []⟩) (fun r s' => r = .ok (.ret (.bool true)) ∧ OldK s₁.heap s'.heap ∧ s'.os = s₁.os ∧ AllBare s'.gens) s₁ := by
    intro H hO hS hok hA hK
    have base_of : ∀ {b : Addr} {o : Obj}, s₁.heap.get? b = some o → H b = none → (hidT s₁.heap H).get? b = some o := fun e n => hidT_get e n
    have noA : ∀ {b : Addr} {o : Obj} {es : Array DictEntry} {ep : Nat}, s₁.heap.get? b = some o → o.data = .dict es ep → H b = none := fun {b o es ep} e d => by
      cases q : H b with
      | none => rfl
      | some u =>
        have e' : b = a := hA b (by rw [q]; simp)
        subst e'
        rw [ha] at e; cases e
        have d' : Data.seq vs.toArray _ = Data.dict es ep := d
        cases d'
    have nsK : ∀ {b : Addr} {m : Str → Option Value}, s₁.heap.Ns b m → (hidT s₁.heap H).Ns b m := fun {b m} ⟨o, es, ep, e, d, r⟩ => ⟨o, es, ep, base_of e (noA e d), d, r⟩
    have hKb : K.In (hidT s₁.heap H) := fun b o e => base_of (KX b o e) (by
      cases q : H b with
      | none => rfl
      | some u =>
        have e' : b = a := hA b (by rw [q]; simp)
        subst e'
        rw [hK (by rw [q]; simp)] at e; cases e)
    have hM : Mod K mg (hidT s₁.heap H) := ⟨hKb, nsK hns, ⟨mb, nsK hb, hbb⟩, let ⟨mc, h1, h2⟩ := hlim; ⟨mc, nsK h1, h2⟩⟩
    have e0 : Env0 P w K mg (hidT s₁.heap H) callerA [] s₁ H := ⟨rfl, hM, fun b o e => of_hidT e, Nat.le_of_eq (hidT_size _ _), trivial, fun b hb => absurd (show b ∈ ([] : List Addr) from hb) (by simp), hok, .of_eq hg⟩
    refine codeAny_mono ((F _ hKb (nsK hns)).run callerA [] s₁ H ⟨[.ref a], []⟩ [.ref a] [.ref a] _ _ hr e0 (hbind s₁ (.ref a)) (.cons rfl .nil) (hsp H hO hS)) fun r s' h => ?_
    cases r with
    | error e => exact (hCX H e s' h).elim
    | ok fl =>
      cases fl with
      | next => exact False.elim h
      | brk => exact False.elim h
      | cont => exact False.elim h
      | ret u =>
        obtain ⟨v, H', os, bare, un, hok', r', q⟩ := h
        have q' : v = .bl true := q
        subst q'
        obtain rfl : u = Value.bool true := r'
        refine ⟨rfl, OldK.of_keep fun b o e => ?_, os, bare⟩
        cases q : H b with
        | none => exact un.keep b o e q (by intro z; exact absurd (show b ∈ ([] : List Addr) from z) (by simp)) (by simp)
        | some u =>
          rcases hO b with z | ⟨ob, xs, z⟩
          · rw [q] at z; cases z
          · have z2 := un.frzs b ob _ z
            obtain ⟨e1, _⟩ := hok b _ z
            obtain ⟨e2, _⟩ := hok' b _ z2
            rw [e] at e1; cases e1
            exact e2
  cases hk : K.lookup a with
  | some o =>
    have e := KX a o hk
    rw [ha] at e
    cases e
    refine core (fun _ => none) (fun _ => .inl rfl) (.inr ⟨_, vs.toArray, _, hk, rfl, rfl, rfl, by rw [List.size_toArray, lenV]; exact hl, by simpa using rv⟩) (fun b u z => by have z' : (none : Option HO) = some u := z; cases z') (fun b z => absurd rfl z) fun z => absurd rfl z
  | none =>
    refine core (fun b => if b = a then some (.frz { cls := .type "list", data := .seq vs.toArray } (.lst (ns.map V.int))) else none) (fun b => ?_) (.inl (.inr ⟨{ cls := .type "list", data := .seq vs.toArray }, if_pos rfl⟩)) (fun b u z => ?_) (fun b z => ?_) fun _ => hk
    · by_cases hb : b = a
      · exact .inr ⟨_, _, if_pos hb⟩
      · exact .inl (if_neg hb)
    · by_cases hb : b = a
      · have z' := (if_pos hb).symm.trans z
        cases z'
        subst hb
        exact ⟨ha, by rw [List.length_map]; exact hl, vs, _, rv, ha⟩
      · have z' := (if_neg hb).symm.trans z
        cases z'
    · by_cases hb : b = a
      · exact hb
      · exact absurd (if_neg hb) z
end L2

namespace L2
open PySem PySem.Spec PyProof.Rows

abbrev KOf {K : PySem.W.Frag} {h : Heap} (_ : K.In h) : PySem.W.Frag := K

end L2

/- THE LAST THEOREM (shape; LID, My.* are yours):
   My.Adr: a structure of the addresses that your layer names (classes, functions); My.Txt K t: a structure (Prop) of the equations over K;
   My.txt_mk : {K} {implicit addresses ..} (e1 : nsIn K mainGlobals "law" = some (some (.ref f))) (e2 : K.lookup f = some ⟨oc, od, .func (fnOf "law" "law" params body scope dV kV doc pm an cdv ct), sl⟩) (e3 : codeIn K cdv "law" = true) .. : ∃ t, My.Txt K t

set_option maxRecDepth 100000 in
set_option maxHeartbeats 0 in
theorem PySem.Challenge.cw_LID_holds : PySem.Challenge.rw_LID.Holds := by
  w_on; o_law; k_head; (case hw => w_witness2)
  k_fill
  refine L2.walk_of (l := PySem.Challenge.rw_LID) (n := 63) (k := 40) (x := "script") (CX := fun w => ..) (sp := fun _ => My.sp_law) rfl (by decide) rfl ⟨rfl, by decide, by decide⟩ (fun w h Y => PySem.W.kIn_of Y) ?F ?S ?C
  case F =>
    intro w mg fa h KX G hmg
    have T : ∃ t, My.Txt (L2.KOf KX) t := by
      dsimp only [L2.KOf]                          -- K must stand as «<heap const> w.params» for k_is
      refine' My.txt_mk ?e1 ?e2 ?e3 ..
      (case e1 => PySem.W.k_is)                    -- in the order: a name -> its address -> its object -> its parts
      (case e2 => PySem.W.k_is)
      ..
    obtain ⟨t, T⟩ := T
    have e0 := hmg.symm.trans (PySem.W.mg_of KX G T.law)
    cases e0                                       -- fa is the law's own address
    exact ⟨_, fun s u => .of_eq rfl, fun base kb nb => My.law_fn T kb nb⟩     -- if «.of_eq rfl» comes too early: refine' ⟨_, ?b, fun base kb nb => My.law_fn T kb nb⟩; exact fun s u => .of_eq rfl
  case S => exact fun w H a ns hl hO hS => ..
  case C => exact ..
(the tactic k_is has no namespace: write k_is) -/

namespace L2
open PySem PySem.Spec PyProof.Rows

def inClass (s : Stmt) (j : Nat) : Stmt := match s with
  | .ClassDef _ _ _ body _ _ _ _ _ _ _ => body.getD j (.Pass ⟨0, 0, 0, 0⟩)
  | _ => .Pass ⟨0, 0, 0, 0⟩
def defArgs (s : Stmt) : Arguments := match s with
  | .FunctionDef _ a _ _ _ _ _ _ _ _ => a
  | _ => { posonlyargs := [], args := [], vararg := none, kwonlyargs := [], kw_defaults := [], kwarg := none, defaults := [] }
def defBody (s : Stmt) : List Stmt := match s with
  | .FunctionDef _ _ b _ _ _ _ _ _ _ => b
  | _ => []
def defScope (s : Stmt) : Scope := match s with
  | .FunctionDef _ _ _ _ _ _ sc _ _ _ => sc
  | _ => { kind := .function, names := [], isGenerator := false, isCoroutine := false }

abbrev CX0 : CXT := fun _ _ _ _ _ _ => False
abbrev E0 : XK := fun _ _ _ => False
theorem pass0 {X : Cx} : Passes CX0 X E0 := fun _ _ _ _ _ _ _ h => h.elim

structure Fun (K : PySem.W.Frag) (x qual : Str) (st : Stmt) (f : Addr) (fd : FuncData) : Prop where
  ex : ∃ (oc : Value) (od : Option Addr) (kV doc pm : Value) (an : Option Addr) (cdv ct : Value) (osl : Array (Option Value)),
    fd = PySem.W.fnOf x qual (defArgs st) (defBody st) (defScope st) .none kV doc pm an cdv ct ∧ K.lookup f = some ⟨oc, od, .func fd, osl⟩ ∧ PySem.W.codeIn K cdv qual = true
  kp : PySem.W.keepIn K (.ref f) = true
section
variable {P : Program} {w : World} {K : PySem.W.Frag} {mg : Str → Option Value} {base : Heap}
theorem Fun.ok {x qual : Str} {st : Stmt} {f : Addr} {fd : FuncData} {N ps : List Str} {k : Nat} {sp : Sp} (F : Fun K x qual st f fd) (S : FnScope N ps (defScope st)) (len : ∀ vs H Q E, sp vs H Q E → vs.length = ps.length)
    (hbody : ∀ (cdv : Value) (A : Around) (outer : List Env) (s : Shared) (H : Hp) (vs : List V) (Q : VK) (E : XK), Room k (A.deeper (envOfC qual (defScope st) s.heap.objs.size f cdv)) → sp vs H Q E →
      ∃ t, PSs (cxOf CX0 P w K mg base N qual (defScope st) f cdv A outer s H E).nox (defBody st) t ∧ t { nx := fun _ H' => Q .non H', rt := Q } (start N vs) H) : FnOk P w K mg base CX0 (k + 1) f fd ps sp := by
  obtain ⟨oc, od, kV, doc, pm, an, cdv, ct, osl, rfl, lk, hcd⟩ := F.ex
  refine fn_of lk hcd S len fun A outer s H vs Q E hr hsp => ?_
  obtain ⟨t, h, q⟩ := hbody cdv A outer s H vs Q E hr hsp
  exact ⟨t, h.nox, q⟩
theorem Fun.binds {x qual : Str} {st : Stmt} {f : Addr} {fd : FuncData} {ps : List Str} (F : Fun K x qual st f fd)
    (h : ∀ (kV doc pm : Value) (an : Option Addr) (cdv ct : Value) (us : List Value), us.length = ps.length → bindArgs (PySem.W.fnOf x qual (defArgs st) (defBody st) (defScope st) .none kV doc pm an cdv ct) ⟨us, []⟩ = pure (ps.zip us)) : Binds K fd ps [] := by
  obtain ⟨oc, od, kV, doc, pm, an, cdv, ct, osl, rfl, lk, hcd⟩ := F.ex
  exact .all (h kV doc pm an cdv ct)
theorem fun_mk {x qual : Str} {st : Stmt} {f : Addr} {oc : Value} {od an : Option Addr} {osl : Array (Option Value)} {kV doc pm cdv ct : Value} (l : K.lookup f = some ⟨oc, od, .func (PySem.W.fnOf x qual (defArgs st) (defBody st) (defScope st) .none kV doc pm an cdv ct), osl⟩)
    (c : PySem.W.codeIn K cdv qual = true) (k : PySem.W.keepIn K (.ref f) = true) : Fun K x qual st f (PySem.W.fnOf x qual (defArgs st) (defBody st) (defScope st) .none kV doc pm an cdv ct) := ⟨⟨oc, od, kV, doc, pm, an, cdv, ct, osl, rfl, l, c⟩, k⟩
end
theorem hu_of {A : Around} {k : Nat} (hr : Room k A) : A.units + 1 < cLine := Nat.lt_of_le_of_lt (Nat.add_le_add_left (by decide : 1 ≤ 64) _) hr.units
section
variable {X : Cx}
end

def Same (H H' : Hp) : Prop := ∀ b o, H b = some o → H' b = some o
theorem Same.refl (H : Hp) : Same H H := fun _ _ h => h
theorem Same.trans {H H1 H2 : Hp} (a : Same H H1) (b : Same H1 H2) : Same H H2 := fun c o h => b c o (a c o h)
theorem Same.free {H H' : Hp} (e : Same H H') {l : Addr} (h : H' l = Option.none) : H l = Option.none := by
  cases q : H l with
  | none => rfl
  | some o =>
    rw [e l o q] at h
    cases h
section
variable {κ : Type} [DecidableEq κ]
end
end L2

set_option Elab.async false
set_option linter.all false
set_option maxRecDepth 100000
set_option maxHeartbeats 4000000
namespace M
open PySem PySem.Spec L2
open PyProof.Rows hiding St

inductive D where
  | non | bl (b : Bool) | int (i : Int) | str (x : Str)
  | tup (ds : List D) | lst (ds : List D) | scr (ds : List D) | dic (ks : List Key) (vs : List D) | dit (ks : List (List Key)) (vs : List D) | exn (c : Str) | fdc (ks : List Key) (vs : List D) | hdc (ks : List Key) (vs : List D)

mutual
def D.imm : D → Bool
  | .non => true
  | .bl _ => true
  | .int _ => true
  | .str _ => true
  | .tup ds => D.imms ds
  | .lst _ => false
  | .scr _ => false
  | .dic _ _ => false
  | .dit _ _ => false
  | .exn _ => true
  | .fdc _ _ => false
  | .hdc _ _ => false
def D.imms : List D → Bool
  | [] => true
  | d :: ds => D.imm d && D.imms ds
end

inductive Res (α : Type) where
  | ok (a : α)
  | exc (c : Str)
  | stuck
def Res.bind {α β : Type} (r : Res α) (f : α → Res β) : Res β :=
  match r with
  | .ok a => f a
  | .exc c => .exc c
  | .stuck => .stuck
instance : Monad Res where
  pure := Res.ok
  bind := Res.bind
theorem bind_inv {α β : Type} {r : Res α} {f : α → Res β} {b : β} (h : (r >>= f) = .ok b) : ∃ a, r = .ok a ∧ f a = .ok b := by
  cases r with
  | ok a => exact ⟨a, rfl, h⟩
  | exc c => cases h
  | stuck => cases h
def must {α : Type} (c : Prop) [Decidable c] (r : Res α) : Res α := if c then r else .stuck
theorem must_inv {α : Type} {c : Prop} [Decidable c] {r : Res α} {a : α} (h : must c r = .ok a) : c ∧ r = .ok a := by
  unfold must at h
  by_cases hc : c
  · rw [if_pos hc] at h; exact ⟨hc, h⟩
  · rw [if_neg hc] at h; cases h
theorem must_pos {α : Type} {c : Prop} [Decidable c] {r : Res α} (h : c) : must c r = r := if_pos h

def LsK (K : PySem.W.Frag) (H : Hp) (a : Addr) (xs : List V) : Prop :=
  (∃ o, H a = some (.frz o (.lst xs))) ∨
    ∃ (o : Obj) (its : Array Value) (n : Nat), K.lookup a = some o ∧ o.cls = .type "list" ∧ o.dict = none ∧ o.data = .seq its n ∧ its.size ≤ sizeLine ∧ Vals xs its.toList
theorem LsK.sql {K : PySem.W.Frag} {H : Hp} {a : Addr} {xs : List V} (h : LsK K H a xs) : SqL K H a xs := by
  rcases h with h | h
  · exact .inl (.inr h)
  · exact .inr h

mutual
inductive Rep (K : PySem.W.Frag) : (Addr → Prop) → Hp → V → D → Prop where
  | non {A H} : Rep K A H .non .non
  | bl {A H} (b : Bool) : Rep K A H (.bl b) (.bl b)
  | int {A H} (i : Int) : Rep K A H (.int i) (.int i)
  | str {A H} (x : Str) : x.length ≤ sizeLine → Rep K A H (.str x) (.str x)
  | tup {A H} {a : Addr} {xs : List V} {ds : List D} : H a = some (.tup xs) → Reps K A H xs ds → Rep K A H (.ref a) (.tup ds)
  | lst {A H} {a : Addr} {xs : List V} {ds : List D} : H a = some (.lst xs) → A a → Reps K (fun c => A c ∧ c ≠ a) H xs ds → Rep K A H (.ref a) (.lst ds)
  | lsk {A H} {a : Addr} {xs : List V} {ds : List D} : LsK K H a xs → Reps K A H xs ds → Rep K A H (.ref a) (.scr ds)
  | dic {A H} {a : Addr} {kvs : List (Key × V)} {vs : List V} {ks : List Key} {ds : List D} : H a = some (.dK kvs) → A a → kvs.map (·.1) = ks → kvs.map (·.2) = vs → Reps K (fun c => A c ∧ c ≠ a) H vs ds → Rep K A H (.ref a) (.dic ks ds)
  | dit {A H} {a : Addr} {kvs : List ((List Key) × V)} {vs : List V} {ks : List (List Key)} {ds : List D} : H a = some (.dT kvs) → A a → kvs.map (·.1) = ks → kvs.map (·.2) = vs → Reps K (fun c => A c ∧ c ≠ a) H vs ds → Rep K A H (.ref a) (.dit ks ds)
  | exn {A H} {a b C : Addr} {o : Obj} {c : Str} : H a = some (.frz o (.own b)) → o.cls = .ref C → PySem.W.nsIn K mainGlobals c = some (some (.ref C)) → Rep K A H (.ref a) (.exn c)
  | fdc {A H} {a : Addr} {kvs : List (Key × V)} {vs : List V} {ks : List Key} {ds : List D} : ((H a = some (.dK kvs) ∧ A a) ∨ ∃ o, H a = some (.frz o (.dK kvs))) → kvs.map (·.1) = ks → kvs.map (·.2) = vs → Reps K (fun c => A c ∧ c ≠ a) H vs ds → Rep K A H (.ref a) (.fdc ks ds)
  | hdc {A H} {a : Addr} {kvs : List (Key × V)} {vs : List V} {ks : List Key} {ds : List D} : (∃ o, H a = some (.frz o (.dK kvs))) → kvs.map (·.1) = ks → kvs.map (·.2) = vs → Reps K (fun c => A c ∧ c ≠ a) H vs ds → Rep K A H (.ref a) (.hdc ks ds)
inductive Reps (K : PySem.W.Frag) : (Addr → Prop) → Hp → List V → List D → Prop where
  | nil {A H} : Reps K A H [] []
  | cons {A H} {v : V} {d : D} {vs : List V} {ds : List D} : Rep K A H v d → Reps K A H vs ds → Reps K A H (v :: vs) (d :: ds)
end

def Stay (A : Addr → Prop) (H H' : Hp) : Prop := ∀ a o, H a = some o → (Mut (some o) → A a) → H' a = some o
theorem Stay.mono {A B : Addr → Prop} {H H' : Hp} (h : Stay A H H') (w : ∀ a, B a → A a) : Stay B H H' := fun a o e m => h a o e fun z => w a (m z)
section
variable {K : PySem.W.Frag}
theorem LsK.stay {A : Addr → Prop} {H H' : Hp} {a : Addr} {xs : List V} (h : LsK K H a xs) (st : Stay A H H') : LsK K H' a xs := by
  rcases h with ⟨o, e⟩ | h
  · exact .inl ⟨o, st a _ e (fun z => z.elim)⟩
  · exact .inr h
mutual
theorem Rep.stay : ∀ {A A' : Addr → Prop} {H H' : Hp} {v : V} {d : D}, Rep K A H v d → Stay A H H' → (∀ a, A a → A' a) → Rep K A' H' v d
  | _, _, _, _, _, _, .non, _, _ => .non
  | _, _, _, _, _, _, .bl b, _, _ => .bl b
  | _, _, _, _, _, _, .int i, _, _ => .int i
  | _, _, _, _, _, _, .str x h, _, _ => .str x h
  | _, _, _, _, _, _, .tup e r, st, w => .tup (st _ _ e (fun z => z.elim)) (Reps.stay r st w)
  | _, _, _, _, _, _, .lst e a r, st, w => .lst (st _ _ e (fun _ => a)) (w _ a) (Reps.stay r (st.mono fun _ z => z.1) fun _ z => ⟨w _ z.1, z.2⟩)
  | _, _, _, _, _, _, .lsk e r, st, w => .lsk (e.stay st) (Reps.stay r st w)
  | _, _, _, _, _, _, .dic e a k1 k2 r, st, w => .dic (st _ _ e (fun _ => a)) (w _ a) k1 k2 (Reps.stay r (st.mono fun _ z => z.1) fun _ z => ⟨w _ z.1, z.2⟩)
  | _, _, _, _, _, _, .dit e a k1 k2 r, st, w => .dit (st _ _ e (fun _ => a)) (w _ a) k1 k2 (Reps.stay r (st.mono fun _ z => z.1) fun _ z => ⟨w _ z.1, z.2⟩)
  | _, _, _, _, _, _, .exn e h1 h2, st, w => .exn (st _ _ e (fun z => z.elim)) h1 h2
  | _, _, _, _, _, _, .fdc e k1 k2 r, st, w => .fdc (e.elim (fun z => .inl ⟨st _ _ z.1 (fun _ => z.2), w _ z.2⟩) (fun ⟨o, z⟩ => .inr ⟨o, st _ _ z (fun z => z.elim)⟩)) k1 k2 (Reps.stay r (st.mono fun _ z => z.1) fun _ z => ⟨w _ z.1, z.2⟩)
  | _, _, _, _, _, _, .hdc e k1 k2 r, st, w => .hdc (let ⟨o, z⟩ := e; ⟨o, st _ _ z (fun z => z.elim)⟩) k1 k2 (Reps.stay r (st.mono fun _ z => z.1) fun _ z => ⟨w _ z.1, z.2⟩)
theorem Reps.stay : ∀ {A A' : Addr → Prop} {H H' : Hp} {vs : List V} {ds : List D}, Reps K A H vs ds → Stay A H H' → (∀ a, A a → A' a) → Reps K A' H' vs ds
  | _, _, _, _, _, _, .nil, _, _ => .nil
  | _, _, _, _, _, _, .cons h t, st, w => .cons (Rep.stay h st w) (Reps.stay t st w)
end
theorem Same.stay {A : Addr → Prop} {H H' : Hp} (h : Same H H') : Stay A H H' := fun a o e _ => h a o e
variable {A A' : Addr → Prop} {H H' : Hp}
theorem Rep.grow {v : V} {d : D} (r : Rep K A H v d) (h : Same H H') : Rep K A H' v d := r.stay (Same.stay h) fun _ z => z
theorem Reps.grow {v : List V} {d : List D} (r : Reps K A H v d) (h : Same H H') : Reps K A H' v d := r.stay (Same.stay h) fun _ z => z
theorem Rep.weak {v : V} {d : D} (r : Rep K A H v d) (w : ∀ a, A a → A' a) : Rep K A' H v d := r.stay (fun _ _ e _ => e) w
theorem Reps.weak {v : List V} {d : List D} (r : Reps K A H v d) (w : ∀ a, A a → A' a) : Reps K A' H v d := r.stay (fun _ _ e _ => e) w
mutual
theorem Rep.imm : ∀ {A A' : Addr → Prop} {H : Hp} {v : V} {d : D}, Rep K A H v d → d.imm = true → Rep K A' H v d
  | _, _, _, _, _, .non, _ => .non
  | _, _, _, _, _, .bl b, _ => .bl b
  | _, _, _, _, _, .int i, _ => .int i
  | _, _, _, _, _, .str x h, _ => .str x h
  | _, _, _, _, _, .tup e r, i => .tup e (Reps.imm r (by simpa only [D.imm] using i))
  | _, _, _, _, _, .lst _ _ _, i => by simp [D.imm] at i
  | _, _, _, _, _, .lsk _ _, i => by simp [D.imm] at i
  | _, _, _, _, _, .dic _ _ _ _ _, i => by simp [D.imm] at i
  | _, _, _, _, _, .dit _ _ _ _ _, i => by simp [D.imm] at i
  | _, _, _, _, _, .exn e h1 h2, _ => .exn e h1 h2
  | _, _, _, _, _, .fdc _ _ _ _, i => by simp [D.imm] at i
  | _, _, _, _, _, .hdc _ _ _ _, i => by simp [D.imm] at i
theorem Reps.imm : ∀ {A A' : Addr → Prop} {H : Hp} {vs : List V} {ds : List D}, Reps K A H vs ds → D.imms ds = true → Reps K A' H vs ds
  | _, _, _, _, _, .nil, _ => .nil
  | _, _, _, _, _, .cons h t, i => by
    simp only [D.imms, Bool.and_eq_true] at i
    exact .cons (Rep.imm h i.1) (Reps.imm t i.2)
end
theorem Reps.length : ∀ {A : Addr → Prop} {H : Hp} {vs : List V} {ds : List D}, Reps K A H vs ds → vs.length = ds.length
  | _, _, _, _, .nil => rfl
  | _, _, _, _, .cons _ t => by simp [Reps.length t]
theorem Reps.get : ∀ {A : Addr → Prop} {H : Hp} {vs : List V} {ds : List D} {i : Nat} {d : D}, Reps K A H vs ds → ds[i]? = some d → ∃ v, vs[i]? = some v ∧ Rep K A H v d
  | _, _, _, _, _, _, .nil, e => by simp at e
  | _, _, _, _, 0, _, .cons r _, e => by simp at e; subst e; exact ⟨_, rfl, r⟩
  | _, _, _, _, i + 1, d, .cons _ t, e => by
    obtain ⟨v, h1, h2⟩ := Reps.get (i := i) (d := d) t (by simpa using e)
    exact ⟨v, by simpa using h1, h2⟩
theorem Reps.get' : ∀ {A : Addr → Prop} {H : Hp} {vs : List V} {ds : List D} {i : Nat} {v : V}, Reps K A H vs ds → vs[i]? = some v → ∃ d, ds[i]? = some d ∧ Rep K A H v d
  | _, _, _, _, _, _, .nil, e => by simp at e
  | _, _, _, _, 0, _, .cons r _, e => by simp at e; subst e; exact ⟨_, rfl, r⟩
  | _, _, _, _, i + 1, d, .cons _ t, e => by
    obtain ⟨v, h1, h2⟩ := Reps.get' (i := i) t (by simpa using e)
    exact ⟨v, by simpa using h1, h2⟩
theorem Reps.append : ∀ {A : Addr → Prop} {H : Hp} {vs ws : List V} {ds es : List D}, Reps K A H vs ds → Reps K A H ws es → Reps K A H (vs ++ ws) (ds ++ es)
  | _, _, _, _, _, _, .nil, s => s
  | _, _, _, _, _, _, .cons r t, s => .cons r (Reps.append t s)
theorem Reps.take : ∀ {A : Addr → Prop} {H : Hp} {vs : List V} {ds : List D} (n : Nat), Reps K A H vs ds → Reps K A H (vs.take n) (ds.take n)
  | _, _, _, _, 0, _ => .nil
  | _, _, _, _, _ + 1, .nil => .nil
  | _, _, _, _, n + 1, .cons r t => .cons r (Reps.take n t)
theorem Reps.drop : ∀ {A : Addr → Prop} {H : Hp} {vs : List V} {ds : List D} (n : Nat), Reps K A H vs ds → Reps K A H (vs.drop n) (ds.drop n)
  | _, _, _, _, 0, r => r
  | _, _, _, _, _ + 1, .nil => .nil
  | _, _, _, _, n + 1, .cons _ t => Reps.drop n t
theorem Reps.dropLast {vs : List V} {ds : List D} (r : Reps K A H vs ds) : Reps K A H vs.dropLast ds.dropLast := by
  rw [List.dropLast_eq_take, List.dropLast_eq_take, r.length]; exact r.take _
theorem Reps.isEmpty {xs : List V} {ds : List D} (r : Reps K A H xs ds) : ds.isEmpty = xs.isEmpty := by cases r <;> rfl
theorem Rep.lstE {v : V} {ds : List D} (r : Rep K A H v (.lst ds)) : ∃ a xs, v = .ref a ∧ H a = some (.lst xs) ∧ A a ∧ Reps K (fun c => A c ∧ c ≠ a) H xs ds := by
  cases r with
  | lst e h r => exact ⟨_, _, rfl, e, h, r⟩
theorem Rep.scrE {v : V} {ds : List D} (r : Rep K A H v (.scr ds)) : ∃ a xs, v = .ref a ∧ LsK K H a xs ∧ Reps K A H xs ds := by
  cases r with
  | lsk e r => exact ⟨_, _, rfl, e, r⟩
theorem Rep.tupE {v : V} {ds : List D} (r : Rep K A H v (.tup ds)) : ∃ a xs, v = .ref a ∧ H a = some (.tup xs) ∧ Reps K A H xs ds := by
  cases r with
  | tup e r => exact ⟨_, _, rfl, e, r⟩
theorem Rep.intE {v : V} {i : Int} (r : Rep K A H v (.int i)) : v = .int i := by cases r; rfl
theorem Rep.blE {v : V} {b : Bool} (r : Rep K A H v (.bl b)) : v = .bl b := by cases r; rfl
theorem Rep.strE {v : V} {x : Str} (r : Rep K A H v (.str x)) : v = .str x ∧ x.length ≤ sizeLine := by cases r; exact ⟨rfl, by assumption⟩
theorem Rep.nonE {v : V} (r : Rep K A H v .non) : v = .non := by cases r; rfl
theorem Reps.low {a : Addr} {vs : List V} {ds : List D} (r : Reps K (fun c => A c ∧ c ≠ a) H vs ds) : Reps K A H vs ds := r.weak fun _ z => z.1
mutual
theorem Rep.inDom : ∀ {A : Addr → Prop} {H : Hp} {v : V} {d : D}, Rep K A H v d → Rep K (fun c => A c ∧ H c ≠ none) H v d
  | _, _, _, _, .non => .non
  | _, _, _, _, .bl b => .bl b
  | _, _, _, _, .int i => .int i
  | _, _, _, _, .str x h => .str x h
  | _, _, _, _, .tup e r => .tup e (Reps.inDom r)
  | _, _, _, _, .lst e a r => .lst e ⟨a, by rw [e]; simp⟩ ((Reps.inDom r).weak fun _ z => ⟨⟨z.1.1, z.2⟩, z.1.2⟩)
  | _, _, _, _, .lsk e r => .lsk e (Reps.inDom r)
  | _, _, _, _, .dic e a k1 k2 r => .dic e ⟨a, by rw [e]; simp⟩ k1 k2 ((Reps.inDom r).weak fun _ z => ⟨⟨z.1.1, z.2⟩, z.1.2⟩)
  | _, _, _, _, .dit e a k1 k2 r => .dit e ⟨a, by rw [e]; simp⟩ k1 k2 ((Reps.inDom r).weak fun _ z => ⟨⟨z.1.1, z.2⟩, z.1.2⟩)
  | _, _, _, _, .exn e h1 h2 => .exn e h1 h2
  | _, _, _, _, .fdc e k1 k2 r => .fdc (e.elim (fun z => .inl ⟨z.1, z.2, by rw [z.1]; simp⟩) .inr) k1 k2 ((Reps.inDom r).weak fun _ z => ⟨⟨z.1.1, z.2⟩, z.1.2⟩)
  | _, _, _, _, .hdc e k1 k2 r => .hdc e k1 k2 ((Reps.inDom r).weak fun _ z => ⟨⟨z.1.1, z.2⟩, z.1.2⟩)
theorem Reps.inDom : ∀ {A : Addr → Prop} {H : Hp} {vs : List V} {ds : List D}, Reps K A H vs ds → Reps K (fun c => A c ∧ H c ≠ none) H vs ds
  | _, _, _, _, .nil => .nil
  | _, _, _, _, .cons h t => .cons (Rep.inDom h) (Reps.inDom t)
end
theorem Same.upd {H : Hp} {p : Addr} {o : HO} (h : H p = none) : Same H (L2.upd H p o) := fun b u e => by rw [upd_ne (ne_of_none e h)]; exact e
theorem Reps.laid {p : Addr} {o : HO} {vs : List V} {ds : List D} (r : Reps K A H vs ds) (hp : H p = none) : Reps K (fun c => A c ∧ c ≠ p) (L2.upd H p o) vs ds :=
  (r.inDom.grow (Same.upd hp)).weak fun c z => ⟨z.1, fun e => z.2 (by rw [e]; exact hp)⟩
end

inductive Slot where
  | un
  | own (d : D)
  | shr (d : D)
abbrev Sl := List Slot
def Owned (env : Sl) (σ : St) (a : Addr) : Prop := ∃ (i : Nat) (d : D), env[i]? = some (.own d) ∧ σ[i]? = some (some (.ref a))
abbrev NotO (env : Sl) (σ : St) : Addr → Prop := fun a => ¬ Owned env σ a
abbrev Sf (G : Addr → Prop) (env : Sl) (σ : St) : Addr → Prop := fun a => ¬ Owned env σ a ∧ G a
inductive Top (K : PySem.W.Frag) (A : Addr → Prop) (H : Hp) (a : Addr) : D → Prop where
  | lst {xs : List V} {ds : List D} : H a = some (.lst xs) → Reps K A H xs ds → Top K A H a (.lst ds)
  | dic {kvs : List (Key × V)} {vs : List V} {ks : List Key} {ds : List D} : H a = some (.dK kvs) → kvs.map (·.1) = ks → kvs.map (·.2) = vs → Reps K A H vs ds → Top K A H a (.dic ks ds)
  | dit {kvs : List ((List Key) × V)} {vs : List V} {ks : List (List Key)} {ds : List D} : H a = some (.dT kvs) → kvs.map (·.1) = ks → kvs.map (·.2) = vs → Reps K A H vs ds → Top K A H a (.dit ks ds)
theorem Top.rep {K : PySem.W.Frag} {A A' : Addr → Prop} {H : Hp} {a : Addr} {d : D} (t : Top K A H a d) (w : ∀ b, A b → A' b ∧ b ≠ a) (ha : A' a) : Rep K A' H (.ref a) d := by
  cases t with
  | lst e r => exact .lst e ha (r.weak w)
  | dic e k1 k2 r => exact .dic e ha k1 k2 (r.weak w)
  | dit e k1 k2 r => exact .dit e ha k1 k2 (r.weak w)
theorem Top.stay {K : PySem.W.Frag} {A A' : Addr → Prop} {H H' : Hp} {a : Addr} {d : D} (t : Top K A H a d) (st : Stay A H H') (w : ∀ b, A b → A' b) (ha : ∀ o, H a = some o → H' a = some o) : Top K A' H' a d := by
  cases t with
  | lst e r => exact .lst (ha _ e) (r.stay st w)
  | dic e k1 k2 r => exact .dic (ha _ e) k1 k2 (r.stay st w)
  | dit e k1 k2 r => exact .dit (ha _ e) k1 k2 (r.stay st w)
theorem Top.there {K : PySem.W.Frag} {A : Addr → Prop} {H : Hp} {a : Addr} {d : D} (t : Top K A H a d) : ∃ o, H a = some o ∧ Mut (some o) := by
  cases t with
  | lst e r => exact ⟨_, e, trivial⟩
  | dic e _ _ r => exact ⟨_, e, trivial⟩
  | dit e _ _ r => exact ⟨_, e, trivial⟩
structure EnvOk (K : PySem.W.Frag) (G : Addr → Prop) (H0 : Hp) (env : Sl) (σ : St) (H : Hp) : Prop where
  len : σ.length = env.length
  base : Same H0 H
  g0 : ∀ a, H0 a = none → G a
  shr : ∀ (i : Nat) (d : D), env[i]? = some (.shr d) → ∃ v, σ[i]? = some (some v) ∧ Rep K (Sf G env σ) H v d
  own : ∀ (i : Nat) (d : D), env[i]? = some (.own d) → ∃ a, σ[i]? = some (some (.ref a)) ∧ H0 a = none ∧ Top K (Sf G env σ) H a d
  dis : ∀ (i j : Nat) (d e : D) (a : Addr), env[i]? = some (.own d) → env[j]? = some (.own e) → σ[i]? = some (some (.ref a)) → σ[j]? = some (some (.ref a)) → i = j
section
variable {K : PySem.W.Frag} {G : Addr → Prop} {H0 H H' : Hp} {env : Sl} {σ : St}
theorem EnvOk.grow (e : EnvOk K G H0 env σ H) (h : Same H H') : EnvOk K G H0 env σ H' where
  len := e.len
  base := e.base.trans h
  g0 := e.g0
  shr := fun i d z => let ⟨v, h1, h2⟩ := e.shr i d z; ⟨v, h1, h2.grow h⟩
  own := fun i d z => let ⟨a, h1, h2, h3⟩ := e.own i d z; ⟨a, h1, h2, h3.stay (Same.stay h) (fun _ z => z) (fun o q => h _ o q)⟩
  dis := e.dis
theorem EnvOk.there (e : EnvOk K G H0 env σ H) {a : Addr} (o : Owned env σ a) : ∃ u, H a = some u := by
  obtain ⟨i, d, h1, h2⟩ := o
  obtain ⟨b, h3, _, h4⟩ := e.own i d h1
  rw [h2] at h3; cases h3
  obtain ⟨u, h5, _⟩ := h4.there
  exact ⟨u, h5⟩
theorem EnvOk.mutO (k : EnvOk K G H0 env σ H) {a : Addr} (o : Owned env σ a) {u : HO} (e : H a = some u) : Mut (some u) := by
  obtain ⟨i, d, h1, h2⟩ := o
  obtain ⟨b, h3, _, h4⟩ := k.own i d h1
  rw [h2] at h3; cases h3
  obtain ⟨u', h5, m⟩ := h4.there
  rw [e] at h5; cases h5; exact m
theorem EnvOk.new (k : EnvOk K G H0 env σ H) : ∀ a, H a = none → Sf G env σ a := fun a z => ⟨fun o => (by
  obtain ⟨u, q⟩ := k.there o
  rw [z] at q; cases q), k.g0 a (Same.free k.base z)⟩
end

inductive Lv where
  | b | s | t
abbrev Any : Addr → Prop := fun _ => True
def Lv.A (l : Lv) (G : Addr → Prop) (env : Sl) (σ : St) : Addr → Prop :=
  match l with
  | .b => Any
  | .s => Sf G env σ
  | .t => Sf G env σ
def NewTop (H : Hp) (v : V) : Prop := ∀ a, v = .ref a → ∀ o, H a = some o → ¬ Mut (some o)
def Lv.T (l : Lv) (H : Hp) (v : V) : Prop :=
  match l with
  | .t => NewTop H v
  | _ => True
theorem NewTop.grow {H H' : Hp} {v : V} (h : Same H H') (n : NewTop H' v) : NewTop H v := fun a e o q => n a e o (h a o q)
theorem Lv.Tgrow {l : Lv} {H H' : Hp} {v : V} (h : Same H H') (n : l.T H' v) : l.T H v := by
  cases l with
  | t => exact NewTop.grow h n
  | b => trivial
  | s => trivial

def tE (K : PySem.W.Frag) (l : Lv) (f : Sl → Res D) : TE := fun σ H Q => ∃ G H0 env d, EnvOk K G H0 env σ H ∧ f env = .ok d ∧ ∀ v H', Same H H' → Rep K (l.A G env σ) H' v d → l.T H v → Q v H'
def tT (K : PySem.W.Frag) (f : Sl → Res Bool) : TT := fun σ H Q => ∃ G H0 env b, EnvOk K G H0 env σ H ∧ f env = .ok b ∧ ∀ H', Same H H' → Q b H'
def tA (K : PySem.W.Frag) (l : Lv) (f : Sl → Res (List D)) : TA := fun σ H Q => ∃ G H0 env ds, EnvOk K G H0 env σ H ∧ f env = .ok ds ∧ ∀ vs H', Same H H' → Reps K (l.A G env σ) H' vs ds → Q vs H'
@[irreducible] def DE (X : Cx) (l : Lv) (e : Expr) (f : Sl → Res D) : Prop := PE X e (tE X.K l f)
@[irreducible] def DT (X : Cx) (e : Expr) (f : Sl → Res Bool) : Prop := PT X e (tT X.K f)
@[irreducible] def DA (X : Cx) (l : Lv) (es : List Expr) (f : Sl → Res (List D)) : Prop := PA X es (tA X.K l f)

inductive Out where
  | nx (env : Sl) | rt (fr : Bool) (d : D) | bk (env : Sl) | ct (env : Sl)
structure Frm (env : Sl) (σ : St) (H : Hp) (env' : Sl) (σ' : St) (H' : Hp) : Prop where
  keep : ∀ b o, H b = some o → ¬ Owned env σ b → H' b = some o
  more : ∀ b, Owned env' σ' b → Owned env σ b ∨ H b = none
  size : ∀ b, H' b = none → H b = none
def Post (K : PySem.W.Frag) (G : Addr → Prop) (H0 : Hp) (env : Sl) (σ : St) (H : Hp) (E : Ends) (o : Out) : Prop :=
  match o with
  | .nx env' => ∀ σ' H', EnvOk K G H0 env' σ' H' → Frm env σ H env' σ' H' → E.nx σ' H'
  | .bk env' => ∀ σ' H', EnvOk K G H0 env' σ' H' → Frm env σ H env' σ' H' → E.bk σ' H'
  | .ct env' => ∀ σ' H', EnvOk K G H0 env' σ' H' → Frm env σ H env' σ' H' → E.ct σ' H'
  | .rt fr d => ∀ v H', Same H0 H' → Rep K G H' v d → (fr = true → NewTop H0 v) → E.rt v H'
def tS (K : PySem.W.Frag) (g : Sl → Res Out) : TS := fun E σ H => ∃ G H0 env o, EnvOk K G H0 env σ H ∧ g env = .ok o ∧ Post K G H0 env σ H E o
@[irreducible] def DS (X : Cx) (st : Stmt) (g : Sl → Res Out) : Prop := PS X st (tS X.K g)
@[irreducible] def DSs (X : Cx) (st : List Stmt) (g : Sl → Res Out) : Prop := PSs X st (tS X.K g)

section
variable {X : Cx} {e : Expr} {es : List Expr} {st : Stmt} {sts : List Stmt}
theorem PE.imp {t t' : TE} (h : PE X e t) (w : ∀ σ H Q, t' σ H Q → t σ H Q) : PE X e t' := fun pins s σ H Q I q => h pins s σ H Q I (w σ H Q q)
theorem PT.imp {t t' : TT} (h : PT X e t) (w : ∀ σ H Q, t' σ H Q → t σ H Q) : PT X e t' := fun pins s σ H Q I q => h pins s σ H Q I (w σ H Q q)
theorem PA.imp {t t' : TA} (h : PA X es t) (w : ∀ σ H Q, t' σ H Q → t σ H Q) : PA X es t' := fun pos pins s σ H Q I q => h pos pins s σ H Q I (w σ H Q q)
theorem PS.imp {t t' : TS} (h : PS X st t) (w : ∀ E σ H, t' E σ H → t E σ H) : PS X st t' := fun pins s σ H E I q => h pins s σ H E I (w E σ H q)
theorem PSs.imp {t t' : TS} (h : PSs X sts t) (w : ∀ E σ H, t' E σ H → t E σ H) : PSs X sts t' := fun pins s σ H E I q => h pins s σ H E I (w E σ H q)
end

theorem Frm.refl {env : Sl} {σ : St} {H H' : Hp} (h : Same H H') : Frm env σ H env σ H' := ⟨fun b o e _ => h b o e, fun b o => .inl o, fun b e => Same.free h e⟩
theorem Frm.trans {env env1 env2 : Sl} {σ σ1 σ2 : St} {H H1 H2 : Hp} (a : Frm env σ H env1 σ1 H1) (b : Frm env1 σ1 H1 env2 σ2 H2) : Frm env σ H env2 σ2 H2 where
  keep := fun c o e n => b.keep c o (a.keep c o e n) fun z => by
    rcases a.more c z with z | z
    · exact n z
    · rw [e] at z; cases z
  more := fun c o => by
    rcases b.more c o with z | z
    · exact a.more c z
    · exact .inr (a.size c z)
  size := fun c e => a.size c (b.size c e)
theorem Frm.grow {env env1 : Sl} {σ σ1 : St} {H Hm H1 : Hp} (h : Same H Hm) (b : Frm env σ Hm env1 σ1 H1) : Frm env σ H env1 σ1 H1 := (Frm.refl h).trans b

section
variable {X : Cx} {e : Expr} {f : Sl → Res D}
theorem Lv.weak_b {l : Lv} {G : Addr → Prop} {env : Sl} {σ : St} : ∀ a, l.A G env σ a → Any a := fun _ _ => trivial
theorem DE.b {l : Lv} (h : DE X l e f) : DE X .b e f := by
 with_unfolding_all exact (PE.imp h fun σ H Q ⟨G, H0, env, d, k, ef, q⟩ => ⟨G, H0, env, d, k, ef, fun v H' s r _ => q v H' s (r.weak Lv.weak_b) trivial⟩)
theorem DE.s (h : DE X .t e f) : DE X .s e f := by
 with_unfolding_all exact (PE.imp h fun σ H Q ⟨G, H0, env, d, k, ef, q⟩ => ⟨G, H0, env, d, k, ef, fun v H' s r _ => q v H' s r trivial⟩)
theorem imm_top {K : PySem.W.Frag} {A : Addr → Prop} {H H' : Hp} {v : V} {d : D} (s : Same H H') (r : Rep K A H' v d) (i : d.imm = true) : NewTop H v := fun a e o q m => by
  subst e
  cases r with
  | tup e _ => rw [s _ _ q] at e; cases e; exact m
  | lst _ _ _ => simp [D.imm] at i
  | lsk _ _ => simp [D.imm] at i
  | dic _ _ _ _ _ => simp [D.imm] at i
  | dit _ _ _ _ _ => simp [D.imm] at i
  | fdc _ _ _ _ => simp [D.imm] at i
  | hdc _ _ _ _ => simp [D.imm] at i
  | exn e _ _ => rw [s _ _ q] at e; cases e; exact m
def chk (f : Sl → Res D) : Sl → Res D := fun env => f env >>= fun d => must (d.imm = true) (.ok d)
theorem DE.chk {l l' : Lv} (h : DE X l e f) : DE X l' e (chk f) := by
 with_unfolding_all exact (PE.imp h fun σ H Q ⟨G, H0, env, d, k, ef, q⟩ => by
  obtain ⟨d', e1, e2⟩ := bind_inv ef
  obtain ⟨i, e3⟩ := must_inv e2
  cases e3
  refine ⟨G, H0, env, d, k, e1, fun v H' s r _ => q v H' s (r.imm i) ?_⟩
  cases l' with
  | t => exact imm_top s r i
  | b => trivial
  | s => trivial)
end
end M

set_option Elab.async false
set_option linter.all false
set_option maxRecDepth 100000
set_option maxHeartbeats 4000000
namespace M
open PySem PySem.Spec L2
open PyProof.Rows hiding St

def notStar : Expr → Bool
  | .Starred _ _ => false
  | _ => true
theorem star_plain {e : Expr} {es : List Expr} {env : Env} (h : notStar e = true) : starEach (e :: es) env = (false, eval e env) :: starEach es env := by
  cases e <;> first | rfl | cases h
theorem star_all {es : List Expr} {env : Env} (h : es.all notStar = true) : (starEach es env).all (fun x => !x.1) = true := by
  induction es with
  | nil => rfl
  | cons e r ih =>
    rw [List.all_cons, Bool.and_eq_true] at h
    rw [star_plain h.1, List.all_cons, ih h.2]; rfl
theorem back_all {pos : Pos} {l : List (Bool × Sem Value)} (h : l.all (fun x => !x.1) = true) : (backTo pos l).all (fun x => !x.1) = true := by
  induction l with
  | nil => rfl
  | cons p r ih =>
    obtain ⟨s, t⟩ := p
    rw [List.all_cons, Bool.and_eq_true] at h
    show ((!s) && (backTo pos r).all (fun x => !x.1)) = true
    rw [ih h.2, Bool.and_true]; exact h.1
theorem any_plain {pos : Pos} {es : List Expr} {env : Env} (h : es.all notStar = true) : (backTo pos (starEach es env)).any (·.1) = false := by
  have := back_all (pos := pos) (star_all (env := env) h)
  rw [List.all_eq_true] at this
  rw [List.any_eq_false]
  intro x hx z
  have q := this x hx
  rw [z] at q; cases q
theorem few_plain {cpos : Pos} {e : Expr} {es : List Expr} {env : Env} (h : (e :: es).all notStar = true) (hl : decide ((e :: es).length < 30) = true) :
    ((backTo cpos (starEach (e :: es) env)).all (fun x => !x.1) && (backToKw cpos (keywordEach [] env)).all (fun x => x.1.isSome)
      && decide ((e :: es).length + ([] : List Keyword).length + (if ([] : List Keyword).isEmpty then 0 else 1) < 30)) = true := by
  have hk : (backToKw cpos (keywordEach [] env)).all (fun x => x.1.isSome) = true := rfl
  rw [back_all (star_all h), hk]
  simpa using hl

section
variable {X : Cx} {e a b c o : Expr} {es : List Expr} {pos : Pos} {l l1 l2 l' : Lv} {f f1 f2 f3 : Sl → Res D}

def cI (i : Int) : Sl → Res D := fun _ => .ok (.int i)
def cB (b : Bool) : Sl → Res D := fun _ => .ok (.bl b)
def cN : Sl → Res D := fun _ => .ok .non
def cS (x : Str) : Sl → Res D := fun _ => .ok (.str x)
def rdS (i : Nat) : Sl → Res D := fun env => match env[i]? with
  | some (.shr d) => .ok d
  | _ => .stuck
def rdB (i : Nat) : Sl → Res D := fun env => match env[i]? with
  | some (.shr d) => .ok d
  | some (.own d) => .ok d
  | _ => .stuck
theorem rdS_inv {i : Nat} {env : Sl} {d : D} (h : rdS i env = .ok d) : env[i]? = some (.shr d) := by
  unfold rdS at h
  split at h
  · cases h; assumption
  · cases h
theorem rdB_inv {i : Nat} {env : Sl} {d : D} (h : rdB i env = .ok d) : env[i]? = some (.shr d) ∨ env[i]? = some (.own d) := by
  unfold rdB at h
  split at h
  · cases h; left; assumption
  · cases h; right; assumption
  · cases h
theorem own_ne {K : PySem.W.Frag} {G : Addr → Prop} {H0 H : Hp} {env : Sl} {σ : L2.St} {i : Nat} {d : D} {a : Addr} (k : EnvOk K G H0 env σ H) (h1 : env[i]? = some (.own d)) (h2 : σ[i]? = some (some (.ref a))) : ∀ c, Sf G env σ c → c ≠ a := fun c z e => z.1 (by rw [e]; exact ⟨i, d, h1, h2⟩)
theorem dv (i : Nat) {x : Str} (hN : X.N[i]? = some x := by rfl) (hv : Vis X.env.scope x := by first | exact Or.inl rfl | exact Or.inr (Or.inl rfl) | exact Or.inr (Or.inr rfl)) (hd : (x == ("__debug__" : Str)) = false := by decide)
    (hcd : (x == ("__classdict__" : Str)) = false := by decide) : DE X .s (.Name x pos) (rdS i) := by
 with_unfolding_all exact (
  PE.imp (pe_var hN hv hd hcd) fun σ H Q ⟨G, H0, env, d, k, ef, q⟩ => by
    obtain ⟨v, h1, h2⟩ := k.shr i d (rdS_inv ef)
    exact ⟨v, h1, q v H (Same.refl H) h2 trivial⟩)
theorem db (i : Nat) {x : Str} (hN : X.N[i]? = some x := by rfl) (hv : Vis X.env.scope x := by first | exact Or.inl rfl | exact Or.inr (Or.inl rfl) | exact Or.inr (Or.inr rfl)) (hd : (x == ("__debug__" : Str)) = false := by decide)
    (hcd : (x == ("__classdict__" : Str)) = false := by decide) : DE X .b (.Name x pos) (rdB i) := by
 with_unfolding_all exact (
  PE.imp (pe_var hN hv hd hcd) fun σ H Q ⟨G, H0, env, d, k, ef, q⟩ => by
    rcases rdB_inv ef with z | z
    · obtain ⟨v, h1, h2⟩ := k.shr i d z
      exact ⟨v, h1, q v H (Same.refl H) (h2.weak fun _ _ => trivial) trivial⟩
    · obtain ⟨v, h1, _, h2⟩ := k.own i d z
      exact ⟨_, h1, q _ H (Same.refl H) (h2.rep (fun c y => ⟨trivial, own_ne k z h1 c y⟩) trivial) trivial⟩)
def Sc (K : PySem.W.Frag) (v : V) (d : D) : Prop := (∀ A H, Rep K A H v d) ∧ ∀ a, v ≠ .ref a
theorem Sc.T {K : PySem.W.Frag} {v : V} {d : D} {H : Hp} (h : Sc K v d) : l.T H v := by
  cases l with
  | t => exact fun a e => absurd e (h.2 a)
  | b => trivial
  | s => trivial
theorem sc_int {K : PySem.W.Frag} (i : Int) : Sc K (.int i) (.int i) := ⟨fun _ _ => .int i, fun a e => by cases e⟩
theorem sc_bl {K : PySem.W.Frag} (i : Bool) : Sc K (.bl i) (.bl i) := ⟨fun _ _ => .bl i, fun a e => by cases e⟩
theorem sc_non {K : PySem.W.Frag} : Sc K .non .non := ⟨fun _ _ => .non, fun a e => by cases e⟩
theorem sc_str {K : PySem.W.Frag} (x : Str) (h : x.length ≤ sizeLine) : Sc K (.str x) (.str x) := ⟨fun _ _ => .str x h, fun a e => by cases e⟩
theorem de_c {v : V} {d : D} (h : PE X e (tC v)) (r : Sc X.K v d) : DE X l e (fun _ => .ok d) := by
 with_unfolding_all exact (
  PE.imp h fun σ H Q ⟨G, H0, env, d', k, ef, q⟩ => by
    cases ef
    exact q v H (Same.refl H) (r.1 _ H) r.T)
theorem de_int {i : Int} {j} : DE X l (.Constant (.int i) j pos) (cI i) := de_c pe_int (sc_int i)
theorem de_bl {i : Bool} {j} : DE X l (.Constant (.bool i) j pos) (cB i) := de_c pe_bl (sc_bl i)
theorem de_non {j} : DE X l (.Constant .none j pos) cN := de_c pe_non sc_non
theorem de_str {x : Str} {j} (h : x.length ≤ sizeLine := by decide) : DE X l (.Constant (.str x) j pos) (cS x) := de_c pe_str (sc_str x h)
theorem de_gint {x : Str} {i : Int} {t : Tok} (hg : Gl X x) (hm : X.mg x = some (.int i t)) (hd : (x == ("__debug__" : Str)) = false := by decide) : DE X l (.Name x pos) (cI i) :=
  de_c (pe_glob (v := .int i) hg hm ⟨t, rfl⟩ hd) (sc_int i)
def OpS (K : PySem.W.Frag) (r : R2) (g : D → D → Res D) : Prop := ∀ (x y : V) (H : Hp) (a b d : D) (Q : VK), Rep K Any H x a → Rep K Any H y b → g a b = .ok d → (∀ v, Sc K v d → Q v H) → r x y H Q
def OpD (K : PySem.W.Frag) (r : R2) (g : D → D → Res D) : Prop := ∀ (A : Addr → Prop) (x y : V) (H : Hp) (a b d : D) (Q : VK), Rep K A H x a → Rep K A H y b → g a b = .ok d → (∀ v H', Same H H' → Rep K (fun c => H c = none ∨ A c) H' v d → NewTop H v → Q v H') → r x y H Q
def two (f1 f2 : Sl → Res D) (g : D → D → Res D) : Sl → Res D := fun env => f1 env >>= fun x => f2 env >>= fun y => g x y
theorem tOp_S {K : PySem.W.Frag} {r : R2} {g : D → D → Res D} (hr : OpS K r g) {σ : L2.St} {H : Hp} {Q : VK} (h : tE K l (two f1 f2 g) σ H Q) : tOp r (tE K l1 f1) (tE K l2 f2) σ H Q := by
  obtain ⟨G, H0, env, d, k, ef, q⟩ := h
  obtain ⟨a, e1, ef⟩ := bind_inv ef
  obtain ⟨b, e2, e3⟩ := bind_inv ef
  refine ⟨G, H0, env, a, k, e1, fun x H1 s1 r1 _ => ⟨G, H0, env, b, k.grow s1, e2, fun y H2 s2 r2 _ => ?_⟩⟩
  exact hr x y H2 a b d Q ((r1.grow s2).weak Lv.weak_b) (r2.weak Lv.weak_b) e3 fun v sc => q v H2 (s1.trans s2) (sc.1 _ _) sc.T
theorem tOp_D {K : PySem.W.Frag} {r : R2} {g : D → D → Res D} (hr : OpD K r g) {σ : L2.St} {H : Hp} {Q : VK} (h : tE K .t (two f1 f2 g) σ H Q) : tOp r (tE K .s f1) (tE K .s f2) σ H Q := by
  obtain ⟨G, H0, env, d, k, ef, q⟩ := h
  obtain ⟨a, e1, ef⟩ := bind_inv ef
  obtain ⟨b, e2, e3⟩ := bind_inv ef
  refine ⟨G, H0, env, a, k, e1, fun x H1 s1 r1 _ => ⟨G, H0, env, b, k.grow s1, e2, fun y H2 s2 r2 _ => ?_⟩⟩
  have sm := s1.trans s2
  exact hr _ x y H2 a b d Q (r1.grow s2) r2 e3 fun v H3 s3 r3 nt => q v H3 (sm.trans s3) (r3.weak fun c z => z.elim (fun z => k.new c (Same.free sm z)) fun z => z) (nt.grow sm)
theorem de_op {op : Operator} {r : R2} {g : D → D → Res D} (ho : OpR X (binaryOp op) r) (hr : OpS X.K r g) (ha : DE X l1 a f1) (hb : DE X l2 b f2) : DE X l (.BinOp a op b pos) (two f1 f2 g) := by
 with_unfolding_all exact (
  PE.imp (pe_op ho ha hb) fun _ _ _ h => tOp_S hr h)
theorem de_opT {op : Operator} {r : R2} {g : D → D → Res D} (ho : OpR X (binaryOp op) r) (hr : OpD X.K r g) (ha : DE X .s a f1) (hb : DE X .s b f2) : DE X .t (.BinOp a op b pos) (two f1 f2 g) := by
 with_unfolding_all exact (
  PE.imp (pe_op ho ha hb) fun _ _ _ h => tOp_D hr h)
theorem de_cmp {op : CmpOp} {r : R2} {g : D → D → Res D} (ho : OpR X (compareOp op) r) (hr : OpS X.K r g) (ha : DE X l1 a f1) (hb : DE X l2 b f2) (hm : behindInMarks op b = false := by first | exact nomark _ | (with_unfolding_all rfl)) : DE X l (.Compare a [op] [b] pos) (two f1 f2 g) := by
 with_unfolding_all exact (
  PE.imp (pe_cmpR ho ha hb hm) fun _ _ _ h => tOp_S hr h)
def asB (f : Sl → Res D) : Sl → Res Bool := fun env => f env >>= fun d => match d with
  | .bl b => .ok b
  | _ => .stuck
theorem asB_inv {env : Sl} {b : Bool} (h : asB f env = .ok b) : f env = .ok (.bl b) := by
  obtain ⟨d, e1, e2⟩ := bind_inv h
  cases d with
  | bl c => cases e2; exact e1
  | _ => cases e2
theorem tTest_D {K : PySem.W.Frag} {t : TE} (ht : ∀ σ H Q, tE K l f σ H Q → t σ H Q) {σ : L2.St} {H : Hp} {Q : Bool → Hp → Prop} (h : tT K (asB f) σ H Q) : tTest t σ H Q := by
  obtain ⟨G, H0, env, b, k, ef, q⟩ := h
  refine ht σ H _ ⟨G, H0, env, .bl b, k, asB_inv ef, fun v H' s r _ => ⟨b, r.blE, q H' s⟩⟩
theorem dt_cmp {op : CmpOp} {r : R2} {g : D → D → Res D} (ho : OpR X (compareOp op) r) (hr : OpS X.K r g) (ha : DE X l1 a f1) (hb : DE X l2 b f2) (hm : behindInMarks op b = false := by first | exact nomark _ | (with_unfolding_all rfl)) : DT X (.Compare a [op] [b] pos) (asB (two f1 f2 g)) := by
 with_unfolding_all exact (
  PT.imp (pt_cmpR ho ha hb hm) fun _ _ _ h => tTest_D (l := .b) (fun _ _ _ h => tOp_S hr h) h)
def chain (f1 f2 f3 : Sl → Res D) (g g' : D → D → Res D) : Sl → Res D := fun env => f1 env >>= fun x => f2 env >>= fun y => g x y >>= fun z => match z with
  | .bl true => f3 env >>= fun w => g' y w
  | .bl false => .ok (.bl false)
  | _ => .stuck
theorem dt_val (h : DE X l e f) (he : ∀ whole, isTrue e X.env whole = (do let v ← whole; standAt e.pos; holding [v] (truthy v)) := by intro _; rfl) : DT X e (asB f) := by
 with_unfolding_all exact (
  PT.imp (pt_val h he) fun _ _ _ h => tTest_D (l := l) (fun _ _ _ h => h) h)
def tru : D → Res Bool
  | .non => .ok false
  | .bl b => .ok b
  | .int i => .ok (i != 0)
  | .str x => .ok ((x.length : Int) != 0)
  | .tup ds => .ok (!ds.isEmpty)
  | .lst ds => .ok (!ds.isEmpty)
  | .scr ds => .ok (!ds.isEmpty)
  | .dic _ _ => .stuck
  | .dit _ _ => .stuck
  | .exn _ => .stuck
  | .fdc _ _ => .stuck
  | .hdc _ _ => .stuck
theorem tru_V {K : PySem.W.Frag} {A : Addr → Prop} {H : Hp} {v : V} {d : D} {b : Bool} (r : Rep K A H v d) (h : tru d = .ok b) : TruV K v H b := by
  cases r with
  | non => cases h; rfl
  | bl c => cases h; rfl
  | int i => cases h; rfl
  | str x hx => cases h; exact ⟨hx, rfl⟩
  | tup e r => cases h; exact .inr (.inl ⟨_, .of e, by rw [r.isEmpty]⟩)
  | lst e _ r => cases h; exact .inl ⟨_, .of e, by rw [r.isEmpty]⟩
  | lsk e r => cases h; exact .inl ⟨_, e.sql, by rw [r.isEmpty]⟩
  | dic _ _ _ _ _ => cases h
  | dit _ _ _ _ _ => cases h
  | exn _ _ _ => cases h
  | fdc _ _ _ _ => cases h
  | hdc _ _ _ _ => cases h
def truF (f : Sl → Res D) : Sl → Res Bool := fun env => f env >>= tru
theorem dt_tru (h : DE X l e f) (he : ∀ whole, isTrue e X.env whole = (do let v ← whole; standAt e.pos; holding [v] (truthy v)) := by intro _; rfl) : DT X e (truF f) := by
 with_unfolding_all exact (
  PT.imp (pt_truth h he) fun σ H Q ⟨G, H0, env, b, k, ef, q⟩ => by
    obtain ⟨d, e1, e2⟩ := bind_inv ef
    exact ⟨G, H0, env, d, k, e1, fun v H' s r _ => ⟨b, tru_V r e2, q H' s⟩⟩)
section
variable {g g1 g2 : Sl → Res Bool} {rest : List Expr}
def notB (g : Sl → Res Bool) : Sl → Res Bool := fun env => g env >>= fun b => .ok (!b)
theorem dt_not (h : DT X a g) : DT X (.UnaryOp .Not a pos) (notB g) := by
 with_unfolding_all exact (
  PT.imp (pt_not h) fun σ H Q ⟨G, H0, env, b, k, ef, q⟩ => by
    obtain ⟨d, e1, e2⟩ := bind_inv ef
    cases e2
    exact ⟨G, H0, env, d, k, e1, q⟩)
@[irreducible] def DW (X : Cx) (e : Expr) (f : Sl → Res Bool) : Prop := PW X e (tT X.K f)
theorem PW.imp {t t' : TT} (h : PW X e t) (w : ∀ σ H Q, t' σ H Q → t σ H Q) : PW X e t' := fun wh pins s σ H Q I q => h wh pins s σ H Q I (w σ H Q q)
theorem DW.dt (h : DW X e g) : DT X e g := by
 with_unfolding_all exact (PW.pt h)
theorem dw_and1 (h : DT X a g) : DW X (.BoolOp .And [a] pos) g := by
 with_unfolding_all exact (pw_and1 h)
theorem dw_or1 (h : DT X a g) : DW X (.BoolOp .Or [a] pos) g := by
 with_unfolding_all exact (pw_or1 h)
def andB (g1 g2 : Sl → Res Bool) : Sl → Res Bool := fun env => g1 env >>= fun b => if b = true then g2 env else .ok false
def orB (g1 g2 : Sl → Res Bool) : Sl → Res Bool := fun env => g1 env >>= fun b => if b = true then .ok true else g2 env
theorem dw_and (h1 : DT X a g1) (h2 : DW X (.BoolOp .And (b :: rest) pos) g2) : DW X (.BoolOp .And (a :: b :: rest) pos) (andB g1 g2) := by
 with_unfolding_all exact (
  PW.imp (pw_and h1 h2) fun σ H Q ⟨G, H0, env, r, k, ef, q⟩ => by
    obtain ⟨d, e1, e2⟩ := bind_inv ef
    refine ⟨G, H0, env, d, k, e1, fun H' s => ?_⟩
    cases d with
    | true => rw [if_pos rfl] at e2 ⊢; exact ⟨G, H0, env, r, k.grow s, e2, fun H2 s2 => q H2 (s.trans s2)⟩
    | false => rw [if_neg Bool.false_ne_true] at e2 ⊢; cases e2; exact q H' s)
theorem dw_or (h1 : DT X a g1) (h2 : DW X (.BoolOp .Or (b :: rest) pos) g2) : DW X (.BoolOp .Or (a :: b :: rest) pos) (orB g1 g2) := by
 with_unfolding_all exact (
  PW.imp (pw_or h1 h2) fun σ H Q ⟨G, H0, env, r, k, ef, q⟩ => by
    obtain ⟨d, e1, e2⟩ := bind_inv ef
    refine ⟨G, H0, env, d, k, e1, fun H' s => ?_⟩
    cases d with
    | false => rw [if_neg Bool.false_ne_true] at e2 ⊢; exact ⟨G, H0, env, r, k.grow s, e2, fun H2 s2 => q H2 (s.trans s2)⟩
    | true => rw [if_pos rfl] at e2 ⊢; cases e2; exact q H' s)
def toB (f : Sl → Res D) (g : Sl → Res D) (w : Bool) : Sl → Res D := fun env => f env >>= fun d => match d with
  | .bl b => if b = w then g env else .ok (.bl b)
  | _ => .stuck
theorem de_one {op} (h : DE X l a f) : DE X l (.BoolOp op [a] pos) f := by
 with_unfolding_all exact (pe_one h)
theorem de_and (h1 : DE X l1 a f1) (h2 : DE X l (.BoolOp .And (b :: rest) pos) f2) : DE X l (.BoolOp .And (a :: b :: rest) pos) (toB f1 f2 true) := by
 with_unfolding_all exact (
  PE.imp (pe_and h1 h2) fun σ H Q ⟨G, H0, env, r, k, ef, q⟩ => by
    obtain ⟨d, e1, e2⟩ := bind_inv ef
    refine ⟨G, H0, env, d, k, e1, fun v H' s rr _ => ?_⟩
    cases d with
    | bl t =>
      refine ⟨t, rr.blE, ?_⟩
      cases t with
      | true => exact ⟨G, H0, env, r, k.grow s, e2, fun v H2 s2 r2 nt => q v H2 (s.trans s2) r2 (Lv.Tgrow s nt)⟩
      | false => cases e2; exact q _ H' s (.bl false) (sc_bl (K := X.K) false).T
    | _ => cases e2)
def notD : D → Res D
  | .bl b => .ok (.bl (!b))
  | _ => .stuck
def notF (f : Sl → Res D) : Sl → Res D := fun env => f env >>= notD
theorem de_not (h : DE X l1 a f) : DE X l (.UnaryOp .Not a pos) (notF f) := by
 with_unfolding_all exact (
  PE.imp (pe_not h) fun σ H Q ⟨G, H0, env, r, k, ef, q⟩ => by
    obtain ⟨d, e1, e2⟩ := bind_inv ef
    refine ⟨G, H0, env, d, k, e1, fun v H' s rr _ => ?_⟩
    cases d with
    | bl t => cases e2; exact ⟨t, rr.blE, q _ H' s (.bl _) (sc_bl (K := X.K) _).T⟩
    | _ => cases e2)
def ifD (g : Sl → Res Bool) (f1 f2 : Sl → Res D) : Sl → Res D := fun env => g env >>= fun b => if b = true then f1 env else f2 env
theorem de_ifx (hc : DT X c g) (h1 : DE X l a f1) (h2 : DE X l b f2) : DE X l (.IfExp c a b pos) (ifD g f1 f2) := by
 with_unfolding_all exact (
  PE.imp (pe_ifExp hc h1 h2) fun σ H Q ⟨G, H0, env, r, k, ef, q⟩ => by
    obtain ⟨d, e1, e2⟩ := bind_inv ef
    refine ⟨G, H0, env, d, k, e1, fun H' s => ?_⟩
    cases d with
    | true => rw [if_pos rfl] at e2 ⊢; exact ⟨G, H0, env, r, k.grow s, e2, fun v H2 s2 r2 nt => q v H2 (s.trans s2) r2 (Lv.Tgrow s nt)⟩
    | false => rw [if_neg Bool.false_ne_true] at e2 ⊢; exact ⟨G, H0, env, r, k.grow s, e2, fun v H2 s2 r2 nt => q v H2 (s.trans s2) r2 (Lv.Tgrow s nt)⟩)
end

def cons1 (f : Sl → Res D) (g : Sl → Res (List D)) : Sl → Res (List D) := fun env => f env >>= fun d => g env >>= fun ds => .ok (d :: ds)
def nil1 : Sl → Res (List D) := fun _ => .ok []
theorem da_nil : DA X l [] nil1 := by
 with_unfolding_all exact (PA.imp pa_nil fun σ H Q ⟨G, H0, env, d, k, ef, q⟩ => by cases ef; exact q [] H (Same.refl H) .nil)
theorem da_cons {g : Sl → Res (List D)} (ha : DE X l e f) (hr : DA X l es g) (hs : starEach (e :: es) X.env = (false, eval e X.env) :: starEach es X.env := by exact star_plain rfl) : DA X l (e :: es) (cons1 f g) := by
 with_unfolding_all exact (
  PA.imp (pa_cons ha hr hs) fun σ H Q ⟨G, H0, env, ds, k, ef, q⟩ => by
    obtain ⟨d, e1, e2⟩ := bind_inv ef
    obtain ⟨ds', e3, e4⟩ := bind_inv e2
    cases e4
    exact ⟨G, H0, env, d, k, e1, fun v H1 s1 r1 _ => ⟨G, H0, env, ds', k.grow s1, e3, fun vs H2 s2 r2 => q _ H2 (s1.trans s2) (.cons (r1.grow s2) r2)⟩⟩)
theorem new_top {H H1 : Hp} {p : Addr} (s : Same H H1) (hp : H1 p = none) : NewTop H (.ref p) := fun a e o q => by
  cases e
  rw [s _ _ q] at hp; cases hp
def tupF (g : Sl → Res (List D)) : Sl → Res D := fun env => g env >>= fun ds => must (ds.length ≤ sizeLine) (.ok (.tup ds))
def lstF (g : Sl → Res (List D)) : Sl → Res D := fun env => g env >>= fun ds => must (ds.length ≤ sizeLine) (.ok (.lst ds))
theorem de_tup {x1} {g : Sl → Res (List D)} (h : DA X .s es g) : DE X .t (.Tuple es x1 pos) (tupF g) := by
 with_unfolding_all exact (
  PE.imp (pe_tup h) fun σ H Q ⟨G, H0, env, d, k, ef, q⟩ => by
    obtain ⟨ds, e1, e2⟩ := bind_inv ef
    obtain ⟨hz, e3⟩ := must_inv e2
    cases e3
    refine ⟨G, H0, env, ds, k, e1, fun vs H1 s1 r1 => ⟨by rw [r1.length]; exact hz, fun p hp => ?_⟩⟩
    exact q _ _ (s1.trans (Same.upd hp)) (.tup upd_same (r1.grow (Same.upd hp))) (new_top s1 hp))
theorem de_lst {g : Sl → Res (List D)} (h : DA X .s es g) : DE X .t (.List es pos) (lstF g) := by
 with_unfolding_all exact (
  PE.imp (pe_lst h) fun σ H Q ⟨G, H0, env, d, k, ef, q⟩ => by
    obtain ⟨ds, e1, e2⟩ := bind_inv ef
    obtain ⟨hz, e3⟩ := must_inv e2
    cases e3
    refine ⟨G, H0, env, ds, k, e1, fun vs H1 s1 r1 => ⟨by rw [r1.length]; exact hz, fun p hp => ?_⟩⟩
    exact q _ _ (s1.trans (Same.upd hp)) (.lst upd_same (k.new p (Same.free s1 hp)) (r1.laid hp)) (new_top s1 hp))
def CallS (K : PySem.W.Frag) (r : List V → Hp → VK → Prop) (g : List D → Res D) : Prop := ∀ (xs : List V) (H : Hp) (ds : List D) (d : D) (Q : VK), Reps K Any H xs ds → g ds = .ok d → (∀ v, Sc K v d → Q v H) → r xs H Q
def CallD (K : PySem.W.Frag) (r : List V → Hp → VK → Prop) (g : List D → Res D) : Prop := ∀ (A : Addr → Prop) (xs : List V) (H : Hp) (ds : List D) (d : D) (Q : VK), Reps K A H xs ds → g ds = .ok d → (∀ v H', Same H H' → Rep K (fun c => H c = none ∨ A c) H' v d → NewTop H v → Q v H') → r xs H Q
def app (f : Sl → Res (List D)) (g : List D → Res D) : Sl → Res D := fun env => f env >>= g
theorem tCB_S {K : PySem.W.Frag} {r : List V → Hp → VK → Prop} {g : List D → Res D} {fa : Sl → Res (List D)} (hr : CallS K r g) {σ : L2.St} {H : Hp} {Q : VK} (h : tE K l' (app fa g) σ H Q) : tCB r (tA K l fa) σ H Q := by
  obtain ⟨G, H0, env, d, k, ef, q⟩ := h
  obtain ⟨ds, e1, e2⟩ := bind_inv ef
  refine ⟨G, H0, env, ds, k, e1, fun vs H1 s1 r1 => ?_⟩
  exact hr vs H1 ds d Q (r1.weak Lv.weak_b) e2 fun v sc => q v H1 s1 (sc.1 _ _) sc.T
theorem tCB_D {K : PySem.W.Frag} {r : List V → Hp → VK → Prop} {g : List D → Res D} {fa : Sl → Res (List D)} (hr : CallD K r g) {σ : L2.St} {H : Hp} {Q : VK} (h : tE K .t (app fa g) σ H Q) : tCB r (tA K .s fa) σ H Q := by
  obtain ⟨G, H0, env, d, k, ef, q⟩ := h
  obtain ⟨ds, e1, e2⟩ := bind_inv ef
  refine ⟨G, H0, env, ds, k, e1, fun vs H1 s1 r1 => ?_⟩
  exact hr _ vs H1 ds d Q r1 e2 fun v H2 s2 r2 nt => q v H2 (s1.trans s2) (r2.weak fun c z => z.elim (fun z => k.new c (Same.free s1 z)) fun z => z) (nt.grow s1)
theorem tCB_B {K : PySem.W.Frag} {r : List V → Hp → VK → Prop} {g : List D → Res D} {fa : Sl → Res (List D)} (hr : CallD K r g) {σ : L2.St} {H : Hp} {Q : VK} (h : tE K .b (app fa g) σ H Q) : tCB r (tA K .b fa) σ H Q := by
  obtain ⟨G, H0, env, d, k, ef, q⟩ := h
  obtain ⟨ds, e1, e2⟩ := bind_inv ef
  refine ⟨G, H0, env, ds, k, e1, fun vs H1 s1 r1 => ?_⟩
  exact hr _ vs H1 ds d Q r1 e2 fun v H2 s2 r2 nt => q v H2 (s1.trans s2) (r2.weak fun c _ => trivial) trivial
section
variable {x : Str} {id T : String} {p : Pos} {r : List V → Hp → VK → Prop} {g : List D → Res D} {fa : Sl → Res (List D)}
theorem de_callB (hc : CallR X (.builtin id) r) (hr : CallS X.K r g) (hg : Gl X x) (hm : X.mg x = none) (hv : bootBuiltins x = some (.builtin id))
    (ha : DA X l (e :: es) fa) (hn : x ≠ "__name__" := by decide) (hdb : (x == ("__debug__" : Str)) = false := by decide)
    (he : starEach (e :: es) X.env = (false, eval e X.env) :: starEach es X.env := by exact star_plain rfl) (hpl : (backTo pos (starEach es X.env)).any (·.1) = false := by exact any_plain rfl) : DE X l' (.Call (.Name x p) (e :: es) [] pos) (app fa g) := by
 with_unfolding_all exact (
  PE.imp (pe_callB hc hg hm hv ha hn hdb he hpl) fun _ _ _ h => tCB_S hr h)
theorem de_callTy (hc : CallR X (.type T) r) (hr : CallD X.K r g) (hg : Gl X x) (hm : X.mg x = none) (hv : bootBuiltins x = some (.type T))
    (ha : DA X .s (e :: es) fa) (hn : x ≠ "__name__" := by decide) (hdb : (x == ("__debug__" : Str)) = false := by decide)
    (he : starEach (e :: es) X.env = (false, eval e X.env) :: starEach es X.env := by exact star_plain rfl) (hpl : (backTo pos (starEach es X.env)).any (·.1) = false := by exact any_plain rfl) : DE X .t (.Call (.Name x p) (e :: es) [] pos) (app fa g) := by
 with_unfolding_all exact (
  PE.imp (pe_callTy hc hg hm hv ha hn hdb he hpl) fun _ _ _ h => tCB_D hr h)
theorem de_callTyB (hc : CallR X (.type T) r) (hr : CallD X.K r g) (hg : Gl X x) (hm : X.mg x = none) (hv : bootBuiltins x = some (.type T))
    (ha : DA X .b (e :: es) fa) (hn : x ≠ "__name__" := by decide) (hdb : (x == ("__debug__" : Str)) = false := by decide)
    (he : starEach (e :: es) X.env = (false, eval e X.env) :: starEach es X.env := by exact star_plain rfl) (hpl : (backTo pos (starEach es X.env)).any (·.1) = false := by exact any_plain rfl) : DE X .b (.Call (.Name x p) (e :: es) [] pos) (app fa g) := by
 with_unfolding_all exact (
  PE.imp (pe_callTy hc hg hm hv ha hn hdb he hpl) fun _ _ _ h => tCB_B hr h)
end

def spF (K : PySem.W.Frag) (fr : Bool) (n : Nat) (F : List D → Res D) : Sp := fun vs H Q _ => ∃ B ds d, vs.length = n ∧ Reps K B H vs ds ∧ F ds = .ok d ∧ ∀ v H', Same H H' → Rep K (fun a => H a = none ∨ B a) H' v d → (fr = true → NewTop H v) → Q v H'
def callF (n : Nat) (F : List D → Res D) (g : Sl → Res (List D)) : Sl → Res D := fun env => g env >>= fun ds => must (ds.length = n) (F ds)
section
variable {CX : CXT} {k : Nat} {x : Str} {fa : Addr} {fd : FuncData} {ps : List Str} {p : Pos} {n : Nat} {F : List D → Res D} {E : XK} {g : Sl → Res (List D)} {fr : Bool}
theorem de_call (G : FnOk X.prog X.w X.K X.mg X.base CX k fa fd ps (spF X.K fr n F)) (hr : Room k X.A) (hg : Gl X x) (hm : X.mg x = some (.ref fa)) (hk : PySem.W.keepIn X.K (.ref fa) = true) (hb : Binds X.K fd ps []) (hx : Passes CX X E)
    (ha : DA X .s (e :: es) g) (hdb : (x == ("__debug__" : Str)) = false := by decide) (he : starEach (e :: es) X.env = (false, eval e X.env) :: starEach es X.env := by exact star_plain rfl) (hpl : (backTo pos (starEach es X.env)).any (·.1) = false := by exact any_plain rfl) :
    DE X .s (.Call (.Name x p) (e :: es) [] pos) (callF n F g) := by
 with_unfolding_all exact (
  PE.imp (pe_call G hr hg hm hk hb .nil hx ha hdb he hpl) fun σ H Q ⟨GG, H0, env, d, k, ef, q⟩ => by
    obtain ⟨ds, e1, e2⟩ := bind_inv ef
    obtain ⟨hn, e3⟩ := must_inv e2
    refine ⟨GG, H0, env, ds, k, e1, fun vs H1 s1 r1 => ?_⟩
    show spF X.K fr n F (vs ++ []) H1 Q E
    rw [List.append_nil]
    exact ⟨_, ds, d, by rw [r1.length]; exact hn, r1, e3, fun v H2 s2 r2 _ => q v H2 (s1.trans s2) (r2.weak fun c z => z.elim (fun z => k.new c (Same.free s1 z)) fun z => z) trivial⟩)
theorem de_callT (G : FnOk X.prog X.w X.K X.mg X.base CX k fa fd ps (spF X.K true n F)) (hr : Room k X.A) (hg : Gl X x) (hm : X.mg x = some (.ref fa)) (hk : PySem.W.keepIn X.K (.ref fa) = true) (hb : Binds X.K fd ps []) (hx : Passes CX X E)
    (ha : DA X .s (e :: es) g) (hdb : (x == ("__debug__" : Str)) = false := by decide) (he : starEach (e :: es) X.env = (false, eval e X.env) :: starEach es X.env := by exact star_plain rfl) (hpl : (backTo pos (starEach es X.env)).any (·.1) = false := by exact any_plain rfl) :
    DE X .t (.Call (.Name x p) (e :: es) [] pos) (callF n F g) := by
 with_unfolding_all exact (
  PE.imp (pe_call G hr hg hm hk hb .nil hx ha hdb he hpl) fun σ H Q ⟨GG, H0, env, d, k, ef, q⟩ => by
    obtain ⟨ds, e1, e2⟩ := bind_inv ef
    obtain ⟨hn, e3⟩ := must_inv e2
    refine ⟨GG, H0, env, ds, k, e1, fun vs H1 s1 r1 => ?_⟩
    show spF X.K true n F (vs ++ []) H1 Q E
    rw [List.append_nil]
    exact ⟨_, ds, d, by rw [r1.length]; exact hn, r1, e3, fun v H2 s2 r2 nt => q v H2 (s1.trans s2) (r2.weak fun c z => z.elim (fun z => k.new c (Same.free s1 z)) fun z => z) ((nt rfl).grow s1)⟩)
theorem de_callA (G : FnOk X.prog X.w X.K X.mg X.base CX k fa fd ps (spF X.K fr n F)) (hr : Room k X.A) (hg : Gl X x) (hm : X.mg x = some (.ref fa)) (hk : PySem.W.keepIn X.K (.ref fa) = true) (hb : Binds X.K fd ps []) (hx : Passes CX X E)
    (ha : DA X .b (e :: es) g) (hdb : (x == ("__debug__" : Str)) = false := by decide) (he : starEach (e :: es) X.env = (false, eval e X.env) :: starEach es X.env := by exact star_plain rfl) (hpl : (backTo pos (starEach es X.env)).any (·.1) = false := by exact any_plain rfl) :
    DE X .b (.Call (.Name x p) (e :: es) [] pos) (callF n F g) := by
 with_unfolding_all exact (
  PE.imp (pe_call G hr hg hm hk hb .nil hx ha hdb he hpl) fun σ H Q ⟨GG, H0, env, d, k, ef, q⟩ => by
    obtain ⟨ds, e1, e2⟩ := bind_inv ef
    obtain ⟨hn, e3⟩ := must_inv e2
    refine ⟨GG, H0, env, ds, k, e1, fun vs H1 s1 r1 => ?_⟩
    show spF X.K fr n F (vs ++ []) H1 Q E
    rw [List.append_nil]
    exact ⟨_, ds, d, by rw [r1.length]; exact hn, r1, e3, fun v H2 s2 r2 _ => q v H2 (s1.trans s2) (r2.weak fun c _ => trivial) trivial⟩)
end

def ixD : D → D → Res D
  | .lst ds, .int i => match atI ds i with
    | some d => .ok d
    | none => .stuck
  | .scr ds, .int i => match atI ds i with
    | some d => .ok d
    | none => .stuck
  | .tup ds, .int i => match atI ds i with
    | some d => .ok d
    | none => .stuck
  | .str z, .int i => match atI z.cps.toList i with
    | some c => .ok (.str ⟨#[c]⟩)
    | none => .stuck
  | _, _ => .stuck
theorem atI_rep {K : PySem.W.Frag} {A : Addr → Prop} {H : Hp} {xs : List V} {ds : List D} {i : Int} {d : D} (r : Reps K A H xs ds) (h : atI ds i = some d) : ∃ v, atI xs i = some v ∧ Rep K A H v d := by
  unfold atI at h ⊢
  rw [r.length]
  cases e : ixN ds.length i with
  | none => rw [e] at h; cases h
  | some j => rw [e] at h; exact r.get h
theorem one_len (c : Nat) : (⟨#[c]⟩ : Str).length ≤ sizeLine := by show 1 ≤ sizeLine; decide
theorem og_ix {A : Addr → Prop} {x y : V} {H : Hp} {a b d : D} {Q : VK} (ra : Rep X.K A H x a) (rb : Rep X.K Any H y b) (h : ixD a b = .ok d) (q : ∀ v, Rep X.K A H v d → Q v H) : rIx X.K x y H Q := by
  cases b with
  | int i =>
    cases rb.intE
    cases a with
    | lst ds =>
      unfold ixD at h; dsimp only at h
      cases e : atI ds i with
      | none => rw [e] at h; cases h
      | some d' =>
        rw [e] at h; cases h
        obtain ⟨p, xs, rfl, hq, _, r⟩ := ra.lstE
        obtain ⟨v, e2, r2⟩ := atI_rep r.low e
        exact .inl ⟨p, xs, i, v, rfl, rfl, .of hq, e2, q v r2⟩
    | scr ds =>
      unfold ixD at h; dsimp only at h
      cases e : atI ds i with
      | none => rw [e] at h; cases h
      | some d' =>
        rw [e] at h; cases h
        obtain ⟨p, xs, rfl, hq, r⟩ := ra.scrE
        obtain ⟨v, e2, r2⟩ := atI_rep r e
        exact .inl ⟨p, xs, i, v, rfl, rfl, hq.sql, e2, q v r2⟩
    | tup ds =>
      unfold ixD at h; dsimp only at h
      cases e : atI ds i with
      | none => rw [e] at h; cases h
      | some d' =>
        rw [e] at h; cases h
        obtain ⟨p, xs, rfl, hq, r⟩ := ra.tupE
        obtain ⟨v, e2, r2⟩ := atI_rep r e
        exact .inr (.inl ⟨p, xs, i, v, rfl, rfl, .of hq, e2, q v r2⟩)
    | str z =>
      unfold ixD at h; dsimp only at h
      cases e : atI z.cps.toList i with
      | none => rw [e] at h; cases h
      | some c =>
        rw [e] at h; cases h
        obtain ⟨rfl, hz⟩ := ra.strE
        exact .inr (.inr ⟨z, i, c, rfl, rfl, hz, e, q _ (.str _ (by show 1 ≤ sizeLine; decide))⟩)
    | _ => cases h
  | _ => cases a <;> cases h
theorem de_ix (ha : DE X .s a f1) (hb : DE X l2 b f2) (hs : PlainIx b := by intro _ _; rfl) : DE X .s (.Subscript a b pos) (two f1 f2 ixD) := by
 with_unfolding_all exact (
  PE.imp (pe_ix ix_seq ha hb hs) fun σ H Q ⟨G, H0, env, d, k, ef, q⟩ => by
    obtain ⟨a', e1, ef⟩ := bind_inv ef
    obtain ⟨b', e2, e3⟩ := bind_inv ef
    refine ⟨G, H0, env, a', k, e1, fun x H1 s1 r1 _ => ⟨G, H0, env, b', k.grow s1, e2, fun y H2 s2 r2 _ => ?_⟩⟩
    exact og_ix (r1.grow s2) (r2.weak Lv.weak_b) e3 fun v r3 => q v H2 (s1.trans s2) r3 trivial)
@[irreducible] def DO (X : Cx) (e : Option Expr) (f : Sl → Res (Option Int)) : Prop := PO X e (fun σ H Q => ∃ G H0 env i, EnvOk X.K G H0 env σ H ∧ f env = .ok i ∧ ∀ H', Same H H' → Q i H')
theorem PO.imp {e : Option Expr} {t t' : TO} (h : PO X e t) (w : ∀ σ H Q, t' σ H Q → t σ H Q) : PO X e t' := fun pins s σ H Q I q => h pins s σ H Q I (w σ H Q q)
def noneI : Sl → Res (Option Int) := fun _ => .ok none
theorem do_none : DO X none noneI := by
 with_unfolding_all exact (PO.imp po_none fun σ H Q ⟨G, H0, env, i, k, ef, q⟩ => by cases ef; exact q H (Same.refl H))
def asI : D → Res (Option Int)
  | .int i => .ok (some i)
  | _ => .stuck
def someI (f : Sl → Res D) : Sl → Res (Option Int) := fun env => f env >>= asI
theorem do_some (h : DE X l e f) : DO X (some e) (someI f) := by
 with_unfolding_all exact (PO.imp (po_some h) fun σ H Q ⟨G, H0, env, i, k, ef, q⟩ => by
  obtain ⟨d, e1, e2⟩ := bind_inv ef
  cases d with
  | int j => cases e2; exact ⟨G, H0, env, .int j, k, e1, fun v H' s r _ => ⟨j, r.intE, q H' s⟩⟩
  | _ => cases e2)
def cutD (ds : List D) (lo hi : Option Int) : List D := (ds.drop (HT.sIx ds.length 0 lo)).take (HT.sIx ds.length ds.length hi - HT.sIx ds.length 0 lo)
theorem cut_rep {K : PySem.W.Frag} {A : Addr → Prop} {H : Hp} {xs : List V} {ds : List D} {lo hi : Option Int} (r : Reps K A H xs ds) : Reps K A H (cutV xs lo hi) (cutD ds lo hi) := by
  unfold cutV cutD; rw [r.length]; exact (r.drop _).take _
def slice3 (f : Sl → Res D) (fl fh : Sl → Res (Option Int)) (g : D → Option Int → Option Int → Res D) : Sl → Res D := fun env => f env >>= fun a => fl env >>= fun lo => fh env >>= fun hi => g a lo hi
end
end M

set_option Elab.async false
set_option linter.all false
set_option maxRecDepth 100000
set_option maxHeartbeats 4000000
namespace M
open PySem PySem.Spec L2
open PyProof.Rows hiding St

section
variable {K : PySem.W.Frag} {G : Addr → Prop} {H0 H H1 H' : Hp} {env env' : Sl} {σ σ' : L2.St} {i : Nat} {d : D} {v : V}
theorem get_set_ne {α : Type} {l : List α} {i j : Nat} {x : α} (h : i ≠ j) : (l.set i x)[j]? = l[j]? := List.getElem?_set_ne h
theorem get_set_eq {α : Type} {l : List α} {i : Nat} {x y : α} (h : (l.set i x)[i]? = some y) : y = x ∧ i < l.length := by
  have hl : i < l.length := by
    have := (List.getElem?_eq_some_iff.mp h).1
    simpa using this
  rw [List.getElem?_set_self hl] at h
  exact ⟨(Option.some.inj h).symm, hl⟩
theorem owned_set {s : Slot} {a : Addr} (h : Owned (env.set i s) (σ.set i (some v)) a) : Owned env σ a ∨ (∃ d, s = .own d ∧ v = .ref a) := by
  obtain ⟨j, d, h1, h2⟩ := h
  by_cases e : i = j
  · subst e
    obtain ⟨q1, _⟩ := get_set_eq h1
    obtain ⟨q2, _⟩ := get_set_eq h2
    exact .inr ⟨d, q1.symm, (Option.some.inj q2).symm⟩
  · rw [get_set_ne e] at h1 h2
    exact .inl ⟨j, d, h1, h2⟩
theorem EnvOk.setS (k : EnvOk K G H0 env σ H) (r : Rep K (Sf G env σ) H v d) : EnvOk K G H0 (env.set i (.shr d)) (σ.set i (some v)) H := by
  have w : ∀ a, Sf G env σ a → Sf G (env.set i (.shr d)) (σ.set i (some v)) a := fun a n => ⟨fun o => (by
    rcases owned_set o with z | ⟨d', z, _⟩
    · exact n.1 z
    · cases z), n.2⟩
  refine ⟨by simp [k.len], k.base, k.g0, fun j e h => ?_, fun j e h => ?_, fun j j' e e' a h1 h2 h3 h4 => ?_⟩
  · by_cases z : i = j
    · subst z
      obtain ⟨q, hl⟩ := get_set_eq h
      cases q
      exact ⟨v, List.getElem?_set_self (by rw [k.len]; exact hl), r.weak w⟩
    · rw [get_set_ne z] at h ⊢
      obtain ⟨v', h1, h2⟩ := k.shr j e h
      exact ⟨v', h1, h2.weak w⟩
  · by_cases z : i = j
    · subst z
      obtain ⟨q, hl⟩ := get_set_eq h
      cases q
    · rw [get_set_ne z] at h ⊢
      obtain ⟨v', h1, h0, h2⟩ := k.own j e h
      exact ⟨v', h1, h0, h2.stay (fun _ _ e _ => e) w fun _ e => e⟩
  · have n1 : i ≠ j := fun z => by subst z; obtain ⟨q, _⟩ := get_set_eq h1; cases q
    have n2 : i ≠ j' := fun z => by subst z; obtain ⟨q, _⟩ := get_set_eq h2; cases q
    rw [get_set_ne n1] at h1 h3
    rw [get_set_ne n2] at h2 h4
    exact k.dis j j' e e' a h1 h2 h3 h4
def ownable : D → Bool
  | .lst _ => true
  | .dic _ _ => true
  | .dit _ _ => true
  | _ => false
theorem ownable_top {A : Addr → Prop} (r : Rep K A H v d) (h : ownable d = true) : ∃ a, v = .ref a ∧ A a ∧ (∃ o, H a = some o ∧ Mut (some o)) ∧ Top K (fun c => A c ∧ c ≠ a) H a d := by
  cases r with
  | lst e a r => exact ⟨_, rfl, a, ⟨_, e, trivial⟩, .lst e r⟩
  | dic e a k1 k2 r => exact ⟨_, rfl, a, ⟨_, e, trivial⟩, .dic e k1 k2 r⟩
  | dit e a k1 k2 r => exact ⟨_, rfl, a, ⟨_, e, trivial⟩, .dit e k1 k2 r⟩
  | _ => cases h
theorem new_of {a : Addr} (s : Same H H1) (nt : NewTop H (.ref a)) (h : ∃ o, H1 a = some o ∧ Mut (some o)) : H a = none := by
  cases e : H a with
  | none => rfl
  | some o =>
    obtain ⟨o', h1, h2⟩ := h
    rw [s a o e] at h1; cases h1
    exact (nt a rfl o e h2).elim
theorem EnvOk.setN (k : EnvOk K G H0 env σ H) (s : Same H H1) (r : Rep K (Sf G env σ) H1 v d) (nt : NewTop H v) (hd : ownable d = true) : EnvOk K G H0 (env.set i (.own d)) (σ.set i (some v)) H1 ∧ ∃ a, v = .ref a ∧ H a = none := by
  obtain ⟨a, rfl, ga, mt, top⟩ := ownable_top r hd
  have fa := new_of s nt mt
  refine ⟨?_, a, rfl, fa⟩
  have w : ∀ c, (Sf G env σ c ∧ c ≠ a) → Sf G (env.set i (.own d)) (σ.set i (some (V.ref a))) c := fun c n => ⟨fun o => (by
    rcases owned_set o with z | ⟨d', z, z2⟩
    · exact n.1.1 z
    · cases z2; exact n.2 rfl), n.1.2⟩
  have w2 : ∀ c, (Sf G env σ c ∧ H c ≠ none) → Sf G (env.set i (.own d)) (σ.set i (some (V.ref a))) c := fun c n => w c ⟨n.1, fun e => n.2 (by rw [e]; exact fa)⟩
  have k1 := k.grow s
  refine ⟨by simp [k.len], k1.base, k.g0, fun j e h => ?_, fun j e h => ?_, fun j j' e e' b h1 h2 h3 h4 => ?_⟩
  · by_cases z : i = j
    · subst z
      obtain ⟨q, hl⟩ := get_set_eq h
      cases q
    · rw [get_set_ne z] at h ⊢
      obtain ⟨v', h1, h2⟩ := k.shr j e h
      exact ⟨v', h1, (h2.inDom.grow s).weak w2⟩
  · by_cases z : i = j
    · subst z
      obtain ⟨q, hl⟩ := get_set_eq h
      cases q
      exact ⟨a, List.getElem?_set_self (by rw [k.len]; exact hl), Same.free k.base fa, top.stay (fun _ _ e _ => e) w fun _ e => e⟩
    · rw [get_set_ne z] at h ⊢
      obtain ⟨v', h1, h0, h2⟩ := k.own j e h
      refine ⟨v', h1, h0, ?_⟩
      cases h2 with
      | lst e2 r2 => exact .lst (s _ _ e2) ((r2.inDom.grow s).weak w2)
      | dic e2 k2 k3 r2 => exact .dic (s _ _ e2) k2 k3 ((r2.inDom.grow s).weak w2)
      | dit e2 k2 k3 r2 => exact .dit (s _ _ e2) k2 k3 ((r2.inDom.grow s).weak w2)
  · have new : ∀ (j : Nat) (e : D), env[j]? = some (.own e) → σ[j]? = some (some (.ref a)) → False := fun j e q1 q2 => by
      obtain ⟨u, q⟩ := k.there ⟨j, e, q1, q2⟩
      rw [fa] at q; cases q
    by_cases z1 : i = j
    · subst z1
      by_cases z2 : i = j'
      · exact z2
      · rw [get_set_ne z2] at h2 h4
        obtain ⟨q, _⟩ := get_set_eq h3
        cases q
        exact (new j' e' h2 h4).elim
    · rw [get_set_ne z1] at h1 h3
      by_cases z2 : i = j'
      · subst z2
        obtain ⟨q, _⟩ := get_set_eq h4
        cases q
        exact (new j e h1 h3).elim
      · rw [get_set_ne z2] at h2 h4
        exact k.dis j j' e e' b h1 h2 h3 h4
theorem Frm.set {s : Slot} (sm : Same H H1) (fresh : ∀ a d, s = .own d → v = .ref a → H a = none) : Frm env σ H (env.set i s) (σ.set i (some v)) H1 :=
  ⟨fun b o e _ => sm b o e, fun b o => by
    rcases owned_set o with z | ⟨d', z, z2⟩
    · exact .inl z
    · exact .inr (fresh b d' z z2), fun b e => Same.free sm e⟩
theorem Frm.sf (f : Frm env σ H env' σ' H') : ∀ a, (Sf G env σ a ∧ H a ≠ none) → Sf G env' σ' a := fun a z => ⟨fun o => (f.more a o).elim z.1.1 z.2, z.1.2⟩
theorem Frm.st (k : EnvOk K G H0 env σ H) (f : Frm env σ H env' σ' H') : Stay (fun a => Sf G env σ a ∧ H a ≠ none) H H' := fun a o e m => f.keep a o e fun ow => (m (k.mutO ow e)).1.1 ow
theorem Frm.rep (k : EnvOk K G H0 env σ H) (f : Frm env σ H env' σ' H') (r : Rep K (Sf G env σ) H v d) : Rep K (Sf G env' σ') H' v d := r.inDom.stay (f.st k) f.sf
theorem Frm.reps (k : EnvOk K G H0 env σ H) (f : Frm env σ H env' σ' H') {vs : List V} {ds : List D} (r : Reps K (Sf G env σ) H vs ds) : Reps K (Sf G env' σ') H' vs ds := r.inDom.stay (f.st k) f.sf
end

def slotN (d : D) : Slot := if ownable d = true then .own d else .shr d
theorem EnvOk.setNew {K : PySem.W.Frag} {G : Addr → Prop} {H0 H H1 : Hp} {env : Sl} {σ : L2.St} {i : Nat} {d : D} {v : V} (k : EnvOk K G H0 env σ H) (s : Same H H1) (r : Rep K (Sf G env σ) H1 v d) (nt : NewTop H v) :
    EnvOk K G H0 (env.set i (slotN d)) (σ.set i (some v)) H1 ∧ Frm env σ H (env.set i (slotN d)) (σ.set i (some v)) H1 := by
  unfold slotN
  by_cases h : ownable d = true
  · rw [if_pos h]
    obtain ⟨z, a', e', fa⟩ := k.setN (i := i) s r nt h
    refine ⟨z, .set s fun a d' _ e => ?_⟩
    rw [e] at e'; cases e'; exact fa
  · rw [if_neg h]
    exact ⟨(k.grow s).setS r, .set s fun _ _ z _ => by cases z⟩

def nxO : Sl → Res Out := fun env => .ok (.nx env)
def rtN : Sl → Res Out := fun _ => .ok (.rt true .non)
def bkO : Sl → Res Out := fun env => .ok (.bk env)
def ctO : Sl → Res Out := fun env => .ok (.ct env)
def dropO (f : Sl → Res D) : Sl → Res Out := fun env => f env >>= fun _ => .ok (.nx env)
def augI (h : Int → Int → Int) (a b : D) : Res D := match a, b with
  | .int m, .int n => .ok (.int (h m n))
  | _, _ => .stuck
def seqO (g1 g2 : Sl → Res Out) : Sl → Res Out := fun env => g1 env >>= fun o => match o with
  | .nx env' => g2 env'
  | .rt fr d => .ok (.rt fr d)
  | .bk env' => .ok (.bk env')
  | .ct env' => .ok (.ct env')
section
variable {X : Cx} {e c tg : Expr} {st : Stmt} {rest body orelse : List Stmt} {pos : Pos} {l : Lv} {f : Sl → Res D} {g g1 g2 : Sl → Res Out}
theorem dss_nil : DSs X [] nxO := by
 with_unfolding_all exact (PSs.imp pss_nil fun E σ H ⟨G, H0, env, o, k, ef, q⟩ => by
  cases ef
  exact q σ H k (Frm.refl (Same.refl H)))
theorem out_tr {K : PySem.W.Frag} {G : Addr → Prop} {H0 H H' : Hp} {env env' : Sl} {σ σ' : L2.St} {E : Ends} {o : Out} (f : Frm env σ H env' σ' H') (q : Post K G H0 env σ H E o) : Post K G H0 env' σ' H' E o := by
  cases o with
  | nx e => exact fun σ2 H2 k2 f2 => q σ2 H2 k2 (f.trans f2)
  | bk e => exact fun σ2 H2 k2 f2 => q σ2 H2 k2 (f.trans f2)
  | ct e => exact fun σ2 H2 k2 f2 => q σ2 H2 k2 (f.trans f2)
  | rt fr d => exact q
theorem dss_cons (h1 : DS X st g1) (h2 : DSs X rest g2) : DSs X (st :: rest) (seqO g1 g2) := by
 with_unfolding_all exact (PSs.imp (pss_cons h1 h2) fun E σ H ⟨G, H0, env, o, k, ef, q⟩ => by
  obtain ⟨o1, e1, e2⟩ := bind_inv ef
  refine ⟨G, H0, env, o1, k, e1, ?_⟩
  cases o1 with
  | nx env1 => exact fun σ' H' k' f' => ⟨G, H0, env1, o, k', e2, out_tr f' q⟩
  | rt fr d => cases e2; exact q
  | bk e' => cases e2; exact q
  | ct e' => cases e2; exact q)
theorem dss_one (h1 : DS X st g1) : DSs X [st] g1 := by
 with_unfolding_all exact (PSs.imp (pss_one h1) fun E σ H q => q)
theorem ds_continue : DS X (.Continue pos) ctO := by
 with_unfolding_all exact (PS.imp ps_continue fun E σ H ⟨G, H0, env, o, k, ef, q⟩ => by
  cases ef
  exact q σ H k (Frm.refl (Same.refl H)))
def retO (f : Sl → Res D) : Sl → Res Out := fun env => f env >>= fun d => .ok (.rt true d)
theorem ds_ret (h : DE X .t e f) : DS X (.Return (some e) pos) (retO f) := by
 with_unfolding_all exact (PS.imp (ps_ret h) fun E σ H ⟨G, H0, env, o, k, ef, q⟩ => by
  obtain ⟨d, e1, e2⟩ := bind_inv ef
  cases e2
  exact ⟨G, H0, env, d, k, e1, fun v H' s r nt => q v H' (k.base.trans s) (r.weak fun a z => z.2) fun _ => NewTop.grow k.base nt⟩)
def retS (f : Sl → Res D) : Sl → Res Out := fun env => f env >>= fun d => .ok (.rt false d)
theorem ds_retS (h : DE X .s e f) : DS X (.Return (some e) pos) (retS f) := by
 with_unfolding_all exact (PS.imp (ps_ret h) fun E σ H ⟨G, H0, env, o, k, ef, q⟩ => by
  obtain ⟨d, e1, e2⟩ := bind_inv ef
  cases e2
  exact ⟨G, H0, env, d, k, e1, fun v H' s r nt => q v H' (k.base.trans s) (r.weak fun a z => z.2) fun z => by cases z⟩)
def rdO (i : Nat) : Sl → Res D := fun env => match env[i]? with
  | some (.own d) => .ok d
  | some (.shr d) => must (d.imm = true) (.ok d)
  | _ => .stuck
theorem ds_retV (i : Nat) {x : Str} {p : Pos} (hN : X.N[i]? = some x := by rfl) (hv : Vis X.env.scope x := by first | exact Or.inl rfl | exact Or.inr (Or.inl rfl) | exact Or.inr (Or.inr rfl)) (hd : (x == ("__debug__" : Str)) = false := by decide)
    (hcd : (x == ("__classdict__" : Str)) = false := by decide) : DS X (.Return (some (.Name x p)) pos) (retO (rdO i)) := by
 with_unfolding_all exact (PS.imp (ps_ret (pe_var hN hv hd hcd)) fun E σ H ⟨G, H0, env, o, k, ef, q⟩ => by
  obtain ⟨d, e1, e2⟩ := bind_inv ef
  cases e2
  unfold rdO at e1
  split at e1
  · rename_i d' hs
    cases e1
    obtain ⟨a, h1, h0, h2⟩ := k.own i d hs
    refine ⟨.ref a, h1, q _ H k.base (h2.rep (fun c z => ⟨z.2, own_ne k hs h1 c z⟩) (k.g0 a h0)) fun _ b e o' q' => ?_⟩
    cases e
    rw [h0] at q'; cases q'
  · rename_i d' hs
    obtain ⟨hm, e3⟩ := must_inv e1
    cases e3
    obtain ⟨v, h1, h2⟩ := k.shr i d hs
    exact ⟨v, h1, q v H k.base (h2.imm hm) fun _ => imm_top k.base h2 hm⟩
  · cases e1)
def ifO (t : Sl → Res Bool) (g1 g2 : Sl → Res Out) : Sl → Res Out := fun env => t env >>= fun b => if b = true then g1 env else g2 env
theorem ds_if {t : Sl → Res Bool} (hc : DT X c t) (h1 : DSs X body g1) (h2 : DSs X orelse g2) : DS X (.If c body orelse pos) (ifO t g1 g2) := by
 with_unfolding_all exact (PS.imp (ps_if hc h1 h2) fun E σ H ⟨G, H0, env, o, k, ef, q⟩ => by
  obtain ⟨b, e1, e2⟩ := bind_inv ef
  refine ⟨G, H0, env, b, k, e1, fun H' s => ?_⟩
  cases b with
  | true => rw [if_pos rfl] at e2 ⊢; exact ⟨G, H0, env, o, k.grow s, e2, out_tr (Frm.refl s) q⟩
  | false => rw [if_neg Bool.false_ne_true] at e2 ⊢; exact ⟨G, H0, env, o, k.grow s, e2, out_tr (Frm.refl s) q⟩)
def setO (i : Nat) (f : Sl → Res D) : Sl → Res Out := fun env => f env >>= fun d => .ok (.nx (env.set i (slotN d)))
theorem ds_set (i : Nat) {x : Str} {pos' : Pos} (hN : X.N.Nodup) (h : DE X .t e f) (hi : X.N[i]? = some x := by rfl) (hx : Loc X.env.scope x := by first | exact Or.inl rfl | exact Or.inr rfl) (hs : swapsWith e (some (.Name x pos')) pos.line X.env = pure false := by rfl)
    (hf : X.fn x = true ∨ X.env.scope.names.lookup x = some .local := by first | exact .inl rfl | exact .inr rfl | assumption) : DS X (.Assign [.Name x pos'] e pos) (setO i f) := by
 with_unfolding_all exact (
  PS.imp (ps_set (i := i) hN hi hx h hs hf) fun E σ H ⟨G, H0, env, o, k, ef, q⟩ => by
    obtain ⟨d, e1, e2⟩ := bind_inv ef
    cases e2
    exact ⟨G, H0, env, d, k, e1, fun v H' s r nt => q _ H' (k.setNew s r nt).1 (k.setNew s r nt).2⟩)
def setOs (i : Nat) (f : Sl → Res D) : Sl → Res Out := fun env => f env >>= fun d => .ok (.nx (env.set i (.shr d)))
theorem ds_setS (i : Nat) {x : Str} {pos' : Pos} (hN : X.N.Nodup) (h : DE X .s e f) (hi : X.N[i]? = some x := by rfl) (hx : Loc X.env.scope x := by first | exact Or.inl rfl | exact Or.inr rfl) (hs : swapsWith e (some (.Name x pos')) pos.line X.env = pure false := by rfl)
    (hf : X.fn x = true ∨ X.env.scope.names.lookup x = some .local := by first | exact .inl rfl | exact .inr rfl | assumption) : DS X (.Assign [.Name x pos'] e pos) (setOs i f) := by
 with_unfolding_all exact (
  PS.imp (ps_set (i := i) hN hi hx h hs hf) fun E σ H ⟨G, H0, env, o, k, ef, q⟩ => by
    obtain ⟨d, e1, e2⟩ := bind_inv ef
    cases e2
    exact ⟨G, H0, env, d, k, e1, fun v H' s r _ => q _ H' ((k.grow s).setS r) (.set s fun _ _ z _ => by cases z)⟩)
theorem ds_aug (i : Nat) {x : Str} {pos' : Pos} {op : Operator} {h : Int → Int → Int} (hN : X.N.Nodup) (he : DE X l e f) (ho : PIp X op (ipI h)) (hi : X.N[i]? = some x := by rfl) (hx : Loc X.env.scope x := by first | exact Or.inl rfl | exact Or.inr rfl)
    (hf : X.fn x = true ∨ X.env.scope.names.lookup x = some .local := by first | exact .inl rfl | exact .inr rfl | assumption) :
    DS X (.AugAssign (.Name x pos') op e pos) (setOs i (two (rdS i) f (augI h))) := by
 with_unfolding_all exact (
  PS.imp (ps_aug (i := i) hN hi hx he ho hf) fun E σ H ⟨G, H0, env, o, k, ef, q⟩ => by
    obtain ⟨d, e1, e2⟩ := bind_inv ef
    obtain ⟨a, e3, e4⟩ := bind_inv e1
    obtain ⟨b, e5, e6⟩ := bind_inv e4
    cases e2
    obtain ⟨v, h1, h2⟩ := k.shr i a (rdS_inv e3)
    refine ⟨v, h1, G, H0, env, b, k, e5, fun w H' s r _ => ?_⟩
    cases a with
    | int m =>
      cases b with
      | int n =>
        cases e6
        cases h2.intE
        cases r.intE
        exact ⟨m, n, rfl, rfl, q _ H' ((k.grow s).setS (.int _)) (.set s fun _ _ z _ => by cases z)⟩
      | _ => cases e6
    | _ => cases e6)
end
end M

set_option Elab.async false
set_option linter.all false
set_option maxRecDepth 100000
set_option maxHeartbeats 4000000
namespace M
open PySem PySem.Spec L2
open PyProof.Rows hiding St

def Its (x : Str) : It := ⟨fun i _ => i < x.cps.size, fun i H v H' => H' = H ∧ ∃ c, x.cps[i]? = some c ∧ v = .str ⟨#[c]⟩, fun i _ => x.cps.size ≤ i⟩
theorem turn_ascii {P : Program} {w : World} {K : PySem.W.Frag} {tg : Expr} (it : Addr) (x : Str) (t : Tok) : Turn P w K tg (Its x) [it] it (fun i h => h.IsStrIter it "str_ascii_iterator" x t i) where
  mem := by simp
  obj := fun i h st b hb => by
    have e : b = it := by simpa using hb
    subst e
    obtain ⟨o, e, c, d⟩ := st
    exact ⟨o, e, fun v z => by rw [d] at z; cases z⟩
  keep := fun i h h' st k => let ⟨o, ho, r⟩ := st; ⟨o, k it (by simp) o ho, r⟩
  item := by
    intro X hP hw hK hc i pins s σ H E I hf st hg
    subst hP hw hK
    have hi : i < x.cps.size := hg
    obtain ⟨f0, f1, f2, f3, f4, f5⟩ := hf it (by simp)
    refine wpAny_pyNext_ascii_item st (c := x.cps[i]) (by simp [hi]) fun h' st' sb => ?_
    have I1 : Inv X pins σ H { s with heap := h', toks := s.toks + 1 } := I.turned (fun b o hb e => (sb.2 b hb).trans e) f0 f1 f3 f4 f5
    obtain ⟨o, e, c, d⟩ := id st'
    exact ⟨_, rfl, go_of (s := { s with heap := h', toks := s.toks + 1 }) e c d (by decide) ⟨.str ⟨#[x.cps[i]]⟩, H, I1, ⟨_, rfl⟩, ⟨rfl, _, by simp [hi], rfl⟩, st', fun b hb => (hf b hb).1⟩⟩
  done := by
    intro X hP hw hK hc i pins s σ H E I hf st hg
    subst hP hw hK
    have hi : x.cps.size ≤ i := hg
    obtain ⟨f0, f1, f2, f3, f4, f5⟩ := hf it (by simp)
    exact wpAny_pyNext_ascii_end (I.ok.hd hc) st (by simp; exact hi) fun h' eb => ⟨rfl, I.turned (t' := s.toks) (fun b o hb e => eb b o hb e) f0 f1 f3 f4 f5⟩
  self := fun _ _ _ _ _ st h => wpAny_pyIter_striter_ascii st h
theorem turn_wide {P : Program} {w : World} {K : PySem.W.Frag} {tg : Expr} (it : Addr) (x : Str) (t : Tok) : Turn P w K tg (Its x) [it] it (fun i h => h.IsStrIter it "str_iterator" x t i) where
  mem := by simp
  obj := fun i h st b hb => by
    have e : b = it := by simpa using hb
    subst e
    obtain ⟨o, e, c, d⟩ := st
    exact ⟨o, e, fun v z => by rw [d] at z; cases z⟩
  keep := fun i h h' st k => let ⟨o, ho, r⟩ := st; ⟨o, k it (by simp) o ho, r⟩
  item := by
    intro X hP hw hK hc i pins s σ H E I hf st hg
    subst hP hw hK
    have hi : i < x.cps.size := hg
    obtain ⟨f0, f1, f2, f3, f4, f5⟩ := hf it (by simp)
    refine wpAny_pyNext_wide_item st (c := x.cps[i]) (by simp [hi]) fun h' st' sb => ?_
    have I1 : Inv X pins σ H { s with heap := h', toks := s.toks + 1 } := I.turned (fun b o hb e => (sb.2 b hb).trans e) f0 f1 f3 f4 f5
    obtain ⟨o, e, c, d⟩ := id st'
    exact ⟨_, rfl, go_of (s := { s with heap := h', toks := s.toks + 1 }) e c d (by decide) ⟨.str ⟨#[x.cps[i]]⟩, H, I1, ⟨_, rfl⟩, ⟨rfl, _, by simp [hi], rfl⟩, st', fun b hb => (hf b hb).1⟩⟩
  done := by
    intro X hP hw hK hc i pins s σ H E I hf st hg
    subst hP hw hK
    have hi : x.cps.size ≤ i := hg
    obtain ⟨f0, f1, f2, f3, f4, f5⟩ := hf it (by simp)
    exact wpAny_pyNext_wide_end (I.ok.hd hc) st (by simp; exact hi) fun h' eb => ⟨rfl, I.turned (t' := s.toks) (fun b o hb e => eb b o hb e) f0 f1 f3 f4 f5⟩
  self := fun _ _ _ _ _ st h => wpAny_pyIter_striter_wide st h

def Walk (J : It) (xs : List V) (P : Hp → Prop) : Prop := ∀ i H, P H → (i < xs.length → J.go i H) ∧ (i < xs.length → ∀ x H', J.yld i H x H' → H' = H ∧ xs[i]? = some x) ∧ (xs.length ≤ i → J.stop i H)
def Yd (K : PySem.W.Frag) (A : Addr → Prop) (H1 H H' : Hp) (x : V) (d : D) : Prop :=
  (H' = H ∧ Rep K A H1 x d) ∨ ∃ p vs es, H p = none ∧ x = .ref p ∧ H' = L2.upd H p (.tup vs) ∧ d = .tup es ∧ Reps K A H1 vs es
def WalkD (K : PySem.W.Frag) (A : Addr → Prop) (H1 : Hp) (J : It) (ds : List D) (P : Hp → Prop) : Prop := ∀ i H, P H → (i < ds.length → J.go i H) ∧ (∀ d, ds[i]? = some d → ∀ x H', J.yld i H x H' → Yd K A H1 H H' x d) ∧ (ds.length ≤ i → J.stop i H)
theorem Walk.toD {K : PySem.W.Frag} {A : Addr → Prop} {H1 : Hp} {J : It} {xs : List V} {ds : List D} {P : Hp → Prop} (rs : Reps K A H1 xs ds) (w : Walk J xs P) : WalkD K A H1 J ds P := fun i H p => by
  have hl := rs.length
  obtain ⟨w1, w2, w3⟩ := w i H p
  refine ⟨fun h => w1 (by omega), fun d hd x H' y => ?_, fun h => w3 (by omega)⟩
  have hi : i < ds.length := (List.getElem?_eq_some_iff.mp hd).1
  obtain ⟨e, hx⟩ := w2 (by omega) x H' y
  obtain ⟨d', hd', r⟩ := rs.get' hx
  rw [hd] at hd'; cases hd'
  exact .inl ⟨e, r⟩
def tI (K : PySem.W.Frag) (f : Sl → Res (List D)) : TI := fun σ H R => ∃ G H0 env ds, EnvOk K G H0 env σ H ∧ f env = .ok ds ∧
  ∀ J H1 P, Same H H1 → WalkD K (Sf G env σ) H1 J ds P → P H1 → (∀ env' σ' H', Frm env σ H1 env' σ' H' → P H') → R J H1
@[irreducible] def DI (X : Cx) (tg e : Expr) (f : Sl → Res (List D)) : Prop := PI X tg e (tI X.K f)
def signs (z : Str) : List D := z.cps.toList.map fun c => .str ⟨#[c]⟩
def iterD : D → Res (List D)
  | .lst ds => .ok ds
  | .scr ds => .ok ds
  | .tup ds => .ok ds
  | .str z => .ok (signs z)
  | _ => .stuck
def signV (z : Str) : List V := z.cps.toList.map fun c => .str ⟨#[c]⟩
theorem signs_rep {K : PySem.W.Frag} {A : Addr → Prop} {H : Hp} (z : Str) : Reps K A H (signV z) (signs z) := by
  unfold signV signs
  generalize z.cps.toList = l
  induction l with
  | nil => exact .nil
  | cons c r ih => exact .cons (.str _ (one_len c)) ih
section
variable {X : Cx} {tg e : Expr} {f : Sl → Res D} {l : Lv}
def itF (f : Sl → Res D) : Sl → Res (List D) := fun env => f env >>= iterD
theorem di_seq (h : DE X .s e f) : DI X tg e (itF f) := by
 with_unfolding_all exact (by
  intro pins s σ H R I ⟨G, H0, env, ds, k, ef, q⟩
  obtain ⟨d, e1, e2⟩ := bind_inv ef
  refine thn (h pins s σ H (fun v H1 => Same H H1 ∧ Rep X.K (Sf G env σ) H1 v d) I ⟨G, H0, env, d, k, e1, fun v H' s r _ => ⟨s, r⟩⟩) fun v s1 ⟨x, H1, I1, r1, sm, rep⟩ => ?_
  have k1 := k.grow sm
  cases d with
  | lst ds' =>
    cases e2
    obtain ⟨a, xs, rfl, ha, na, rs⟩ := rep.lstE
    cases r1
    obtain ⟨its, rv, p, hz⟩ := I1.list (.of ha)
    refine wpAny_pyIter_list p.isList ?_
    refine ⟨s1.heap.objs.size, [s1.heap.objs.size], _, _, H1, rfl, I1.kept (t' := s1.toks) fun b o e => Heap.get?_push_of_some _ e, turn_list a _, ⟨_, Heap.get?_push_size _ rfl, rfl, rfl⟩, fun b hb => ?_, ?_⟩
    · have e : b = s1.heap.objs.size := by simpa using hb
      subst e
      exact I1.fpOk (Nat.le_refl _) (I1.hok.fresh (Nat.le_refl _))
    · refine q _ H1 (fun H => H a = some (.lst xs)) sm (Walk.toD rs.low fun i H' p => ?_) ha (fun env' σ' H' fr => fr.keep a _ ha na.1)
      exact ⟨fun hi => ⟨xs, xs[i], .of p, by simp [hi]⟩, fun _ x H' y => ⟨y.1, y.2 xs (.of p)⟩, fun hi => ⟨xs, .of p, hi⟩⟩
  | scr ds' =>
    cases e2
    obtain ⟨a, xs, rfl, ha, rs⟩ := rep.scrE
    cases r1
    obtain ⟨its, rv, p, hz⟩ := I1.list ha.sql
    refine wpAny_pyIter_list p.isList ?_
    refine ⟨s1.heap.objs.size, [s1.heap.objs.size], _, _, H1, rfl, I1.kept (t' := s1.toks) fun b o e => Heap.get?_push_of_some _ e, turn_list a _, ⟨_, Heap.get?_push_size _ rfl, rfl, rfl⟩, fun b hb => ?_, ?_⟩
    · have e : b = s1.heap.objs.size := by simpa using hb
      subst e
      exact I1.fpOk (Nat.le_refl _) (I1.hok.fresh (Nat.le_refl _))
    · refine q _ H1 (fun H => LsK X.K H a xs) sm (Walk.toD rs fun i H' p => ?_) ha (fun env' σ' H' fr => ?_)
      · exact ⟨fun hi => ⟨xs, xs[i], p.sql, by simp [hi]⟩, fun _ x H' y => ⟨y.1, y.2 xs p.sql⟩, fun hi => ⟨xs, p.sql, hi⟩⟩
      · rcases ha with ⟨o, eo⟩ | z
        · exact .inl ⟨o, fr.keep a _ eo fun ow => (k1.mutO ow eo).elim⟩
        · exact .inr z
  | tup ds' =>
    cases e2
    obtain ⟨a, xs, rfl, ha, rs⟩ := rep.tupE
    cases r1
    obtain ⟨its, rv, p, hz⟩ := I1.tuple (.of ha)
    refine wpAny_pyIter_tuple (show s1.heap.IsTuple a its.toArray from p) ?_
    refine ⟨s1.heap.objs.size, [s1.heap.objs.size], _, _, H1, rfl, I1.kept (t' := s1.toks) fun b o e => Heap.get?_push_of_some _ e, turn_tuple a _, ⟨_, Heap.get?_push_size _ rfl, rfl, rfl⟩, fun b hb => ?_, ?_⟩
    · have e : b = s1.heap.objs.size := by simpa using hb
      subst e
      exact I1.fpOk (Nat.le_refl _) (I1.hok.fresh (Nat.le_refl _))
    · refine q _ H1 (fun H => H a = some (.tup xs)) sm (Walk.toD rs fun i H' p => ?_) ha (fun env' σ' H' fr => fr.keep a _ ha fun ow => (k1.mutO ow ha).elim)
      exact ⟨fun hi => ⟨xs, xs[i], .of p, by simp [hi]⟩, fun _ x H' y => ⟨y.1, y.2 xs (.of p)⟩, fun hi => ⟨xs, .of p, hi⟩⟩
  | str z =>
    cases e2
    obtain ⟨rfl, hz⟩ := rep.strE
    obtain ⟨t, rfl⟩ := r1
    have fin : ∀ (J : It) , J = Its z → ∃ (xs : List V) (P : Hp → Prop), Reps X.K (Sf G env σ) H1 xs (signs z) ∧ Walk J xs P ∧ P H1 ∧ ∀ env' σ' H', Frm env σ H1 env' σ' H' → P H' := by
      rintro J rfl
      refine ⟨signV z, fun _ => True, signs_rep z, fun i H' _ => ?_, trivial, fun _ _ _ _ => trivial⟩
      have hl : (signV z).length = z.cps.size := by simp [signV]
      refine ⟨fun hi => by rw [hl] at hi; exact hi, fun hi x H2 y => ?_, fun hi => by rw [hl] at hi; exact hi⟩
      obtain ⟨y1, c, y2, y3⟩ := y
      refine ⟨y1, ?_⟩
      subst y3
      simp [signV, y2]
    obtain ⟨xs, P, h1, h2, h3, h4⟩ := fin (Its z) rfl
    cases hall : z.cps.all (· < 128) with
    | true =>
      refine wpAny_pyIter_ascii hall ?_
      refine ⟨s1.heap.objs.size, [s1.heap.objs.size], _, _, H1, rfl, I1.kept (t' := s1.toks) fun b o e => Heap.get?_push_of_some _ e, turn_ascii _ z t, ⟨_, Heap.get?_push_size _ rfl, rfl, rfl⟩, fun b hb => ?_, q _ H1 P sm (Walk.toD h1 h2) h3 h4⟩
      have e : b = s1.heap.objs.size := by simpa using hb
      subst e
      exact I1.fpOk (Nat.le_refl _) (I1.hok.fresh (Nat.le_refl _))
    | false =>
      refine wpAny_pyIter_wide hall ?_
      refine ⟨s1.heap.objs.size, [s1.heap.objs.size], _, _, H1, rfl, I1.kept (t' := s1.toks) fun b o e => Heap.get?_push_of_some _ e, turn_wide _ z t, ⟨_, Heap.get?_push_size _ rfl, rfl, rfl⟩, fun b hb => ?_, q _ H1 P sm (Walk.toD h1 h2) h3 h4⟩
      have e : b = s1.heap.objs.size := by simpa using hb
      subst e
      exact I1.fpOk (Nat.le_refl _) (I1.hok.fresh (Nat.le_refl _))
  | _ => cases e2)
def intsD (lo : Int) (n : Nat) : List D := (List.range n).map fun (i : Nat) => .int (lo + (i : Int))
def intsV (lo : Int) (n : Nat) : List V := (List.range n).map fun (i : Nat) => .int (lo + (i : Int))
theorem intsD_rep {K : PySem.W.Frag} {A : Addr → Prop} {H : Hp} (lo : Int) (n : Nat) : Reps K A H (intsV lo n) (intsD lo n) := by
  unfold intsV intsD
  generalize List.range n = l
  induction l with
  | nil => exact .nil
  | cons c r ih => exact .cons (.int _) ih
theorem walk_range (lo : Int) (n : Nat) : Walk (Itr lo n) (intsV lo n) (fun _ => True) := fun i H _ => by
  have hl : (intsV lo n).length = n := by simp [intsV]
  refine ⟨fun hi => by rw [hl] at hi; exact hi, fun hi x H2 y => ?_, fun hi => by rw [hl] at hi; exact hi⟩
  obtain ⟨y1, y2⟩ := y
  refine ⟨y1, ?_⟩
  subst y2
  rw [hl] at hi
  simp [intsV, hi]

def rng1 : List D → Res (List D)
  | [.int j] => must (-(2 ^ 62) ≤ j ∧ j < 2 ^ 62) (.ok (intsD 0 j.toNat))
  | _ => .stuck
theorem Reps.one {K : PySem.W.Frag} {A : Addr → Prop} {H : Hp} {vs : List V} {d : D} (r : Reps K A H vs [d]) : ∃ v, vs = [v] ∧ Rep K A H v d := by
  cases r with
  | cons h t => cases t; exact ⟨_, rfl, h⟩
theorem Reps.two {K : PySem.W.Frag} {A : Addr → Prop} {H : Hp} {vs : List V} {d d' : D} (r : Reps K A H vs [d, d']) : ∃ v v', vs = [v, v'] ∧ Rep K A H v d ∧ Rep K A H v' d' := by
  cases r with
  | cons h t =>
    obtain ⟨v', rfl, h'⟩ := t.one
    exact ⟨_, _, rfl, h, h'⟩
theorem PI.imp {t t' : TI} (h : PI X tg e t) (w : ∀ σ H Q, t' σ H Q → t σ H Q) : PI X tg e t' := fun pins s σ H Q I q => h pins s σ H Q I (w σ H Q q)
def rngF (fa : Sl → Res (List D)) : Sl → Res (List D) := fun env => fa env >>= rng1
theorem di_range1 {a : Expr} {p pos : Pos} {fa : Sl → Res (List D)} (hg : Gl X "range") (hm : X.mg "range" = none) (ha : DA X l [a] fa) (hs : starEach [a] X.env = [(false, eval a X.env)] := by rfl) : DI X tg (.Call (.Name "range" p) [a] [] pos) (rngF fa) := by
 with_unfolding_all exact (
  PI.imp (pi_range1 hg hm ha hs) fun σ H R ⟨G, H0, env, ds, k, ef, q⟩ => by
    obtain ⟨as, e1, e2⟩ := bind_inv ef
    refine ⟨G, H0, env, as, k, e1, fun vs H1 s1 r1 => ?_⟩
    unfold rng1 at e2
    split at e2
    · obtain ⟨⟨h1, h2⟩, e3⟩ := must_inv e2
      cases e3
      obtain ⟨v, rfl, r⟩ := r1.one
      cases r.intE
      exact ⟨_, rfl, h1, h2, q _ H1 _ s1 (Walk.toD (intsD_rep 0 _) (walk_range 0 _)) trivial fun _ _ _ _ => trivial⟩
    · cases e2)
def rng2 : List D → Res (List D)
  | [.int i, .int j] => must ((-(2 ^ 62) ≤ i ∧ i < 2 ^ 62) ∧ -(2 ^ 62) ≤ j ∧ j < 2 ^ 62) (.ok (intsD i (j - i).toNat))
  | _ => .stuck
def rng2F (fa : Sl → Res (List D)) : Sl → Res (List D) := fun env => fa env >>= rng2
theorem di_range2 {a b : Expr} {p pos : Pos} {fa : Sl → Res (List D)} (hg : Gl X "range") (hm : X.mg "range" = none) (ha : DA X l [a, b] fa) (hs : starEach [a, b] X.env = [(false, eval a X.env), (false, eval b X.env)] := by rfl) (hs2 : starEach [b] X.env = [(false, eval b X.env)] := by rfl) :
    DI X tg (.Call (.Name "range" p) [a, b] [] pos) (rng2F fa) := by
 with_unfolding_all exact (
  PI.imp (pi_range2 hg hm ha hs hs2) fun σ H R ⟨G, H0, env, ds, k, ef, q⟩ => by
    obtain ⟨as, e1, e2⟩ := bind_inv ef
    refine ⟨G, H0, env, as, k, e1, fun vs H1 s1 r1 => ?_⟩
    unfold rng2 at e2
    split at e2
    · obtain ⟨⟨⟨h1, h2⟩, h3, h4⟩, e3⟩ := must_inv e2
      cases e3
      obtain ⟨v, v', rfl, r, r'⟩ := r1.two
      cases r.intE
      cases r'.intE
      exact ⟨_, _, rfl, ⟨h1, h2, h3, h4⟩, q _ H1 _ s1 (Walk.toD (intsD_rep _ _) (walk_range _ _)) trivial fun _ _ _ _ => trivial⟩
    · cases e2)

def tG (K : PySem.W.Frag) (t : D → Sl → Res Sl) : TG := fun v σ H Q => ∃ G H0 env d env', EnvOk K G H0 env σ H ∧ Rep K (Sf G env σ) H v d ∧ t d env = .ok env' ∧ ∀ σ', EnvOk K G H0 env' σ' H → Frm env σ H env' σ' H → Q σ' H
@[irreducible] def DG (X : Cx) (tg : Expr) (t : D → Sl → Res Sl) : Prop := PG X tg (tG X.K t)
theorem PG.imp {t t' : TG} (h : PG X tg t) (w : ∀ v σ H Q, t' v σ H Q → t v σ H Q) : PG X tg t' := fun pins s σ H v u Q I r q => h pins s σ H v u Q I r (w v σ H Q q)
def gN (i : Nat) : D → Sl → Res Sl := fun d env => .ok (env.set i (.shr d))
theorem dg_name (i : Nat) {x : Str} {pos : Pos} (hN : X.N.Nodup) (hi : X.N[i]? = some x := by rfl) (hx : Loc X.env.scope x := by first | exact Or.inl rfl | exact Or.inr rfl)
    (hf : X.fn x = true ∨ X.env.scope.names.lookup x = some .local := by first | exact .inl rfl | exact .inr rfl | assumption) : DG X (.Name x pos) (gN i) := by
 with_unfolding_all exact (
  PG.imp (pg_name hN hi hx hf) fun v σ H Q ⟨G, H0, env, d, env', k, r, e, q⟩ => by
    cases e
    exact q _ (k.setS r) (.set (Same.refl H) fun _ _ z _ => by cases z))
def g2 (t u : D → Sl → Res Sl) : D → Sl → Res Sl := fun d env => match d with
  | .tup [x, y] => t x env >>= fun env' => u y env'
  | _ => .stuck
theorem dg_two {a b : Expr} {k : Nat} {pos : Pos} {t u : D → Sl → Res Sl} (hc : X.calm = true) (h1 : DG X a t) (h2 : DG X b u)
    (hs : (assignEach [a, b] X.env).map (·.2) = assign a X.env :: (assignEach [b] X.env).map (·.2) := by rfl) (hs2 : (assignEach [b] X.env).map (·.2) = assign b X.env :: (assignEach [] X.env).map (·.2) := by rfl)
    (hn : (assignEach [a, b] X.env).length = 2 := by rfl) (hst : (assignEach [a, b] X.env).findIdx? (·.1) = none := by rfl) : DG X (.Tuple [a, b] k pos) (g2 t u) := by
 with_unfolding_all exact (
  PG.imp (pg_tup (n := 2) hc (pgs_cons h1 (pgs_cons h2 pgs_nil hs2) hs) hn hst) fun v σ H Q ⟨G, H0, env, d, env', k, r, e, q⟩ => by
    unfold g2 at e
    split at e
    · obtain ⟨env1, e1, e2⟩ := bind_inv e
      obtain ⟨a, xs, rfl, ha, rs⟩ := r.tupE
      obtain ⟨v1, v2, rfl, r1, r2⟩ := rs.two
      refine ⟨a, _, rfl, .of ha, rfl, v1, [v2], rfl, G, H0, env, _, env1, k, r1, e1, fun σ1 k1 f1 => ⟨v2, [], rfl, G, H0, env1, _, env', k1, f1.rep k r2, e2, fun σ2 k2 f2 => ⟨rfl, q σ2 k2 (f1.trans f2)⟩⟩⟩
    · cases e)
def asgO (f : Sl → Res D) (t : D → Sl → Res Sl) : Sl → Res Out := fun env => f env >>= fun d => t d env >>= fun env' => .ok (.nx env')
theorem ds_asg {pos : Pos} {t : D → Sl → Res Sl} (he : DE X .s e f) (hg : DG X tg t) (hs : swapsWithSole [tg] e pos.line X.env = pure false := by rfl) (hw : swappedStores [tg] e X.env = pure none := by rfl)
    (h1 : (assignEach [tg] X.env).map (·.2) = [assign tg X.env] := by rfl) : DS X (.Assign [tg] e pos) (asgO f t) := by
 with_unfolding_all exact (
  PS.imp (ps_asg he hg hs hw h1) fun E σ H ⟨G, H0, env, o, k, ef, q⟩ => by
    obtain ⟨d, e1, e2⟩ := bind_inv ef
    obtain ⟨env', e3, e4⟩ := bind_inv e2
    cases e4
    exact ⟨G, H0, env, d, k, e1, fun v H' s r _ => ⟨G, H0, env, d, env', k.grow s, r, e3, fun σ' k' f' => q σ' H' k' (f'.grow s)⟩⟩)

def forD (body : D → Sl → Res Out) : List D → Sl → Res Out
  | [], env => .ok (.nx env)
  | d :: ds, env => body d env >>= fun o => match o with
    | .nx env' => forD body ds env'
    | .ct env' => forD body ds env'
    | .bk env' => .ok (.nx env')
    | .rt fr d => .ok (.rt fr d)
def turnD (t : D → Sl → Res Sl) (g : Sl → Res Out) : D → Sl → Res Out := fun d env => t d env >>= g
def forO (f : Sl → Res (List D)) (t : D → Sl → Res Sl) (g : Sl → Res Out) : Sl → Res Out := fun env => f env >>= fun ds => forD (turnD t g) ds env
theorem ds_for {pos : Pos} {body : List Stmt} {fi : Sl → Res (List D)} {t : D → Sl → Res Sl} {g : Sl → Res Out} (hp : PassesOwn (model X.prog X.w) X.A X.env X.xe) (hc : X.calm = true) (hi : DI X tg e fi) (hg : DG X tg t) (hb : DSs X body g)
    (hs : ∀ x, foldedSetIterable e X.env x = pure x := by intro _; rfl) : DS X (.For tg e body [] pos) (forO fi t g) := by
 with_unfolding_all exact (
  PS.imp (ps_for hp hc hi hg hb hs) fun E σ H ⟨G, H0, env, o, k, ef, q⟩ => by
    obtain ⟨ds, e1, e2⟩ := bind_inv ef
    refine ⟨G, H0, env, ds, k, e1, fun J H1 P sm wk p0 pst => ?_⟩
    have k1 := k.grow sm
    have q1 : Post X.K G H0 env σ H1 E o := out_tr (Frm.refl sm) q
    refine ⟨fun i m σ' H' => m = ds.length - i ∧ i ≤ ds.length ∧ ∃ env', EnvOk X.K G H0 env' σ' H' ∧ Frm env σ H1 env' σ' H' ∧ forD (turnD t g) (ds.drop i) env' = .ok o, ⟨ds.length, by simp, Nat.zero_le _, env, k1, Frm.refl (Same.refl H1), by simpa using e2⟩, ?_⟩
    rintro i m σ' H' ⟨rfl, hi, env', k', f', e'⟩
    obtain ⟨w1, w2, w3⟩ := wk i H' (pst env' σ' H' f')
    by_cases hd : i < ds.length
    · refine .inr ⟨w1 hd, ?_⟩
      rw [List.drop_eq_getElem_cons hd] at e'
      obtain ⟨o1, e3, e4⟩ := bind_inv e'
      obtain ⟨env1, e5, e6⟩ := bind_inv e3
      refine ⟨fun σ2 H2 => ds.length - (i + 1) = ds.length - (i + 1) ∧ i + 1 ≤ ds.length ∧ ∃ env2, EnvOk X.K G H0 env2 σ2 H2 ∧ Frm env σ H1 env2 σ2 H2 ∧ forD (turnD t g) (ds.drop (i + 1)) env2 = .ok o, fun σ2 H2 z => ⟨ds.length - (i + 1), by omega, z⟩, fun x H2 y => ?_⟩
      obtain ⟨sm2, rd⟩ : Same H' H2 ∧ Rep X.K (Sf G env' σ') H2 x ds[i] := by
        rcases w2 _ (List.getElem?_eq_getElem hd) x H2 y with ⟨rfl, rd⟩ | ⟨p, vs, es, hp, rfl, rfl, ed, rds⟩
        · exact ⟨Same.refl _, f'.rep k1 rd⟩
        · refine ⟨Same.upd hp, ?_⟩
          rw [ed]
          exact .tup upd_same ((f'.reps k1 rds).grow (Same.upd hp))
      refine ⟨G, H0, env', ds[i], env1, k'.grow sm2, rd, e5, fun σ1 kk1 ff1 => ⟨G, H0, env1, o1, kk1, e6, ?_⟩⟩
      have fr1 := (f'.trans (Frm.refl sm2)).trans ff1
      cases o1 with
      | nx env2 => exact fun σ2 H3 kk2 ff2 => ⟨rfl, hd, env2, kk2, fr1.trans ff2, e4⟩
      | ct env2 => exact fun σ2 H3 kk2 ff2 => ⟨rfl, hd, env2, kk2, fr1.trans ff2, e4⟩
      | bk env2 => cases e4; exact fun σ2 H3 kk2 ff2 => q1 σ2 H3 kk2 (fr1.trans ff2)
      | rt fr dd => cases e4; exact q1
    · have he : i = ds.length := by omega
      refine .inl ⟨w3 (by omega), ?_⟩
      rw [List.drop_eq_nil_of_le (by omega)] at e'
      cases e'
      exact q1 σ' H' k' f')

def whileD (n : Nat) (t : Sl → Res Bool) (g : Sl → Res Out) : Sl → Res Out := fun env => match n with
  | 0 => .stuck
  | n + 1 => t env >>= fun b => if b = true then g env >>= fun o => match o with
      | .nx env' => whileD n t g env'
      | .ct env' => whileD n t g env'
      | .bk env' => .ok (.nx env')
      | .rt fr d => .ok (.rt fr d)
    else .ok (.nx env)
theorem ds_while (n : Nat) {pos : Pos} {c : Expr} {body : List Stmt} {t : Sl → Res Bool} {g : Sl → Res Out} (hp : PassesOwn (model X.prog X.w) X.A X.env X.xe) (hc : DT X c t) (hb : DSs X body g) : DS X (.While c body [] pos) (whileD n t g) := by
 with_unfolding_all exact (
  PS.imp (ps_while hp hc hb) fun E σ H ⟨G, H0, env, o, k, ef, q⟩ => by
    refine ⟨fun m σ' H' => ∃ env', EnvOk X.K G H0 env' σ' H' ∧ Frm env σ H env' σ' H' ∧ whileD m t g env' = .ok o, ⟨n, env, k, Frm.refl (Same.refl H), ef⟩, ?_⟩
    rintro m σ' H' ⟨env', k', f', e'⟩
    cases m with
    | zero => cases e'
    | succ m =>
      obtain ⟨b, e1, e2⟩ := bind_inv e'
      refine ⟨G, H0, env', b, k', e1, fun H1 s1 => ?_⟩
      cases b with
      | false =>
        rw [if_neg Bool.false_ne_true] at e2 ⊢
        cases e2
        exact q σ' H1 (k'.grow s1) (f'.trans (Frm.refl s1))
      | true =>
        rw [if_pos rfl] at e2 ⊢
        obtain ⟨o1, e3, e4⟩ := bind_inv e2
        refine ⟨fun σ2 H2 => ∃ env2, EnvOk X.K G H0 env2 σ2 H2 ∧ Frm env σ H env2 σ2 H2 ∧ whileD m t g env2 = .ok o, fun σ2 H2 z => ⟨m, Nat.lt_succ_self m, z⟩, G, H0, env', o1, k'.grow s1, e3, ?_⟩
        have fr1 := f'.trans (Frm.refl s1)
        cases o1 with
        | nx env2 => exact fun σ2 H3 kk2 ff2 => ⟨env2, kk2, fr1.trans ff2, e4⟩
        | ct env2 => exact fun σ2 H3 kk2 ff2 => ⟨env2, kk2, fr1.trans ff2, e4⟩
        | bk env2 => cases e4; exact fun σ2 H3 kk2 ff2 => q σ2 H3 kk2 (fr1.trans ff2)
        | rt fr dd => cases e4; exact q)
end

def frz (i : Nat) (env : Sl) : Sl := match env[i]? with
  | some (.own d) => env.set i (.shr d)
  | _ => env
def frzO (i : Nat) (g : Sl → Res Out) : Sl → Res Out := fun env => g (frz i env)
end M

set_option Elab.async false
set_option linter.all false
set_option maxRecDepth 100000
set_option maxHeartbeats 4000000
namespace PySem.AutoSeq1
open PySem Builtin
theorem list_extend_tupleG (l : Addr) (items : Array Value) (n : Nat) (b : Addr) (items2 : Array Value) (n2 : Nat) (dd : Option Addr) (sl : Array (Option Value)) (hs0 : ¬(!items.isEmpty && Builtin.List.listTooLong (items.size + items2.size)) = true) (hs1 : items.size ≤ sizeLine) (hs2 : items.size + items2.size ≤ sizeLine + 1) :
    Meets (Builtin.«list.extend» ⟨[.ref l, .ref b], []⟩) (fun _ R s => s.heap.get? l = some { cls := .type "list", dict := none, data := .seq items n, slots := #[] } ∧ s.heap.get? b = some { cls := .type "tuple", dict := dd, data := .seq items2 n2, slots := sl } ∧ R (.ok (.ret Value.none)) { s with heap := s.heap.update l (Obj.mapSeq fun x => x ++ items2), toks := s.toks }) :=
  .of_wp fun prog w A R s h => by
    obtain ⟨hp, g, d, tk, os⟩ := s; obtain ⟨hl, hb, h⟩ := h; have f1 := idx_int; have f2 := sub_tuple_tuple; have f3 := sub_list_list; have f4 := sub_tuple_list; have f5 := sub_list_tuple;
    have hz' : (items ++ items2).size ≤ sizeLine + 1 := by rw [Array.size_append]; exact hs2
    wp_walk using (wpAny_updateSeq hl rfl (hz := hs1) (_hz' := hz')), wpAny_loadPart' hl, wpAny_loadPart' hb; exact ⟨_, rfl, h⟩
end PySem.AutoSeq1
namespace M
open PySem PySem.Spec L2
open PyProof.Rows hiding St

theorem imms_iff : ∀ {ds : List D}, D.imms ds = true ↔ ∀ d ∈ ds, d.imm = true
  | [] => by simp [D.imms]
  | d :: ds => by simp [D.imms, imms_iff (ds := ds)]
section
variable {X : Cx}
def rExtendT : V → List V → Hp → VK → Prop := fun x vs H Q => ∃ l b xs zs, x = .ref l ∧ vs = [.ref b] ∧ H l = some (.lst xs) ∧ H b = some (.tup zs) ∧ xs.length + zs.length ≤ sizeLine ∧ Q .non (upd H l (.lst (xs ++ zs)))
theorem mt_extendT : MtM X "list.extend" rExtendT := by
  intro pins s σ H x vs v us Q I rx rv h
  obtain ⟨l, b, xs, zs, rfl, rfl, hH, hB, hz, q⟩ := h
  cases rx
  obtain ⟨u, rfl, ru⟩ := rv.one
  cases ru
  obtain ⟨z, its, n, r, hl, e⟩ := I.lstM hH
  obtain ⟨its2, r2, ⟨ob, e2, hc, n2, hd⟩, z2⟩ := I.tuple (.of hB)
  have hl2 := r2.length
  obtain ⟨c2, dd2, dt2, sl2⟩ := ob
  have hc' : c2 = .type "tuple" := hc
  have hd' : dt2 = .seq its2.toArray n2 := hd
  subst hc' hd'
  have hsz : its.toArray.size + its2.toArray.size ≤ sizeLine := by rw [List.size_toArray, List.size_toArray]; omega
  have hlong : ¬ (!its.toArray.isEmpty && Builtin.List.listTooLong (its.toArray.size + its2.toArray.size)) = true := by
    rw [notLongL hsz, Bool.and_false]
    exact Bool.false_ne_true
  refine call_meets F.slot_list_extend ⟨_, e, rfl⟩ F.entry_list_extend (F.args_list_extend_2 _ _)
    (AutoSeq1.list_extend_tupleG l its.toArray n b its2.toArray n2 dd2 sl2 hlong (by rw [List.size_toArray]; omega) (by omega)) ⟨e, e2, ?_⟩
  refine ⟨.non, _, I.lset (its' := its ++ its2) hH e (by simp) (r.append r2) ?_, rfl, q⟩
  rw [List.length_append]
  omega

theorem owned_same {env : Sl} {σ : L2.St} {i : Nat} {d d' : D} {a : Addr} (hi : env[i]? = some (.own d)) : Owned (env.set i (.own d')) σ a ↔ Owned env σ a := by
  have hl : i < env.length := (List.getElem?_eq_some_iff.mp hi).1
  constructor
  · rintro ⟨j, e, h1, h2⟩
    by_cases z : i = j
    · subst z; exact ⟨i, d, hi, h2⟩
    · rw [get_set_ne z] at h1; exact ⟨j, e, h1, h2⟩
  · rintro ⟨j, e, h1, h2⟩
    by_cases z : i = j
    · subst z; exact ⟨i, d', List.getElem?_set_self hl, h2⟩
    · exact ⟨j, e, by rw [get_set_ne z]; exact h1, h2⟩
theorem EnvOk.write {K : PySem.W.Frag} {G : Addr → Prop} {H0 H : Hp} {env : Sl} {σ : L2.St} {i : Nat} {ds ds' : List D} {a : Addr} {xs xs' : List V} (k : EnvOk K G H0 env σ H) (hi : env[i]? = some (.own (.lst ds))) (ha : σ[i]? = some (some (.ref a))) (hx : H a = some (.lst xs))
    (r : Reps K (Sf G env σ) H xs' ds') : EnvOk K G H0 (env.set i (.own (.lst ds'))) σ (upd H a (.lst xs')) ∧ Frm env σ H (env.set i (.own (.lst ds'))) σ (upd H a (.lst xs')) := by
  have hl : i < env.length := (List.getElem?_eq_some_iff.mp hi).1
  have ow : Owned env σ a := ⟨i, _, hi, ha⟩
  have st : Stay (Sf G env σ) H (upd H a (.lst xs')) := fun c o e m => by
    rw [upd_ne ?_]
    · exact e
    · rintro rfl
      rw [hx] at e; cases e
      exact (m trivial).1 ow
  have w : ∀ c, Sf G env σ c → Sf G (env.set i (.own (.lst ds'))) σ c := fun c n => ⟨fun o => n.1 ((owned_same hi).mp o), n.2⟩
  refine ⟨⟨by simp [k.len], fun c o e => ?_, k.g0, fun j d' h => ?_, fun j d' h => ?_, fun j j' d1 d2 b q1 q2 q3 q4 => ?_⟩, ⟨fun c o e n => ?_, fun c o => .inl ((owned_same hi).mp o), fun c e => ?_⟩⟩
  · have hc : c ≠ a := by
      rintro rfl
      obtain ⟨b, h1, h0, _⟩ := k.own i _ hi
      rw [ha] at h1; cases h1
      rw [h0] at e; cases e
    rw [upd_ne hc]
    exact k.base c o e
  · by_cases z : i = j
    · subst z
      obtain ⟨q, _⟩ := get_set_eq h
      cases q
    · rw [get_set_ne z] at h
      obtain ⟨v, h1, h2⟩ := k.shr j d' h
      exact ⟨v, h1, h2.stay st w⟩
  · by_cases z : i = j
    · subst z
      obtain ⟨q, _⟩ := get_set_eq h
      cases q
      obtain ⟨b, h1, h0, _⟩ := k.own i _ hi
      rw [ha] at h1; cases h1
      exact ⟨a, ha, h0, .lst upd_same (r.stay st w)⟩
    · rw [get_set_ne z] at h
      obtain ⟨b, h1, h0, h2⟩ := k.own j d' h
      have hb : b ≠ a := by
        rintro rfl
        exact z (k.dis i j _ _ b hi h ha h1)
      exact ⟨b, h1, h0, h2.stay st w fun o e => by rw [upd_ne hb]; exact e⟩
  · have real : ∀ (j : Nat) (d1 : D), (env.set i (.own (.lst ds')))[j]? = some (.own d1) → ∃ d0 : D, env[j]? = some (.own d0) := fun j d1 q => by
      by_cases z : i = j
      · subst z; exact ⟨_, hi⟩
      · rw [get_set_ne z] at q; exact ⟨_, q⟩
    obtain ⟨e1, z1⟩ := real j d1 q1
    obtain ⟨e2, z2⟩ := real j' d2 q2
    exact k.dis j j' e1 e2 b z1 z2 q3 q4
  · have hc : c ≠ a := by
      rintro rfl
      exact n ow
    rw [upd_ne hc]; exact e
  · by_cases hc : c = a
    · subst hc; rw [upd_same] at e; cases e
    · rw [upd_ne hc] at e; exact e
theorem own_list {K : PySem.W.Frag} {G : Addr → Prop} {H0 H : Hp} {env : Sl} {σ : L2.St} {i : Nat} {ds : List D} (k : EnvOk K G H0 env σ H) (hi : env[i]? = some (.own (.lst ds))) : ∃ a xs, σ[i]? = some (some (.ref a)) ∧ H a = some (.lst xs) ∧ Reps K (Sf G env σ) H xs ds := by
  obtain ⟨a, h1, h0, h2⟩ := k.own i _ hi
  cases h2 with
  | lst e r => exact ⟨a, _, h1, e, r⟩

variable {e : Expr} {f : Sl → Res D} {l : Lv} {pos cpos apos p : Pos} {x : Str}
def ownL (i : Nat) (env : Sl) : Res (List D) := match env[i]? with
  | some (.own (.lst ds)) => .ok ds
  | _ => .stuck
theorem ownL_inv {i : Nat} {env : Sl} {ds : List D} (h : ownL i env = .ok ds) : env[i]? = some (.own (.lst ds)) := by
  unfold ownL at h
  split at h
  · cases h; assumption
  · cases h
def appendO (i : Nat) (f : Sl → Res D) : Sl → Res Out := fun env => ownL i env >>= fun ds => f env >>= fun d => must (ds.length < sizeLine) (.ok (.nx (env.set i (.own (.lst (ds ++ [d]))))))
def extendO (i : Nat) (f : Sl → Res D) : Sl → Res Out := fun env => ownL i env >>= fun ds => f env >>= fun d => match d with
  | .lst es => must (ds.length + es.length ≤ sizeLine) (.ok (.nx (env.set i (.own (.lst (ds ++ es))))))
  | .tup es => must (ds.length + es.length ≤ sizeLine) (.ok (.nx (env.set i (.own (.lst (ds ++ es))))))
  | _ => .stuck
theorem ds_extend (i : Nat) (he : DE X .s e f) (hN : X.N[i]? = some x := by rfl) (hv : Vis X.env.scope x := by first | exact Or.inl rfl | exact Or.inr (Or.inl rfl) | exact Or.inr (Or.inr rfl))
    (hd : (x == ("__debug__" : Str)) = false := by decide) (hcd : (x == ("__classdict__" : Str)) = false := by decide)
    (hbase : attributeBase (.Name x p) "extend" X.env (eval (.Name x p) X.env) = eval (.Name x p) X.env := by rfl)
    (hfew : ((backTo cpos (starEach [e] X.env)).all (fun x => !x.1) && (backToKw cpos (keywordEach [] X.env)).all (fun x => x.1.isSome)
      && decide ([e].length + ([] : List Keyword).length + (if ([] : List Keyword).isEmpty then 0 else 1) < 30)) = true := by exact few_plain rfl rfl)
    (hline : (apos.endLine == cpos.line) = true := by rfl) (hs : starEach [e] X.env = (false, eval e X.env) :: starEach [] X.env := by exact star_plain rfl) (hplain : (backTo cpos (starEach [] X.env)).any (·.1) = false := by exact any_plain rfl)
    (hsw : swapsWith (.Call (.Attribute (.Name x p) "extend" apos) [e] [] cpos) none pos.line X.env = pure false := by rfl) :
    DS X (.Expr (.Call (.Attribute (.Name x p) "extend" apos) [e] [] cpos) pos) (extendO i f) := by
 with_unfolding_all exact (
  PS.imp (ps_expr (pe_bm PySem.F.plainAttrs_list PySem.F.slot_list_extend PySem.F.type_list_extend (MtR.or mt_extend mt_extendT) (pe_var (i := i) hN hv hd hcd) (pa_cons he pa_nil hs) hbase hfew hline hs hplain) hsw) fun E σ H ⟨G, H0, env, o, k, ef, q⟩ => by
    obtain ⟨ds, e1, e2⟩ := bind_inv ef
    obtain ⟨d, e3, e4⟩ := bind_inv e2
    have hi := ownL_inv e1
    obtain ⟨a, xs, ha, hx, rs⟩ := own_list k hi
    refine ⟨.ref a, ha, .inl ⟨rfl, xs, .of hx⟩, G, H0, env, d, k, e3, fun v H1 s1 r1 _ => ?_⟩
    have hx1 := s1 _ _ hx
    cases d with
    | lst es =>
      obtain ⟨hz, e5⟩ := must_inv e4
      cases e5
      obtain ⟨b, ys, rfl, hb, _, ry⟩ := r1.lstE
      have ry' := ry.low
      refine .inl ⟨a, b, xs, ys, rfl, rfl, hx1, hb, by rw [rs.length, ry.length]; exact hz, ?_⟩
      have W := (k.grow s1).write hi ha hx1 (xs' := xs ++ ys) (ds' := ds ++ es) ((rs.grow s1).append ry')
      exact q σ _ W.1 (W.2.grow s1)
    | tup es =>
      obtain ⟨hz, e5⟩ := must_inv e4
      cases e5
      obtain ⟨b, ys, rfl, hb, ry⟩ := r1.tupE
      have ry' := ry
      refine .inr ⟨a, b, xs, ys, rfl, rfl, hx1, hb, by rw [rs.length, ry.length]; exact hz, ?_⟩
      have W := (k.grow s1).write hi ha hx1 (xs' := xs ++ ys) (ds' := ds ++ es) ((rs.grow s1).append ry')
      exact q σ _ W.1 (W.2.grow s1)
    | _ => cases e4)
def popO (i : Nat) (t : D → Sl → Res Sl) : Sl → Res Out := fun env => ownL i env >>= fun ds => match ds.getLast? with
  | some d => t d (env.set i (.own (.lst ds.dropLast))) >>= fun env' => .ok (.nx env')
  | none => .stuck
theorem ds_pop (i : Nat) {tg : Expr} {t : D → Sl → Res Sl} (hg : DG X tg t) (hN : X.N[i]? = some x := by rfl) (hv : Vis X.env.scope x := by first | exact Or.inl rfl | exact Or.inr (Or.inl rfl) | exact Or.inr (Or.inr rfl))
    (hd : (x == ("__debug__" : Str)) = false := by decide) (hcd : (x == ("__classdict__" : Str)) = false := by decide)
    (hbase : attributeBase (.Name x p) "pop" X.env (eval (.Name x p) X.env) = eval (.Name x p) X.env := by rfl) (hline : (apos.endLine == cpos.line) = true := by rfl)
    (hs : swapsWithSole [tg] (.Call (.Attribute (.Name x p) "pop" apos) [] [] cpos) pos.line X.env = pure false := by rfl) (hw : swappedStores [tg] (.Call (.Attribute (.Name x p) "pop" apos) [] [] cpos) X.env = pure none := by rfl)
    (h1 : (assignEach [tg] X.env).map (·.2) = [assign tg X.env] := by rfl) : DS X (.Assign [tg] (.Call (.Attribute (.Name x p) "pop" apos) [] [] cpos) pos) (popO i t) := by
 with_unfolding_all exact (
  PS.imp (ps_asg (pe_bm0 PySem.F.plainAttrs_list PySem.F.slot_list_pop PySem.F.type_list_pop mt_pop (pe_var (i := i) hN hv hd hcd) hbase hline) hg hs hw h1) fun E σ H ⟨G, H0, env, o, k, ef, q⟩ => by
    obtain ⟨ds, e1, e2⟩ := bind_inv ef
    have hi := ownL_inv e1
    obtain ⟨a, xs, ha, hx, rs⟩ := own_list k hi
    cases hl : ds.getLast? with
    | none => rw [hl] at e2; cases e2
    | some d =>
      rw [hl] at e2
      obtain ⟨env', e3, e4⟩ := bind_inv e2
      cases e4
      rw [List.getLast?_eq_getElem?] at hl
      obtain ⟨v, hv', rv⟩ := rs.get hl
      have W := k.write hi ha hx (xs' := xs.dropLast) (ds' := ds.dropLast) rs.dropLast
      refine ⟨.ref a, ha, .inl ⟨rfl, xs, .of hx⟩, a, xs, v, rfl, rfl, hx, by rw [rs.length]; exact hv', G, H0, _, d, env', W.1, ?_, e3, fun σ' k' f' => q σ' _ k' (W.2.trans f')⟩
      exact W.2.rep k rv)
def clearO (i : Nat) : Sl → Res Out := fun env => ownL i env >>= fun _ => .ok (.nx (env.set i (.own (.lst []))))
end
end M

set_option Elab.async false
set_option linter.all false
set_option maxRecDepth 100000
set_option maxHeartbeats 4000000
namespace M
open PySem PySem.Spec L2
open PyProof.Rows hiding St

theorem compLoop_any {prog : Program} {w : World} {A : Around} {R : Result → Shared → Prop} {s : Shared} {elt target iter : Expr} {ifs : List Expr} {scope : Scope} {pos : Pos} {it acc : Value} {env : Env} (I : Nat → Shared → Prop)
    (turn : ∀ n s, I n s → wpAny (model prog w) A (pyNext it) (fun r s₁ => match r with
      | none => R (.ok .next) s₁
      | some v => wpAny (model prog w) A (letOwnedTupleGo target it v) (fun _ s₁' => wpAny (model prog w) A (assign target env v) (fun _ s₂ =>
          wpAny (model prog w) A (forIn ifs true fun c r => if r = true then do let ok ← isTrue c env (eval c env); pure (ForInStep.yield ok) else pure (ForInStep.yield r)) (fun ok s₃ =>
            if ok = true then wpAny (model prog w) A (eval elt env) (fun x s₄ =>
              wpAny (model prog w) A (call (.builtin "list.append") [acc, x]) (fun _ s₅ => ∃ m, m < n ∧ I m s₅) (fun _ _ => False) s₄) (fun _ _ => False) s₃
            else ∃ m, m < n ∧ I m s₃) (fun _ _ => False) s₂) (fun _ _ => False) s₁') (fun _ _ => False) s₁) (fun _ _ => False) s)
    (n : Nat) (h : I n s) : codeAny (model prog w) A (.compLoop (.ListComp elt [⟨target, iter, ifs, 0⟩] scope pos) 0 it acc env) R s := by
  refine codeAny_loop rfl I (fun n s hI => ?_) n h
  show wpAny _ A ((compTurn (.ListComp elt [⟨target, iter, ifs, 0⟩] scope pos) 0 it acc env).onRaise (fun x => do noteFrame x env; theTreesLotGoes x)) _ _ s
  refine wpAny_noted ?_
  rw [compTurn_list]
  refine wpAny_bind (wpAny_standAt (wpAny_bind (wpAny_mono (turn n s hI) (fun r s₁ h₁ => ?_) fun _ _ h' => h'.elim)))
  cases r with
  | none => exact wpAny_pure h₁
  | some v =>
    refine wpAny_bind (wpAny_mono h₁ (fun _ s₁' h₁' => ?_) fun _ _ h' => h'.elim)
    refine wpAny_bind (wpAny_mono h₁' (fun _ s₂ h₂ => wpAny_bind (wpAny_mono h₂ (fun ok s₃ h₃ => ?_) fun _ _ h' => h'.elim)) fun _ _ h' => h'.elim)
    cases ok with
    | false => exact wpAny_pure ⟨rfl, h₃⟩
    | true =>
      exact wpAny_bind (wpAny_bind (wpAny_mono h₃ (fun x s₄ h₄ => wpAny_bind (wpAny_mono h₄ (fun _ s₅ h₅ => wpAny_pure (wpAny_pure ⟨rfl, h₅⟩)) fun _ _ h' => h'.elim)) fun _ _ h' => h'.elim))

def cxComp (X : Cx) (N : List Str) (scope : Scope) (cl : List (Str × Addr)) (C : Addr) (s : Shared) (H : Hp) (fp : List Addr) : Cx where
  prog := X.prog
  w := X.w
  K := X.K
  mg := X.mg
  base := X.base
  A := X.A
  N := N
  s₀ := s
  H₀ := H
  env := compEnvC scope cl C X.env
  outer := X.stack
  stack := X.stack
  ex := fp
  fn := fun _ => false
  calm := true
  pn := []
  xe := fun _ _ => False

@[irreducible] def DTs (X : Cx) (ifs : List Expr) (c : Sl → Res Bool) : Prop :=
  ∀ (pins : List (Addr × Obj)) (s : Shared) (σ : L2.St) (H : Hp) (Q : Bool → Hp → Prop), Inv X pins σ H s → tT X.K c σ H Q →
    wpAny (model X.prog X.w) X.A (forIn ifs true fun c r => if r = true then do let ok ← isTrue c X.env (eval c X.env); pure (ForInStep.yield ok) else pure (ForInStep.yield r)) (TP X pins σ Q) X.xe s
def trueB : Sl → Res Bool := fun _ => .ok true
theorem dts_nil {X : Cx} : DTs X [] trueB := by
 with_unfolding_all exact (fun pins s σ H Q I ⟨G, H0, env, b, k, ef, q⟩ => by
  cases ef
  exact wpAny_tests_nil ⟨H, I, q H (Same.refl H)⟩)
def compD (n : Nat) (t : D → Sl → Res Sl) (c : Sl → Res Bool) (fe : Sl → Res D) : List D → Sl → Res Sl
  | [], env => .ok env
  | d :: ds, env => t d env >>= fun env1 => c env1 >>= fun b => if b = true
      then fe env1 >>= fun v => ownL n env1 >>= fun acc => must (acc.length < sizeLine) (compD n t c fe ds (env1.set n (.own (.lst (acc ++ [v])))))
      else compD n t c fe ds env1
def capS (im : Bool) (env : Sl) (j : Nat) : Slot := match env[j]? with
  | some (.shr d) => .shr d
  | some (.own d) => if im = true then .shr d else .un
  | _ => .un
def compE (im : Bool) (m : Nat) (js : List Nat) (env : Sl) : Sl := List.replicate m .un ++ js.map (capS im env) ++ [.own (.lst [])]
def compO (im : Bool) (m : Nat) (js : List Nat) (fi : Sl → Res (List D)) (t : D → Sl → Res Sl) (c : Sl → Res Bool) (fe : Sl → Res D) : Sl → Res D := fun env =>
  fi env >>= fun ds => compD (m + js.length) t c fe ds (compE im m js env) >>= fun env' => ownL (m + js.length) env' >>= fun acc => must (im = true → D.imms acc = true) (.ok (.lst acc))
def compσ (m : Nat) (js : List Nat) (σ : L2.St) (a : Addr) : L2.St := List.replicate m none ++ js.map (fun j => (σ[j]?).join) ++ [some (.ref a)]

theorem relabel_mem {env : Env} : ∀ {names : List (Str × NameKind)} {x : Str} {k : NameKind},
    (names.map fun (n, k) => if (k == NameKind.free && env.scope.kind == .function && env.kindOf n == some .cell) then (n, NameKind.cell) else (n, k)).lookup x = some k → ∃ k', (x, k') ∈ names ∧ (k = k' ∨ k' = .free)
  | [], _, _, h => by simp at h
  | (n, k') :: r, x, k, h => by
    have h' : List.lookup x ((if (k' == NameKind.free && env.scope.kind == .function && env.kindOf n == some .cell) = true then (n, NameKind.cell) else (n, k')) :: (r.map fun (n, k) => if (k == NameKind.free && env.scope.kind == .function && env.kindOf n == some .cell) then (n, NameKind.cell) else (n, k))) = some k := h
    by_cases hc : (k' == NameKind.free && env.scope.kind == .function && env.kindOf n == some .cell) = true
    · rw [if_pos hc] at h'
      simp only [List.lookup_cons] at h'
      cases hx : x == n with
      | true =>
        rw [hx] at h'
        have e : x = n := by simpa using hx
        subst e
        refine ⟨k', List.mem_cons_self, .inr ?_⟩
        simp only [Bool.and_eq_true, beq_iff_eq] at hc
        exact hc.1.1
      | false =>
        rw [hx] at h'
        obtain ⟨k2, h1, h2⟩ := relabel_mem h'
        exact ⟨k2, List.mem_cons_of_mem _ h1, h2⟩
    · rw [if_neg hc] at h'
      simp only [List.lookup_cons] at h'
      cases hx : x == n with
      | true =>
        rw [hx] at h'
        have e : x = n := by simpa using hx
        subst e
        cases h'
        exact ⟨_, List.mem_cons_self, .inl rfl⟩
      | false =>
        rw [hx] at h'
        obtain ⟨k2, h1, h2⟩ := relabel_mem h'
        exact ⟨k2, List.mem_cons_of_mem _ h1, h2⟩

structure CompSc (X : Cx) (scope : Scope) (cl : List (Str × Addr)) (N : List Str) (m : Nat) (js : List Nat) : Prop where
  clos : closureFor scope X.env = pure cl
  kind : scope.kind = .function
  names : ∀ x ∈ scope.names, x.2 = .local → scope.names.lookup x.1 = some .local
  nocell : ∀ y ∈ scope.names, y.2 ≠ .cell
  cls : ∀ x c, cl.lookup x = some c → X.env.cells.lookup x = some c
  free : ∀ y ∈ scope.names, y.2 = .free → ∃ c, cl.lookup y.1 = some c
  nd : N.Nodup
  len : N.length = m + js.length + 1
  cap : ∀ (k j : Nat), js[k]? = some j → ∃ y, N[m + k]? = some y ∧ X.N[j]? = some y ∧ (X.env.scope.names.lookup y = some .cell ∨ X.env.scope.names.lookup y = some .free) ∧ scope.names.lookup y = some .free
  last : ∀ y, N[m + js.length]? = some y → ∀ p ∈ scope.names, p.1 ≠ y

section
variable {X : Cx} {tg iter elt : Expr} {ifs : List Expr} {scope : Scope} {cl : List (Str × Addr)} {N : List Str} {m : Nat} {js : List Nat} {pos : Pos} {im : Bool}
  {fi : Sl → Res (List D)} {t : D → Sl → Res Sl} {c : Sl → Res Bool} {fe : Sl → Res D}

theorem comp_ok {pins : List (Addr × Obj)} {σ : L2.St} {H : Hp} {s : Shared} {C : Addr} {fp : List Addr} (S : CompSc X scope cl N m js) (hc : X.calm = true) (I : Inv X pins σ H s) (hC : s.heap.objs.size ≤ C) (hf : ∀ b ∈ fp, FpOk X pins H b) (hfp : ∀ b ∈ fp, b < s.heap.objs.size) :
    (cxComp X N scope cl C s H fp).Ok where
  mod := I.ok.mod
  kind := S.kind
  glob := I.ok.glob
  blt := I.ok.blt
  above := hC
  inj := fun x y c h1 h2 => I.ok.inj x y c (S.cls x c h1) (S.cls y c h2)
  has := fun x h => by
    have mem : ∃ k', (x, k') ∈ scope.names ∧ k' = .free := by
      rcases h with h | h
      · obtain ⟨k', h1, h2⟩ := relabel_mem (env := X.env) (names := scope.names) h
        rcases h2 with z | z
        · exact absurd z.symm (S.nocell _ h1)
        · exact ⟨k', h1, z⟩
      · obtain ⟨k', h1, h2⟩ := relabel_mem (env := X.env) (names := scope.names) h
        rcases h2 with z | z
        · exact ⟨k', h1, z.symm⟩
        · exact ⟨k', h1, z⟩
    obtain ⟨k', h1, h2⟩ := mem
    exact S.free _ h1 h2
  cab := fun x c h => by cases h
  hd := fun _ => I.ok.hd hc
  frames := I.ok.frames
  stk := .inl rfl
  exf := fun b hb => ⟨fun z => absurd (Nat.lt_of_lt_of_le (hfp b hb) (by rw [z]; exact hC)) (Nat.lt_irrefl _), fun x c h => (hf b hb).2.2.2.2.1 x c (S.cls x c h)⟩
  bs := I.bs
  bsz := Nat.le_trans I.ok.bsz I.sz
  noex := fun b o e hb => by
    rcases (hf b hb).2.2.2.1 with z | z
    · exact I.ok.noex b o e z
    · exact absurd (Nat.lt_of_lt_of_le (Heap.lt_size e) (Nat.le_trans I.ok.bsz z)) (Nat.lt_irrefl _)
  exfs := fun b hb z => by
    rcases List.mem_cons.mp (I.stkSub b z) with q | q
    · exact (hf b hb).2.1 q
    · exact (hf b hb).2.2.1 q
  funs := I.stack
  frf := I.stkFree

theorem cap_own {env : Sl} {j : Nat} {d : D} (h : capS im env j = .own d) : False := by
  unfold capS at h
  split at h
  · cases h
  · split at h <;> cases h
  · cases h
theorem comp_owned {env : Sl} {σ : L2.St} {a b : Addr} (h : Owned (compE im m js env) (compσ m js σ a) b) : b = a := by
  obtain ⟨i, d, h, h2⟩ := h
  have hi : i = m + js.length := by
    unfold compE at h
    by_cases h1 : i < m
    · rw [List.append_assoc, List.getElem?_append_left (by simpa using h1), List.getElem?_replicate] at h
      split at h <;> cases h
    · rw [List.append_assoc, List.getElem?_append_right (by simpa using h1)] at h
      simp only [List.length_replicate] at h
      by_cases h2 : i - m < js.length
      · rw [List.getElem?_append_left (by simpa using h2), List.getElem?_map] at h
        cases e : js[i - m]? with
        | none => rw [e] at h; cases h
        | some j =>
          rw [e] at h
          have h' : capS im env j = .own d := Option.some.inj h
          exact (cap_own h').elim
      · rw [List.getElem?_append_right (by simpa using h2)] at h
        simp only [List.length_map] at h
        by_cases h3 : i - m - js.length = 0
        · omega
        · rw [List.getElem?_eq_none (by simp; omega)] at h; cases h
  subst hi
  have at_n : (compσ m js σ a)[m + js.length]? = some (some (.ref a)) := by
    unfold compσ
    rw [List.append_assoc, List.getElem?_append_right (by simp), List.getElem?_append_right (by simp)]
    simp
  rw [at_n] at h2; cases h2; rfl
abbrev Gc (im : Bool) (G : Addr → Prop) (env : Sl) (σ : L2.St) : Addr → Prop := fun c => G c ∧ (im = false → ¬ Owned env σ c)
theorem env_comp {K : PySem.W.Frag} {G : Addr → Prop} {H0 H : Hp} {env : Sl} {σ : L2.St} {a : Addr} (k : EnvOk K G H0 env σ H) (ha : H a = none) :
    EnvOk K (Gc im G env σ) H (compE im m js env) (compσ m js σ a) (upd H a (.lst [])) := by
  have own1 : ∀ (i : Nat) (d : D), (compE im m js env)[i]? = some (.own d) → i = m + js.length ∧ d = .lst [] := fun i d h => by
    unfold compE at h
    by_cases h1 : i < m
    · rw [List.append_assoc, List.getElem?_append_left (by simpa using h1), List.getElem?_replicate] at h
      split at h <;> cases h
    · rw [List.append_assoc, List.getElem?_append_right (by simpa using h1)] at h
      simp only [List.length_replicate] at h
      by_cases h2 : i - m < js.length
      · rw [List.getElem?_append_left (by simpa using h2), List.getElem?_map] at h
        cases e : js[i - m]? with
        | none => rw [e] at h; cases h
        | some j =>
          rw [e] at h
          have h' : capS im env j = .own d := Option.some.inj h
          exact (cap_own h').elim
      · rw [List.getElem?_append_right (by simpa using h2)] at h
        simp only [List.length_map] at h
        by_cases h3 : i - m - js.length = 0
        · rw [h3] at h
          cases h
          exact ⟨by omega, rfl⟩
        · rw [List.getElem?_eq_none (by simp; omega)] at h; cases h
  have at_n : (compσ m js σ a)[m + js.length]? = some (some (.ref a)) := by
    unfold compσ
    rw [List.append_assoc, List.getElem?_append_right (by simp), List.getElem?_append_right (by simp)]
    simp
  have owned : ∀ b, Owned (compE im m js env) (compσ m js σ a) b → b = a := fun b ⟨i, d, h1, h2⟩ => by
    obtain ⟨rfl, rfl⟩ := own1 i d h1
    rw [at_n] at h2; cases h2; rfl
  have sm : Same H (upd H a (.lst [])) := Same.upd ha
  refine ⟨by simp [compE, compσ], sm, fun c z => ⟨(k.new c z).2, fun _ => (k.new c z).1⟩, fun i d h => ?_, fun i d h => ?_, fun i j d e b h1 h2 h3 h4 => (own1 i d h1).1.trans (own1 j e h2).1.symm⟩
  · unfold compE at h
    by_cases h1 : i < m
    · rw [List.append_assoc, List.getElem?_append_left (by simpa using h1), List.getElem?_replicate] at h
      split at h <;> cases h
    · rw [List.append_assoc, List.getElem?_append_right (by simpa using h1)] at h
      simp only [List.length_replicate] at h
      by_cases h2 : i - m < js.length
      · rw [List.getElem?_append_left (by simpa using h2), List.getElem?_map] at h
        cases e : js[i - m]? with
        | none => rw [e] at h; cases h
        | some j =>
          rw [e] at h
          have h' : capS im env j = .shr d := Option.some.inj h
          have hσ : (compσ m js σ a)[i]? = some ((σ[j]?).join) := by
            unfold compσ
            rw [List.append_assoc, List.getElem?_append_right (by simpa using h1)]
            simp only [List.length_replicate]
            rw [List.getElem?_append_left (by simpa using h2), List.getElem?_map, e]
            rfl
          have fin : ∀ v, σ[j]? = some (some v) → Rep K (Gc im G env σ) H v d → ∃ v, (compσ m js σ a)[i]? = some (some v) ∧ Rep K (Sf (Gc im G env σ) (compE im m js env) (compσ m js σ a)) (upd H a (.lst [])) v d := fun v e1 r => by
            refine ⟨v, by rw [hσ, e1]; rfl, (r.inDom.grow sm).weak fun b z => ⟨fun o => ?_, z.1⟩⟩
            rw [owned b o] at z
            exact z.2 ha
          unfold capS at h'
          split at h'
          · rename_i d' hd; cases h'
            obtain ⟨v, h3, h4⟩ := k.shr j d hd
            exact fin v h3 (h4.weak fun c z => ⟨z.2, fun _ => z.1⟩)
          · rename_i d' hd
            split at h'
            · rename_i hi'
              cases h'
              obtain ⟨v, h3, h0, h4⟩ := k.own j d hd
              exact fin _ h3 (h4.rep (fun c z => ⟨⟨z.2, fun _ => z.1⟩, own_ne k hd h3 c z⟩) ⟨k.g0 _ h0, fun z => by rw [hi'] at z; cases z⟩)
            · cases h'
          · cases h'
      · rw [List.getElem?_append_right (by simpa using h2)] at h
        simp only [List.length_map] at h
        by_cases h3 : i - m - js.length = 0
        · rw [h3] at h
          cases h
        · rw [List.getElem?_eq_none (by simp; omega)] at h; cases h
  · obtain ⟨rfl, rfl⟩ := own1 i d h
    exact ⟨a, at_n, ha, .lst upd_same .nil⟩

theorem comp_core (use : Option (Value → Sem Unit)) (Q' : Value → Shared → Prop) (im : Bool) (N : List Str) (m : Nat) (js : List Nat) (S : CompSc X scope cl N m js) (hc : X.calm = true) (hi : PI X tg iter (tI X.K fi))
    (hb : ∀ (C : Addr) (s : Shared) (H : Hp) (fp : List Addr), PG (cxComp X N scope cl C s H fp) tg (tG X.K t) ∧ DTs (cxComp X N scope cl C s H fp) ifs c ∧ PE (cxComp X N scope cl C s H fp) elt (tE X.K .s fe))
    (hs : ∀ x, foldedSetIterable iter X.env x = pure x) {pins : List (Addr × Obj)} {s : Shared} {σ : L2.St} {H : Hp} {G : Addr → Prop} {H0 : Hp} {env : Sl} {d : D} (I : Inv X pins σ H s) (k : EnvOk X.K G H0 env σ H) (ef : compO im m js fi t c fe env = .ok d)
    (hend : ∀ (a C : Addr) (s' : Shared) (H' : Hp) (mm : Str → Option Value) (r : Flow), s'.heap.Ns C mm → (∀ h', Heap.SameBut C s'.heap h' → Inv X pins σ H' { s' with heap := h' }) → FpOk X pins H' C → Same H H' → Rep X.K (Sf G env σ) H' (.ref a) d → NewTop H (.ref a) → compPost (model X.prog X.w) X.A X.xe use Q' (.ref a) C (.ok r) s') :
    wpAny (model X.prog X.w) X.A (comprehension (.ListComp elt [⟨tg, iter, ifs, 0⟩] scope pos) scope X.env (firstIterPos [⟨tg, iter, ifs, 0⟩] pos) (newList []) (firstAsync [⟨tg, iter, ifs, 0⟩]) (firstIter [⟨tg, iter, ifs, 0⟩] X.env) use) Q' X.xe s := by
 with_unfolding_all exact (by
  obtain ⟨ds, e1, ef⟩ := bind_inv ef
  obtain ⟨envF, e2, ef⟩ := bind_inv ef
  obtain ⟨accF, e3, e4⟩ := bind_inv ef
  obtain ⟨himF, e4⟩ := must_inv e4
  cases e4
  refine wpAny_comprehension_free (use := use) rfl hs S.clos S.kind S.names ?_
  refine thn (hi pins s σ H (fun J H1 => ∃ P, Same H H1 ∧ WalkD X.K (Sf G env σ) H1 J ds P ∧ P H1 ∧ ∀ env' σ' H', Frm env σ H1 env' σ' H' → P H') I ⟨G, H0, env, ds, k, e1, fun J H1 P a b c' d' => ⟨P, a, b, c', d'⟩⟩) fun v s1 h1 => thn h1 fun itv s2 h2 => ?_
  obtain ⟨it, fp, tn, J, H2, rfl, I2, T, st2, f2, P, sm, wk, p0, pst⟩ := h2
  have k2 := k.grow sm
  refine wpAny_newObj_type (wpAny_newFunctionEnv S.nocell (by intro y hy; simp at hy) (fun h₁ hns₁ hsb₁ => ?_) S.kind)
  dsimp only at hns₁ hsb₁ ⊢
  have hfr : H2 s2.heap.objs.size = none := I2.hok.fresh (Nat.le_refl _)
  let a := s2.heap.objs.size
  have ha : H2 a = none := hfr
  have I3 : Inv X pins σ (upd H2 a (.lst [])) { s2 with heap := s2.heap.push { cls := .type "list", dict := none, data := .seq ([] : List Value).toArray } } := I2.lnew (t' := s2.toks) (its := []) .nil (Nat.zero_le _)
  let s3 : Shared := { s2 with heap := s2.heap.push { cls := .type "list", dict := none, data := .seq ([] : List Value).toArray } }
  let C := s3.heap.objs.size
  have f3 : ∀ b ∈ fp, FpOk X pins (upd H2 a (.lst [])) b := fun b hb' => by
    obtain ⟨z0, z⟩ := f2 b hb'
    refine ⟨?_, z⟩
    have hb2 : b ≠ a := by
      obtain ⟨o, ho, _⟩ := T.obj 0 _ st2 b hb'
      exact Nat.ne_of_lt (Heap.lt_size ho)
    rw [upd_ne hb2]; exact z0
  have hfp : ∀ b ∈ fp, b < s3.heap.objs.size := fun b hb' => by
    obtain ⟨o, ho, _⟩ := T.obj 0 _ st2 b hb'
    refine Nat.lt_of_lt_of_le (Heap.lt_size ho) ?_
    show s2.heap.objs.size ≤ (s2.heap.push { cls := .type "list", dict := none, data := .seq ([] : List Value).toArray }).objs.size
    rw [Heap.size_push]; exact Nat.le_succ _
  have XO := comp_ok (C := C) S hc I3 (Nat.le_refl _) f3 hfp
  obtain ⟨DGt, DTc, DEe⟩ := hb C s3 (upd H2 a (.lst [])) fp
  have old : ∀ b o, s3.heap.get? b = some o → h₁.get? b = some o := fun b o e => hsb₁.extBut b o (Nat.ne_of_lt (Heap.lt_size e)) (Heap.get?_push_of_some _ e)
  have I4 : Inv (cxComp X N scope cl C s3 (upd H2 a (.lst [])) fp) [] (compσ m js σ a) (upd H2 a (.lst [])) { s2 with heap := h₁, toks := s2.toks + ([] : List (Str × Value)).length } := by
    refine ⟨XO, rfl, I3.bare, Un.kept old, ⟨_, hns₁, fun i y v' h1 h2 h3 => ?_⟩, fun y c' h => ?_, I3.hok.fresh (Nat.le_refl _), fun y c' h => I3.freeC y c' (S.cls y c' h), fun p hp => absurd hp (by simp [cxComp]), I3.hok.kept old, ?_⟩
    · -- a captured name
      have hN1 : N[i]? = some y := h1
      unfold compσ at h2
      by_cases q1 : i < m
      · rw [List.append_assoc, List.getElem?_append_left (by simpa using q1), List.getElem?_replicate] at h2
        split at h2 <;> cases h2
      · rw [List.append_assoc, List.getElem?_append_right (by simpa using q1)] at h2
        simp only [List.length_replicate] at h2
        by_cases q2 : i - m < js.length
        · rw [List.getElem?_append_left (by simpa using q2), List.getElem?_map] at h2
          cases e : js[i - m]? with
          | none => rw [e] at h2; cases h2
          | some j =>
            rw [e] at h2
            have h2' : (σ[j]?).join = some v' := Option.some.inj h2
            have hj : σ[j]? = some (some v') := by
              cases z : σ[j]? with
              | none => rw [z] at h2'; cases h2'
              | some w' => rw [z] at h2'; simp at h2'; rw [h2']
            obtain ⟨y', g1, g2, g3, g4⟩ := S.cap (i - m) j e
            have ey : y' = y := by
              rw [show m + (i - m) = i by omega, hN1] at g1
              exact (Option.some.inj g1).symm
            subst ey
            obtain ⟨mm, hn, hl⟩ := I3.loc
            have vis : Vis X.env.scope y' := by
              rcases g3 with z | z
              · exact .inr (.inl z)
              · exact .inr (.inr z)
            obtain ⟨u, ru, lk⟩ := hl j y' v' g2 hj vis
            refine ⟨u, ru, .inr ⟨?_, ?_⟩⟩
            · rcases h3 with z | z
              · exfalso
                obtain ⟨k', m1, m2⟩ := relabel_mem (env := X.env) (names := scope.names) z
                have lk2 := S.names _ m1
                rcases m2 with w' | w'
                · subst w'
                  have := lk2 rfl
                  rw [g4] at this; cases this
                · subst w'
                  have : ∀ {names : List (Str × NameKind)}, names.lookup y' = some .free → (names.map fun (n, k) => if (k == NameKind.free && X.env.scope.kind == .function && X.env.kindOf n == some .cell) then (n, NameKind.cell) else (n, k)).lookup y' ≠ some .local := by
                    intro names
                    induction names with
                    | nil => intro h; cases h
                    | cons p r ih =>
                      obtain ⟨n, kk⟩ := p
                      intro h h'
                      have h'' : List.lookup y' ((if (kk == NameKind.free && X.env.scope.kind == .function && X.env.kindOf n == some .cell) = true then (n, NameKind.cell) else (n, kk)) :: (r.map fun (n, k) => if (k == NameKind.free && X.env.scope.kind == .function && X.env.kindOf n == some .cell) then (n, NameKind.cell) else (n, k))) = some .local := h'
                      simp only [List.lookup_cons] at h
                      cases hx : y' == n with
                      | true =>
                        rw [hx] at h
                        cases h
                        split at h'' <;> simp [List.lookup_cons, hx] at h''
                      | false =>
                        rw [hx] at h
                        split at h'' <;> (simp only [List.lookup_cons, hx] at h''; exact ih h h'')
                  exact this g4 z
              · exact z
            · rcases lk with ⟨kk, _⟩ | ⟨kk, c', hc', cell'⟩
              · exfalso
                have kk' : X.env.scope.names.lookup y' = some .local := kk
                rcases g3 with z | z <;> (rw [z] at kk'; cases kk')
              · obtain ⟨c2, hc2⟩ := S.free (y', .free) (PySem.mem_of_lookup g4) rfl
                have : c2 = c' := by
                  have := S.cls _ _ hc2
                  rw [hc'] at this
                  exact (Option.some.inj this).symm
                subst this
                obtain ⟨o, ho, hd⟩ := cell'
                exact ⟨c2, hc2, o, old _ _ ho, hd⟩
        · exfalso
          have hi' : i = m + js.length := by
            have hl : i < N.length := (List.getElem?_eq_some_iff.mp hN1).1
            rw [S.len] at hl
            omega
          subst hi'
          have no := S.last y hN1
          rcases h3 with z | z | z <;>
          · obtain ⟨k', m1, _⟩ := relabel_mem (env := X.env) (names := scope.names) z
            exact no _ m1 rfl
    · obtain ⟨v', o, ho, hd⟩ := I3.cell y c' (S.cls y c' h)
      exact ⟨v', o, old _ _ ho, hd⟩
    · show (compσ m js σ a).length = N.length
      rw [S.len]; simp [compσ]; omega
  have kC : EnvOk X.K (Gc im G env σ) H2 (compE im m js env) (compσ m js σ a) (upd H2 a (.lst [])) := env_comp k2 ha
  have fC : ∀ b ∈ fp, FpOk (cxComp X N scope cl C s3 (upd H2 a (.lst [])) fp) [] (upd H2 a (.lst [])) b := fun b hb' => by
    obtain ⟨z0, z1, z2, z3, z4, z5⟩ := f3 b hb'
    exact ⟨z0, (XO.exf b hb').1, XO.exfs b hb', .inl hb', (XO.exf b hb').2, fun p hp => absurd hp (by simp [cxComp])⟩
  have stC : tn 0 h₁ := T.keep 0 _ _ st2 fun b hb' o e => old b o (Heap.get?_push_of_some _ e)
  have loop : codeAny (model X.prog X.w) X.A (.compLoop (.ListComp elt [⟨tg, iter, ifs, 0⟩] scope pos) 0 (.ref it) (.ref a) (compEnvC scope cl C X.env))
      (compPost (model X.prog X.w) X.A X.xe use Q' (.ref a) C) { s2 with heap := h₁, toks := s2.toks + ([] : List (Str × Value)).length } := by
    refine compLoop_any (fun n s' => ∃ i σ' H' env', n = ds.length + 1 - i ∧ i ≤ ds.length ∧ Inv (cxComp X N scope cl C s3 (upd H2 a (.lst [])) fp) [] σ' H' s' ∧ tn i s'.heap ∧ (∀ b ∈ fp, H' b = none) ∧ (∀ b, Owned env' σ' b → b = a) ∧
        EnvOk X.K (Gc im G env σ) H2 env' σ' H' ∧ Frm (compE im m js env) (compσ m js σ a) (upd H2 a (.lst [])) env' σ' H' ∧ compD (m + js.length) t c fe (ds.drop i) env' = .ok envF) ?_ (ds.length + 1)
      ⟨0, _, _, _, rfl, Nat.zero_le _, I4, stC, fun b hb' => (fC b hb').1, ?_, kC, Frm.refl (Same.refl _), by simpa using e2⟩
    · rintro n s' ⟨i, σ', H', env', rfl, hi', Ic, st, fr, hs', kc, fc, ec⟩
      have hP : P H' := pst env σ H' (Frm.refl kc.base)
      obtain ⟨w1, w2, w3⟩ := wk i H' hP
      have fpk : ∀ {H' : Hp}, (∀ b ∈ fp, H' b = none) → ∀ b ∈ fp, FpOk (cxComp X N scope cl C s3 (upd H2 a (.lst [])) fp) [] H' b := fun hn b hb' => ⟨hn b hb', (fC b hb').2⟩
      by_cases hlt : i < ds.length
      · have hd : i < ds.length := by omega
        rw [List.drop_eq_getElem_cons hd] at ec
        obtain ⟨env1, e5, ec⟩ := bind_inv ec
        obtain ⟨b, e6, ec⟩ := bind_inv ec
        refine thn (T.item (cxComp X N scope cl C s3 (upd H2 a (.lst [])) fp) rfl rfl rfl rfl i [] s' σ' H' (fun _ _ => False) Ic (fpk fr) st (w1 hlt)) fun r s4 ⟨u, hr, h4⟩ => ?_
        subst hr
        refine thn h4 fun _ s5 ⟨x, H5, I5, r5, y5, st5, fr5⟩ => ?_
        have wkA : ∀ b, (Sf G env σ b ∧ H2 b ≠ none) → Sf (Gc im G env σ) env' σ' b := fun b z => ⟨fun o => (by
          rw [hs' b o] at z
          exact z.2 ha), z.1.2, fun _ => z.1.1⟩
        obtain ⟨sm5, rd'⟩ : Same H' H5 ∧ Rep X.K (Sf (Gc im G env σ) env' σ') H5 x ds[i] := by
          rcases w2 _ (List.getElem?_eq_getElem hd) x H5 y5 with ⟨rfl, rd⟩ | ⟨p, vs, es, hp, rfl, rfl, ed, rds⟩
          · exact ⟨Same.refl _, (rd.inDom.grow kc.base).weak wkA⟩
          · refine ⟨Same.upd hp, ?_⟩
            rw [ed]
            exact .tup upd_same (((rds.inDom.grow kc.base).weak wkA).grow (Same.upd hp))
        have kc5 := kc.grow sm5
        have I5' := I5.pinned (fpk fr5) (T.obj _ _ st5)
        refine thn (DGt _ s5 σ' H5 x u (fun σ1 Hn => Hn = H5 ∧ EnvOk X.K (Gc im G env σ) H2 env1 σ1 H5 ∧ Frm env' σ' H5 env1 σ1 H5) I5' r5 ⟨_, H2, env', ds[i], env1, kc5, rd', e5, fun σ1 k1 f1 => ⟨rfl, k1, f1⟩⟩) fun _ s6 ⟨σ6, H6, I6, z6, k6, ff6⟩ => ?_
        subst z6
        have ow6 : ∀ b, Owned env1 σ6 b → b = a := fun b o => by
          rcases ff6.more b o with z | z
          · exact hs' b z
          · obtain ⟨uu, hu⟩ := k6.there o
            rw [z] at hu; cases hu
        refine thn (DTc _ s6 σ6 H6 (fun b' Hn => b' = b ∧ Same H6 Hn) I6 ⟨_, H2, env1, b, k6, e6, fun Hn sn => ⟨rfl, sn⟩⟩) fun ok s7 ⟨H7, I7, z7, sm7⟩ => ?_
        subst z7
        have k7 := k6.grow sm7
        have fr7 := ((fc.trans (Frm.refl sm5)).trans ff6).trans (Frm.refl sm7)
        have out : ∀ {s8 : Shared} {σ8 : L2.St} {H8 : Hp} {env8 : Sl}, Inv (cxComp X N scope cl C s3 (upd H2 a (.lst [])) fp) ([] ++ pinsAt fp s5.heap) σ8 H8 s8 → (∀ b, Owned env8 σ8 b → b = a) → EnvOk X.K (Gc im G env σ) H2 env8 σ8 H8 →
            Frm (compE im m js env) (compσ m js σ a) (upd H2 a (.lst [])) env8 σ8 H8 → compD (m + js.length) t c fe (ds.drop (i + 1)) env8 = .ok envF →
            ∃ mm, mm < ds.length + 1 - i ∧ ∃ i σ' H' env', mm = ds.length + 1 - i ∧ i ≤ ds.length ∧ Inv (cxComp X N scope cl C s3 (upd H2 a (.lst [])) fp) [] σ' H' s8 ∧ tn i s8.heap ∧ (∀ b ∈ fp, H' b = none) ∧ (∀ b, Owned env' σ' b → b = a) ∧
              EnvOk X.K (Gc im G env σ) H2 env' σ' H' ∧ Frm (compE im m js env) (compσ m js σ a) (upd H2 a (.lst [])) env' σ' H' ∧ compD (m + js.length) t c fe (ds.drop i) env' = .ok envF := by
          intro s8 σ8 H8 env8 I8 ow8 k8 f8 e8
          refine ⟨ds.length + 1 - (i + 1), by omega, i + 1, σ8, H8, env8, rfl, hlt, I8.unpinned, T.keep _ _ _ st5 fun b hb' o e => (I8.pin (b, o) (List.mem_append_right _ (List.mem_append_right _ (mem_pinsAt hb' e)))).1, fun b hb' => ?_, ow8, k8, f8, e8⟩
          obtain ⟨o, e, _⟩ := T.obj _ _ st5 b hb'
          exact (I8.pin (b, o) (List.mem_append_right _ (List.mem_append_right _ (mem_pinsAt hb' e)))).2.1
        cases ok with
        | false =>
          rw [if_neg Bool.false_ne_true] at ec ⊢
          exact out I7 ow6 k7 fr7 ec
        | true =>
          rw [if_pos rfl] at ec ⊢
          obtain ⟨vd, e7, ec⟩ := bind_inv ec
          obtain ⟨acc, e8, ec⟩ := bind_inv ec
          obtain ⟨hz, ec⟩ := must_inv ec
          refine thn (DEe _ s7 σ6 H7 (fun y Hn => Same H7 Hn ∧ Rep X.K (Sf (Gc im G env σ) env1 σ6) Hn y vd) I7 ⟨_, H2, env1, vd, k7, e7, fun y Hn sn rn _ => ⟨sn, rn⟩⟩) fun yv s8 ⟨y, H8, I8, ry, sm8, rep8⟩ => ?_
          have k8 := k7.grow sm8
          have hi8 := ownL_inv e8
          obtain ⟨a8, xs8, ha8, hx8, rs8⟩ := own_list k8 hi8
          have ea : a8 = a := ow6 a8 ⟨_, _, hi8, ha8⟩
          subst ea
          have W := k8.write hi8 ha8 hx8 (xs' := xs8 ++ [y]) (ds' := acc ++ [vd]) (rs8.append (.cons rep8 .nil))
          refine thn (mt_append (X := cxComp X N scope cl C s3 (upd H2 a (.lst [])) fp) _ s8 σ6 H8 (.ref a) [y] (.ref a) [yv] (fun _ Hn => Hn = upd H8 a (.lst (xs8 ++ [y]))) I8 rfl (.cons ry .nil)
            ⟨a, xs8, y, rfl, rfl, hx8, by rw [rs8.length]; exact hz, rfl⟩) fun _ s9 ⟨_, H9, I9, _, z9⟩ => ?_
          subst z9
          exact out I9 (fun b o => ow6 b ((owned_same hi8).mp o)) W.1 ((fr7.trans (Frm.refl sm8)).trans W.2) ec
      · have he : i = ds.length := by omega
        rw [List.drop_eq_nil_of_le (by omega)] at ec
        cases ec
        refine thn (T.done (cxComp X N scope cl C s3 (upd H2 a (.lst [])) fp) rfl rfl rfl rfl i [] s' σ' H' (fun _ _ => False) Ic (fpk fr) st (w3 (by omega))) fun r s4 ⟨hr, I5⟩ => ?_
        subst hr
        have hiF := ownL_inv e3
        obtain ⟨aF, xsF, haF, hxF, rsF⟩ := own_list kc hiF
        have ea : aF = a := hs' aF ⟨_, _, hiF, haF⟩
        subst ea
        obtain ⟨mm, hn, _⟩ := I5.loc
        refine hend a C s4 H' mm _ hn (fun h' hsb => ?_) (I3.fpOk (Nat.le_refl _) I5.free) (sm.trans kc.base) (.lst hxF (k.new a (Same.free sm ha)) ?_) (new_top sm ha)
        rotate_left
        · cases him : im with
          | true => exact rsF.imm (himF him)
          | false => exact rsF.weak fun c z => ⟨⟨z.2.2 him, z.2.1⟩, own_ne kc hiF haF c z⟩
        have nC : ∀ b o, H' b = some o → b ≠ C := fun b o e z => by
          have := I5.free
          rw [z] at e
          have e' : H' C = none := this
          rw [e] at e'; cases e'
        have B := I5.base
        have ltC : ∀ b o, s3.heap.get? b = some o → b ≠ C := fun b o e => Nat.ne_of_lt (Heap.lt_size e)
        have U : Un (frs X.stack) fp (upd H2 a (.lst [])) H' s3.heap h' := ⟨fun b o e n hb' hx' => (hsb.2 b (ltC b o e)).trans (B.keep b o e n hb' hx'),
          fun b o e n hb' hx' => let ⟨sl, z⟩ := B.slot b o e n hb' hx'; ⟨sl, (hsb.2 b (ltC b o e)).trans z⟩, B.free,
          fun b o e hx' => let ⟨o', z⟩ := B.there b o e hx'; ⟨o', (hsb.2 b (ltC b o e)).trans z⟩, B.tups, B.frzs, B.tbls⟩
        refine Inv.call' (ch := fp) I3 I5.os U (fun b o e => (I5.hok b o e).stay (fun c' u hc' qq => (hsb.2 c' ?_).trans qq) (fun _ z => z) fun _ _ z => z) I5.bare (fun b hb' => ?_)
        · rcases hc' with z | z
          · rw [z]; exact nC b o e
          · exact nC c' _ z
        · obtain ⟨z0, z1, z2, z3, z4, z5⟩ := f3 b hb'
          exact ⟨z3, z1, z4, z5⟩
    · exact fun b o => comp_owned o
  exact codeAny_compStart_list loop (T.self _ 0 _ _ _ stC loop))

theorem de_comp (im : Bool) (N : List Str) (m : Nat) (js : List Nat) (S : CompSc X scope cl N m js) (hc : X.calm = true) (hi : DI X tg iter fi)
    (hb : ∀ (C : Addr) (s : Shared) (H : Hp) (fp : List Addr), DG (cxComp X N scope cl C s H fp) tg t ∧ DTs (cxComp X N scope cl C s H fp) ifs c ∧ DE (cxComp X N scope cl C s H fp) .s elt fe)
    (hs : ∀ x, foldedSetIterable iter X.env x = pure x := by intro _; rfl) :
    DE X .t (.ListComp elt [⟨tg, iter, ifs, 0⟩] scope pos) (compO im m js fi t c fe) := by
 with_unfolding_all exact (by
  intro pins s σ H Q I ⟨G, H0, env, d, k, ef, q⟩
  rw [eval_ListComp]
  exact comp_core none (EP X pins σ Q) im N m js S hc hi hb hs I k ef fun a C s' H' mm r hn hinv hfp sm rep nt => ⟨mm, hn, fun h' hsb => ⟨.ref a, H', hinv h' hsb, rfl, q _ H' sm rep nt⟩⟩)
end
end M

set_option Elab.async false
set_option linter.all false
set_option maxRecDepth 100000
set_option maxHeartbeats 4000000
namespace M
open PySem PySem.Spec L2
open PyProof.Rows hiding St

def startE (n : Nat) (ds : List D) : Sl := ds.map .shr ++ List.replicate (n - ds.length) .un
theorem env_start {K : PySem.W.Frag} {B : Addr → Prop} {N : List Str} {vs : List V} {ds : List D} {H : Hp} (r : Reps K B H vs ds) : EnvOk K (fun a => H a = none ∨ B a) H (startE N.length ds) (start N vs) H := by
  have hl := r.length
  have no : ∀ (i : Nat) (d : D), (startE N.length ds)[i]? ≠ some (.own d) := fun i d h => by
    unfold startE at h
    by_cases q : i < ds.length
    · rw [List.getElem?_append_left (by simpa using q), List.getElem?_map] at h
      cases e : ds[i]? with
      | none => rw [e] at h; cases h
      | some x => rw [e] at h; cases h
    · rw [List.getElem?_append_right (by simpa using q), List.getElem?_replicate] at h
      split at h <;> cases h
  refine ⟨by simp [L2.start, startE, hl], Same.refl H, fun _ z => .inl z, fun i d h => ?_, fun i d h => (no i d h).elim, fun i j d e a h => (no i d h).elim⟩
  unfold startE at h
  by_cases q : i < ds.length
  · rw [List.getElem?_append_left (by simpa using q), List.getElem?_map] at h
    cases e : ds[i]? with
    | none => rw [e] at h; cases h
    | some x =>
      rw [e] at h
      cases h
      obtain ⟨v, h1, h2⟩ := r.get e
      refine ⟨v, ?_, h2.weak fun a z => ⟨fun o => ?_, .inr z⟩⟩
      · unfold L2.start
        rw [List.getElem?_append_left (by simp; omega), List.getElem?_map, h1]
        rfl
      · obtain ⟨i', d', z, _⟩ := o
        exact no i' d' z
  · rw [List.getElem?_append_right (by simpa using q), List.getElem?_replicate] at h
    split at h <;> cases h
section
variable {P : Program} {w : World} {K : PySem.W.Frag} {mg : Str → Option Value} {base : Heap}
def Meets (fr : Bool) (n : Nat) (g : Sl → Res Out) (ds : List D) (d : D) : Prop := (∃ fr', g (startE n ds) = .ok (.rt fr' d) ∧ (fr = true → fr' = true)) ∨ (d = .non ∧ ∃ env', g (startE n ds) = .ok (.nx env'))
theorem fn_ok {x qual : Str} {st : Stmt} {f : Addr} {fd : FuncData} {N ps : List Str} {k : Nat} {fr : Bool} {F : List D → Res D} {g : Sl → Res Out} (Fu : Fun K x qual st f fd) (S : FnScope N ps (defScope st))
    (hb : ∀ (cdv : Value) (A : Around) (outer : List Env) (s : Shared) (H : Hp) (E : XK), Room k (A.deeper (envOfC qual (defScope st) s.heap.objs.size f cdv)) → DSs (cxOf CX0 P w K mg base N qual (defScope st) f cdv A outer s H E).nox (defBody st) g)
    (hF : ∀ ds d, ds.length = ps.length → F ds = .ok d → Meets fr N.length g ds d) :
    FnOk P w K mg base CX0 (k + 1) f fd ps (spF K fr ps.length F) := by
 with_unfolding_all exact (by
  refine Fu.ok S (fun vs H Q E ⟨B, ds, d, hl, _⟩ => hl) (fun cdv A outer s H vs Q E hr h => ?_)
  obtain ⟨B, ds, d, hl, r, e, q⟩ := h
  refine ⟨_, hb cdv A outer s H E hr, ?_⟩
  have kk := env_start (N := N) r
  rcases hF ds d (by rw [← r.length]; exact hl) e with ⟨fr', z, hf⟩ | ⟨rfl, env', z⟩
  · exact ⟨_, H, _, _, kk, z, fun v H' s r nt => q v H' s r fun hh => nt (hf hh)⟩
  · exact ⟨_, H, _, _, kk, z, fun σ' H' k' f' => q .non H' k'.base .non fun _ a e => by cases e⟩)
end

open PySem.W in
theorem bits_of {ns : List Int} (h : WData.layableAll [WData.list (ns.map WData.int)] = true) : ∀ n ∈ ns, Builtin.Int.intBits n ≤ 2 ^ 20 := fun n hn => by
  have h1 := layableW_arg h _ List.mem_cons_self
  have h2 := layableW_item h1 (.int n) (List.mem_map.mpr ⟨n, hn, rfl⟩)
  have h3 := (layableW_iff.mp h2).2.2
  simpa only [WData.weight, Builtin.Int.intBits] using h3
open PySem.W PySem.Calls Att in
theorem attach_bits {l : OpenLaw} {n : Nat} {q : Program} {loose : List Str} {XP : (Str → Option Value) → Heap → Prop} {YP : World → Heap → Prop} {d : DefRec}
    (hn : l.most = some n) (hdf : d.params.defaults = [])
    (call : ∀ (w : World) (s₀ s₁ : Shared) (mg mb : Str → Option Value) (fa : Addr) (o : Obj) (pm cd doc : Value) (a : Addr) (vs : List Value) (ns : List Int),
      Ground q loose [] XP w s₀ mg mb s₁.heap → YP w s₁.heap →
      s₁.heap.get? fa = some o → o.data = .func (docDef d.name d.params d.body d.scope pm cd doc) → s₁.heap.CodeRec cd d.name → mg d.name = some (.ref fa) →
      s₁.heap.get? a = some { cls := .type "list", data := .seq vs.toArray } → IntsAre vs ns → ns.length ≤ n → (∀ n ∈ ns, Builtin.Int.intBits n ≤ 2 ^ 20) → s₁.gens = #[] →
      codeAny (model l.prog w) callerA (.call (.ref fa) ⟨[.ref a], []⟩) (fun r s' => r = .ok (.ret (.bool true)) ∧ OldK s₁.heap s'.heap ∧ s'.os = s₁.os ∧ AllBare s'.gens) s₁) :
    WalkO q loose XP YP l.row.toRowW d [] (fun f vs => PySem.call f vs) := by
  intro w s₀ s₁ mg mb G Y fa o pm cd doc dV kV ho hd hcd hD hmg hg args vals as hpre hlay hrd hwl hlo
  obtain rfl : dV = .none := Dflts.none hD hdf
  obtain rfl : kV = .none := Dflts.noKw hD
  obtain ⟨a, vs, ns, rfl, rfl, hobj, hints, hlen⟩ := script_of hn hpre hwl
  refine enter_call (codeAny_mono (call w s₀ s₁ mg mb fa o pm cd doc a vs ns G Y ho (fd_plain hd) hcd hmg hobj hints hlen (bits_of hlay) hg) fun r s' hq => ?_)
  obtain ⟨rfl, h2, h3, h4⟩ := hq
  exact ⟨.inl ⟨.bool true, .bool true, [], rfl, fun _ => rfl, .bool true, post_true l _, fun _ => ⟨List.Pairwise.nil, fun _ hm => (nomatch hm)⟩⟩, h2, h3, h4⟩
theorem only_lsk {K : PySem.W.Frag} {H : Hp} {a : Addr} {xs : List V} (hO : Only H) (h : SqL K H a xs) : LsK K H a xs := by
  rcases h with (h | h) | h
  · rcases hO a with z | ⟨o, ys, z⟩
    · rw [z] at h; cases h
    · rw [z] at h; cases h
  · exact .inl h
  · exact .inr h
theorem ints_rep {K : PySem.W.Frag} {A : Addr → Prop} {H : Hp} : ∀ ns : List Int, Reps K A H (ns.map V.int) (ns.map D.int)
  | [] => .nil
  | n :: r => .cons (.int n) (ints_rep r)
theorem walk_law {l : PySem.W.OpenLaw} {n k : Nat} {q : Program} {loose : List Str} {XP : (Str → Option Value) → Heap → Prop} {YP : World → Heap → Prop} {d : DefRec} {K : Params → PySem.W.Frag} {F : List D → Res D} {x : Str}
    (hn : l.most = some n) (hn2 : n ≤ sizeLine) (hdf : d.params.defaults = []) (hr : Room k callerA)
    (hY : ∀ (w : World) (h : Heap), YP w h → (K w.params).In h)
    (hF : ∀ (w : World) (mg : Str → Option Value) (fa : Addr) (h : Heap), (K w.params).In h → h.Ns mainGlobals mg → mg d.name = some (.ref fa) →
      ∃ fd : FuncData, (∀ (s : Shared) (u : Value), BindsTo s fd ⟨[u], []⟩ [(x, u)]) ∧
        ∀ base : Heap, (K w.params).In base → base.Ns mainGlobals mg → FnOk l.prog w (K w.params) mg base CX0 k fa fd [x] (spF (K w.params) true 1 F))
    (ht : ∀ ns : List Int, ns.length ≤ n → (∀ i ∈ ns, Builtin.Int.intBits i ≤ 2 ^ 20) → F [.scr (ns.map D.int)] = .ok (.bl true)) :
    PySem.W.WalkO q loose XP YP l.row.toRowW d [] (fun f vs => PySem.call f vs) := by
  refine attach_bits hn hdf fun w s₀ s₁ mg mb fa o pm cd doc a vs ns G Y ho hd hcd hmg hobj hints hlen hbits hg => ?_
  have KX := hY w _ Y
  obtain ⟨fd, hb, hFn⟩ := hF w mg fa _ KX G.T.g hmg
  refine law_call KX G.T.g G.T.b G.T.builtins G.T.nolimit hg hobj hints (Nat.le_trans hlen hn2) hr hFn hb (fun H hO hS => ?_) fun H e s' h => h
  exact ⟨Any, _, _, rfl, .cons (.lsk (only_lsk hO hS) (ints_rep ns)) .nil, ht ns hlen hbits, fun v H' _ r _ => r.blE⟩
end M

set_option Elab.async false
set_option linter.all false
set_option maxRecDepth 100000
set_option maxHeartbeats 4000000
namespace M
open PySem PySem.Spec L2
open PyProof.Rows hiding St

section
variable {X : Cx} {K : PySem.W.Frag}
def iOp (C : Int → Int → Prop) [∀ i j, Decidable (C i j)] (g : Int → Int → D) : D → D → Res D
  | .int i, .int j => must (C i j) (.ok (g i j))
  | _, _ => .stuck
theorem iOp_inv {C : Int → Int → Prop} [∀ i j, Decidable (C i j)] {g : Int → Int → D} {a b d : D} (h : iOp C g a b = .ok d) : ∃ i j, a = .int i ∧ b = .int j ∧ C i j ∧ d = g i j := by
  unfold iOp at h
  split at h
  · obtain ⟨h1, h2⟩ := must_inv h
    cases h2
    exact ⟨_, _, rfl, rfl, h1, rfl⟩
  · cases h
theorem od_I {C C' : Int → Int → Prop} [∀ i j, Decidable (C i j)] {h : Int → Int → V} {g : Int → Int → D} (w : ∀ i j, C i j → C' i j) (r : ∀ i j, Sc K (h i j) (g i j)) : OpS K (rI C' h) (iOp C g) := by
  intro x y H a b d Q ra rb e q
  obtain ⟨i, j, rfl, rfl, hc, rfl⟩ := iOp_inv e
  exact ⟨i, j, ra.intE, rb.intE, w i j hc, q _ (r i j)⟩
abbrev TrueC : Int → Int → Prop := fun _ _ => True
instance : ∀ i j, Decidable (TrueC i j) := fun _ _ => inferInstanceAs (Decidable True)
theorem od_I0 {h : Int → Int → V} {g : Int → Int → D} (r : ∀ i j, Sc K (h i j) (g i j)) : OpS K (rI0 h) (iOp TrueC g) := by
  intro x y H a b d Q ra rb e q
  obtain ⟨i, j, rfl, rfl, hc, rfl⟩ := iOp_inv e
  exact ⟨i, j, ra.intE, rb.intE, q _ (r i j)⟩
theorem sc_top {v : V} {d : D} {H : Hp} (h : Sc K v d) : NewTop H v := fun a e => absurd e (h.2 a)

def addD : D → D → Res D
  | .int i, .int j => .ok (.int (i + j))
  | .str i, .str j => must (i.length + j.length ≤ sizeLine) (.ok (.str (i ++ j)))
  | .lst a, .lst b => must (a.length + b.length ≤ sizeLine) (.ok (.lst (a ++ b)))
  | .tup a, .tup b => must (a.isEmpty = false ∧ a.length + b.length ≤ sizeLine) (.ok (.tup (a ++ b)))
  | _, _ => .stuck
theorem op_addD : OpR X (binaryOp .Add) (fun x y H Q => rI0 (fun i j => .int (i + j)) x y H Q ∨ (∃ i j, x = .str i ∧ y = .str j ∧ i.length + j.length ≤ sizeLine ∧ Q (.str (i ++ j)) H) ∨ rCat x y H Q ∨ rCatT X.K x y H Q) :=
  op_add.or (op_add_str.or (op_cat.or op_catT))
theorem Reps.len_app {A : Addr → Prop} {H : Hp} {xs ys : List V} {a b : List D} (r : Reps K A H xs a) (s : Reps K A H ys b) (h : a.length + b.length ≤ sizeLine) : xs.length + ys.length ≤ sizeLine := by rw [r.length, s.length]; exact h
theorem orA {A : Addr → Prop} {H : Hp} : ∀ c, A c → (H c = none ∨ A c) := fun _ z => .inr z
theorem od_add : OpD K (fun x y H Q => rI0 (fun i j => .int (i + j)) x y H Q ∨ (∃ i j, x = .str i ∧ y = .str j ∧ i.length + j.length ≤ sizeLine ∧ Q (.str (i ++ j)) H) ∨ rCat x y H Q ∨ rCatT K x y H Q) addD := by
  intro A x y H a b d Q ra rb e q
  unfold addD at e
  split at e
  · cases e
    exact .inl ⟨_, _, ra.intE, rb.intE, q _ H (Same.refl H) (.int _) (sc_top (sc_int (K := K) _))⟩
  · obtain ⟨h1, h2⟩ := must_inv e
    cases h2
    have hl : ∀ i j : Str, i.length + j.length ≤ sizeLine → (i ++ j).length ≤ sizeLine := fun i j h => by rw [strLen_append]; exact h
    exact .inr (.inl ⟨_, _, ra.strE.1, rb.strE.1, h1, q _ H (Same.refl H) (.str _ (hl _ _ h1)) (sc_top (sc_str (K := K) _ (hl _ _ h1)))⟩)
  · obtain ⟨h3, h4⟩ := must_inv e
    cases h4
    obtain ⟨l, xs, rfl, hl, _, rx⟩ := ra.lstE
    obtain ⟨l', ys, rfl, hl', _, ry⟩ := rb.lstE
    refine .inr (.inr (.inl ⟨l, l', xs, ys, rfl, rfl, hl, hl', rx.low.len_app ry.low h3, fun p hp => q _ _ (Same.upd hp) ?_ (new_top (Same.refl H) hp)⟩))
    exact .lst upd_same (.inl hp) (((rx.low.append ry.low).laid hp).weak fun c z => ⟨.inr z.1, z.2⟩)
  · obtain ⟨⟨h3, h4⟩, h5⟩ := must_inv e
    cases h5
    obtain ⟨l, xs, rfl, hl, rx⟩ := ra.tupE
    obtain ⟨l', ys, rfl, hl', ry⟩ := rb.tupE
    refine .inr (.inr (.inr ⟨l, l', xs, ys, rfl, rfl, .of hl, .of hl', fun z => ?_, rx.len_app ry h4, fun z => ?_, fun z p hp => q _ _ (Same.upd hp) ?_ (new_top (Same.refl H) hp)⟩))
    · subst z; cases rx; cases h3
    · subst z
      cases ry
      rw [List.append_nil] at q
      refine q _ H (Same.refl H) (.tup hl (rx.weak orA)) fun a e o q' m => ?_
      cases e; rw [hl] at q'; cases q'; exact m
    · exact .tup upd_same (((rx.append ry).weak orA).grow (Same.upd hp))
  · cases e
theorem od_sub : OpS K (rI0 fun i j => .int (i - j)) (iOp TrueC fun i j => .int (i - j)) := od_I0 fun i j => sc_int _
abbrev MulC : Int → Int → Prop := fun i j => Builtin.Int.intBits i + Builtin.Int.intBits j ≤ 134217728
theorem op_mulB : OpR X (binaryOp .Mult) (rI MulC fun i j => .int (i * j)) := opI fun _ _ _ _ _ _ _ hc q => mul_int q (IntMulOk.of_le (Nat.le_refl _) (Nat.le_refl _) hc)
theorem od_mul : OpS K (rI MulC fun i j => .int (i * j)) (iOp MulC fun i j => .int (i * j)) := od_I (fun _ _ h => h) fun i j => sc_int _
abbrev DivC : Int → Int → Prop := fun _ j => 0 < j ∧ j < 1073741824
theorem od_fdiv : OpS K (rI CDiv fun i j => .int (i / j)) (iOp DivC fun i j => .int (i / j)) := od_I (fun _ _ h => h) fun i j => sc_int _
abbrev PosC : Int → Int → Prop := fun _ j => 0 < j
theorem od_mod : OpS K (rI (fun _ j => 0 < j) fun i j => .int (i % j)) (iOp PosC fun i j => .int (i % j)) := od_I (fun _ _ h => h) fun i j => sc_int _
abbrev PowC : Int → Int → Prop := fun i j => 0 ≤ j ∧ j ≤ 1000000 ∧ i.natAbs < 2 ^ 64
theorem od_pow : OpS K (rI CPow fun i j => .int (i ^ j.toNat)) (iOp PowC fun i j => .int (i ^ j.toNat)) := od_I (fun _ _ h => h) fun i j => sc_int _
theorem od_lt : OpS K (rI0 fun i j => .bl (decide (i < j))) (iOp TrueC fun i j => .bl (decide (i < j))) := od_I0 fun i j => sc_bl _
theorem od_gt : OpS K (rI0 fun i j => .bl (decide (j < i))) (iOp TrueC fun i j => .bl (decide (j < i))) := od_I0 fun i j => sc_bl _
def inS (i j : Str) : Bool := !(Builtin.Str.occurrences j i 0 j.length 1).isEmpty
def inD : D → D → Res D
  | .str i, .str j => .ok (.bl (inS i j))
  | _, _ => .stuck
def ninD : D → D → Res D
  | .str i, .str j => .ok (.bl (!inS i j))
  | _, _ => .stuck
def D.isNon : D → Bool
  | .non => true
  | _ => false
def isN : D → D → Res D
  | a, .non => .ok (.bl a.isNon)
  | _, _ => .stuck
theorem od_isN : OpS K (fun x y H Q => y = .non ∧ Q (.bl (decide (x = .non))) H) isN := by
  intro x y H a b d Q ra rb e q
  unfold isN at e
  split at e
  · cases e
    refine ⟨rb.nonE, ?_⟩
    have : decide (x = V.non) = a.isNon := by cases ra <;> simp [D.isNon]
    rw [this]
    exact q _ (sc_bl _)
  · cases e

def lenD : List D → Res D
  | [.lst ds] => .ok (.int ds.length)
  | [.scr ds] => .ok (.int ds.length)
  | [.tup ds] => .ok (.int ds.length)
  | [.str z] => .ok (.int z.length)
  | _ => .stuck
theorem call_lenA : CallR X (.builtin "len") (fun xs H Q => (∃ p ys, xs = [.ref p] ∧ (SqL X.K H p ys ∨ SqT X.K H p ys) ∧ Q (.int ys.length) H) ∨ (∃ z, xs = [.str z] ∧ z.length ≤ sizeLine ∧ Q (.int z.length) H)) := call_len_seq.or call_len_str
theorem cd_len : CallS K (fun xs H Q => (∃ p ys, xs = [.ref p] ∧ (SqL K H p ys ∨ SqT K H p ys) ∧ Q (.int ys.length) H) ∨ (∃ z, xs = [.str z] ∧ z.length ≤ sizeLine ∧ Q (.int z.length) H)) lenD := by
  intro xs H ds d Q r e q
  unfold lenD at e
  split at e
  · cases e
    obtain ⟨v, rfl, r1⟩ := r.one
    obtain ⟨p, ys, rfl, hp, _, ry⟩ := r1.lstE
    exact .inl ⟨p, ys, rfl, .inl (.of hp), by rw [ry.length]; exact q _ (sc_int _)⟩
  · cases e
    obtain ⟨v, rfl, r1⟩ := r.one
    obtain ⟨p, ys, rfl, hp, ry⟩ := r1.scrE
    exact .inl ⟨p, ys, rfl, .inl hp.sql, by rw [ry.length]; exact q _ (sc_int _)⟩
  · cases e
    obtain ⟨v, rfl, r1⟩ := r.one
    obtain ⟨p, ys, rfl, hp, ry⟩ := r1.tupE
    exact .inl ⟨p, ys, rfl, .inr (.of hp), by rw [ry.length]; exact q _ (sc_int _)⟩
  · cases e
    obtain ⟨v, rfl, r1⟩ := r.one
    obtain ⟨rfl, hz⟩ := r1.strE
    exact .inr ⟨_, rfl, hz, q _ (sc_int _)⟩
  · cases e
def tupleD : List D → Res D
  | [.lst ds] => (.ok (.tup ds))
  | [.tup ds] => (.ok (.tup ds))
  | _ => .stuck
theorem tup_top {H : Hp} {p : Addr} {xs : List V} (h : H p = some (.tup xs)) : NewTop H (.ref p) := fun a e o q m => by
  cases e; rw [h] at q; cases q; exact m
theorem cd_tuple : CallD K (fun xs H Q => ∃ p ys, xs = [.ref p] ∧ ((SqL K H p ys ∧ ∀ l, H l = none → Q (.ref l) (upd H l (.tup ys))) ∨ (SqT K H p ys ∧ Q (.ref p) H))) tupleD := by
  intro A xs H ds d Q r e q
  unfold tupleD at e
  split at e
  · cases e
    obtain ⟨v, rfl, r1⟩ := r.one
    obtain ⟨p, ys, rfl, hp, _, ry⟩ := r1.lstE
    exact ⟨p, ys, rfl, .inl ⟨.of hp, fun l hl => q _ _ (Same.upd hl) (.tup upd_same ((ry.low.weak orA).grow (Same.upd hl))) (new_top (Same.refl H) hl)⟩⟩
  · cases e
    obtain ⟨v, rfl, r1⟩ := r.one
    obtain ⟨p, ys, rfl, hp, ry⟩ := r1.tupE
    exact ⟨p, ys, rfl, .inr ⟨.of hp, q _ H (Same.refl H) (.tup hp (ry.weak orA)) (tup_top hp)⟩⟩
  · cases e
def listD : List D → Res D
  | [.lst ds] => (.ok (.lst ds))
  | [.tup ds] => (.ok (.lst ds))
  | _ => .stuck
def minD : List D → Res D
  | [.int i, .int j] => .ok (.int (if j < i then j else i))
  | _ => .stuck
def maxD : List D → Res D
  | [.int i, .int j] => .ok (.int (if j > i then j else i))
  | _ => .stuck
def tyN : D → Option String
  | .non => some "NoneType"
  | .bl _ => some "bool"
  | .int _ => some "int"
  | .str _ => some "str"
  | .tup _ => some "tuple"
  | .lst _ => some "list"
  | .scr _ => none
  | .dic _ _ => some "dict"
  | .dit _ _ => some "dict"
  | .exn _ => none
  | .fdc _ _ => none
  | .hdc _ _ => none
theorem ty_of {A : Addr → Prop} {H : Hp} {v : V} {d : D} {n : String} (r : Rep K A H v d) (h : tyN d = some n) : TyOf K H v (.type n) := by
  cases r with
  | non => cases h; exact .non
  | bl b => cases h; exact .bl b
  | int i => cases h; exact .int i
  | str x _ => cases h; exact .str x
  | tup e _ => cases h; exact .tup e
  | lst e _ _ => cases h; exact .lst e
  | lsk _ _ => cases h
  | dic e _ _ _ _ => cases h; exact .dK e
  | dit e _ _ _ _ => cases h; exact .dT e
  | exn _ _ _ => cases h
  | fdc _ _ _ _ => cases h
  | hdc _ _ _ _ => cases h
def isTy (T n : String) : Bool := n == T || (T == "int" && n == "bool")
def IsTy (T : String) : Prop := ∀ (K : PySem.W.Frag) (n : String), n ∈ ["NoneType", "bool", "int", "str", "tuple", "list", "dict"] → PySem.W.kitOne K (.type n) (.type T) = some (isTy T n)
theorem ty_mem {d : D} {n : String} (h : tyN d = some n) : n ∈ ["NoneType", "bool", "int", "str", "tuple", "list", "dict"] := by
  cases d <;> first | (cases h; done) | (cases h; decide)
theorem isTy_of {T : String} (h : ∀ (K : PySem.W.Frag), PySem.W.kitOne K (.type "NoneType") (.type T) = some (isTy T "NoneType") ∧ PySem.W.kitOne K (.type "bool") (.type T) = some (isTy T "bool") ∧ PySem.W.kitOne K (.type "int") (.type T) = some (isTy T "int") ∧
    PySem.W.kitOne K (.type "str") (.type T) = some (isTy T "str") ∧ PySem.W.kitOne K (.type "tuple") (.type T) = some (isTy T "tuple") ∧ PySem.W.kitOne K (.type "list") (.type T) = some (isTy T "list") ∧ PySem.W.kitOne K (.type "dict") (.type T) = some (isTy T "dict")) : IsTy T := by
  intro K n hn
  obtain ⟨h1, h2, h3, h4, h5, h6, h7⟩ := h K
  simp only [List.mem_cons, List.not_mem_nil, or_false] at hn
  rcases hn with rfl | rfl | rfl | rfl | rfl | rfl | rfl <;> assumption
theorem isTy_int : IsTy "int" := isTy_of fun K => ⟨rfl, rfl, rfl, rfl, rfl, rfl, rfl⟩
theorem isTy_bool : IsTy "bool" := isTy_of fun K => ⟨rfl, rfl, rfl, rfl, rfl, rfl, rfl⟩
theorem isTy_tuple : IsTy "tuple" := isTy_of fun K => ⟨rfl, rfl, rfl, rfl, rfl, rfl, rfl⟩
def isiD (T : String) (d : D) : Res D := match tyN d with
  | some n => .ok (.bl (isTy T n))
  | none => .stuck
theorem call_isi (T : String) (h : IsTy T) : CallR X (.builtin "isinstance") (fun xs H Q => ∃ x d, xs = [x, .ty T] ∧ Rep X.K Any H x d ∧ ∃ b, isiD T d = .ok (.bl b) ∧ Q (.bl b) H) := by
  intro pins s σ H xs us Q I r ⟨x, d, ex, rp, b, e, q⟩
  subst ex
  obtain ⟨u, w', rfl, r1, r2⟩ := vals2 r
  cases (show w' = Value.type T from r2)
  unfold isiD at e
  split at e
  · rename_i n hn
    cases e
    refine isinst_ok I r1 (ty_of rp hn) (h X.K n (ty_mem hn)) fun tk => ⟨.bl _, H, I.tok tk, rfl, q⟩
  · cases e
def isiF (T : String) (f : Sl → Res D) : Sl → Res D := fun env => f env >>= isiD T
theorem de_isi (T : String) (Ty : Str) {l l' : Lv} {e : Expr} {f : Sl → Res D} {p p2 pos : Pos} (ht : IsTy T) (he : DE X l e f) (hg : Gl X "isinstance") (hm : X.mg "isinstance" = none) (hg2 : Gl X Ty) (hm2 : X.mg Ty = none) (hv : bootBuiltins Ty = some (.type T))
    (hn : Ty ≠ "__name__" := by decide) (hd : (Ty == ("__debug__" : Str)) = false := by decide) (hs : starEach [e, .Name Ty p2] X.env = (false, eval e X.env) :: starEach [.Name Ty p2] X.env := by exact star_plain rfl)
    (hs2 : starEach [.Name Ty p2] X.env = (false, eval (.Name Ty p2) X.env) :: starEach [] X.env := by exact star_plain rfl) (hpl : (backTo pos (starEach [.Name Ty p2] X.env)).any (·.1) = false := by exact any_plain rfl) :
    DE X l' (.Call (.Name "isinstance" p) [e, .Name Ty p2] [] pos) (isiF T f) := by
 with_unfolding_all exact (
  PE.imp (pe_callB (call_isi T ht) hg hm boot_isinstance (pa_cons he (pa_cons (pe_bltn (v := .ty T) hg2 hm2 hv rfl hn hd) pa_nil hs2) hs) (by decide) (by decide) hs hpl) fun σ H Q ⟨G, H0, env, d, k, ef, q⟩ => by
    obtain ⟨a, e1, e2⟩ := bind_inv ef
    refine ⟨G, H0, env, a, k, e1, fun v H' s r _ => ?_⟩
    have hb : ∃ b, d = .bl b := by
      unfold isiD at e2
      split at e2
      · cases e2; exact ⟨_, rfl⟩
      · cases e2
    obtain ⟨b, rfl⟩ := hb
    exact ⟨v, a, rfl, r.weak Lv.weak_b, b, e2, q _ H' s (.bl b) (sc_bl (K := X.K) b).T⟩)

def bools : List D → Option (List Bool)
  | [] => some []
  | .bl b :: r => (bools r).map (b :: ·)
  | _ => none
theorem bools_get : ∀ {ds : List D} {bs : List Bool}, bools ds = some bs → ds = bs.map D.bl
  | [], bs, h => by cases h; rfl
  | d :: r, bs, h => by
    cases d with
    | bl b =>
      simp only [bools, Option.map_eq_some_iff] at h
      obtain ⟨bs', h1, rfl⟩ := h
      rw [bools_get h1]; rfl
    | _ => cases h
def allD : List D → Res D
  | [.lst ds] => match bools ds with
    | some bs => .ok (.bl (bs.all id))
    | none => .stuck
  | _ => .stuck
theorem reps_bools {A : Addr → Prop} {H : Hp} : ∀ {bs : List Bool} {xs : List V}, Reps K A H xs (bs.map D.bl) → xs = bs.map V.bl
  | [], _, .nil => rfl
  | b :: bs, _, .cons h t => by rw [h.blE, reps_bools t]; rfl
theorem vals_bools : ∀ {bs : List Bool} {us : List Value}, Vals (bs.map V.bl) us → us = bs.map Value.bool
  | [], _, .nil => rfl
  | b :: bs, _, .cons h t => by
    rw [vals_bools t]
    have : _ = Value.bool b := h
    rw [this]; rfl
theorem call_allB (hc : X.calm = true) : CallR X (.builtin "all") (fun xs H Q => ∃ (p : Addr) (bs : List Bool), xs = [.ref p] ∧ SqL X.K H p (bs.map V.bl) ∧ Q (.bl (bs.all id)) H) := by
  intro pins s σ H xs us Q I r ⟨p, bs, ex, hq, q⟩
  subst ex
  obtain ⟨u, rfl, ru⟩ := vals1 r
  cases ru
  obtain ⟨its, rv, pl, hz⟩ := I.list hq
  have hits := vals_bools rv
  subst hits
  refine call_all_walk (wpAny_pyIter_list pl.isList ?_)
  have hne : p ≠ s.heap.objs.size := by
    obtain ⟨o, n, e, _⟩ := pl
    exact Nat.ne_of_lt (Heap.lt_size e)
  refine ⟨s.heap.objs.size, _, _, _, _, _, fun i => (bs[i]?).getD true, rfl, Walks.list (show X.A.in1.handled = none from I.ok.hd hc) s.heap.objs.size p hne (bs.map Value.bool).toArray, ⟨⟨_, Heap.get?_push_size _ rfl, rfl, rfl⟩, pl.isList.at fun o e => Heap.get?_push_of_some _ e⟩, ?_, fun h' tk kk => ?_⟩
  · intro i v s' Q' E' hP hQ
    have hP' : (bs.map Value.bool)[i]? = some v := by simpa using hP
    rw [List.getElem?_map] at hP'
    cases e : bs[i]? with
    | none => rw [e] at hP'; cases hP'
    | some b =>
      rw [e] at hP'
      cases hP'
      dsimp only at hQ
      rw [e] at hQ
      exact wpAny_truthy_bool hQ
  · have hn : (bs.map Value.bool).toArray.size = bs.length := by simp
    have e : ((List.range (bs.map Value.bool).toArray.size).all fun i => (bs[i]?).getD true) = bs.all id := by
      rw [hn, Bool.eq_iff_iff, List.all_eq_true, List.all_eq_true]
      constructor
      · intro hh b hb
        obtain ⟨i, hi, rfl⟩ := List.mem_iff_getElem.mp hb
        have := hh i (List.mem_range.mpr hi)
        rw [List.getElem?_eq_getElem hi] at this
        exact this
      · intro hh i hi
        have hi' := List.mem_range.mp hi
        rw [List.getElem?_eq_getElem hi']
        exact hh _ (List.getElem_mem hi')
    rw [e]
    refine ⟨.bl _, H, ?_, rfl, q⟩
    exact I.kept (t' := tk) fun b o e => kk b o (by
      intro z
      have hb : b = s.heap.objs.size := by simpa using z
      exact absurd (Heap.lt_size e) (by rw [hb]; exact Nat.lt_irrefl _)) (Heap.get?_push_of_some _ e)
theorem cd_all : CallS K (fun xs H Q => ∃ (p : Addr) (bs : List Bool), xs = [.ref p] ∧ SqL K H p (bs.map V.bl) ∧ Q (.bl (bs.all id)) H) allD := by
  intro xs H ds d Q r e q
  unfold allD at e
  split at e
  · split at e
    · rename_i bs hbs
      cases e
      obtain ⟨v, rfl, r1⟩ := r.one
      obtain ⟨p, ys, rfl, hp, _, ry⟩ := r1.lstE
      rw [bools_get hbs] at ry
      have := reps_bools ry
      subst this
      exact ⟨p, bs, rfl, .of hp, q _ (sc_bl _)⟩
    · cases e
  · cases e
end
end M

set_option Elab.async false
set_option linter.all false
set_option maxRecDepth 100000
set_option maxHeartbeats 4000000
namespace M
open PySem PySem.Spec L2
open PyProof.Rows hiding St
open PySem.SeqAt (EqAt RcAt RcNeAt)

mutual
theorem D.ind {P : D → Prop} (h0 : P .non) (h1 : ∀ b, P (.bl b)) (h2 : ∀ i, P (.int i)) (h3 : ∀ x, P (.str x)) (h4 : ∀ ds, (∀ d ∈ ds, P d) → P (.tup ds)) (h5 : ∀ ds, (∀ d ∈ ds, P d) → P (.lst ds))
    (h6 : ∀ ds, (∀ d ∈ ds, P d) → P (.scr ds)) (h7 : (∀ ks ds, (∀ d ∈ ds, P d) → P (.dic ks ds)) ∧ (∀ ks ds, (∀ d ∈ ds, P d) → P (.dit ks ds)) ∧ (∀ c, P (.exn c)) ∧ (∀ ks ds, (∀ d ∈ ds, P d) → P (.fdc ks ds)) ∧ ∀ ks ds, (∀ d ∈ ds, P d) → P (.hdc ks ds)) : ∀ d, P d
  | .non => h0
  | .bl b => h1 b
  | .int i => h2 i
  | .str x => h3 x
  | .tup ds => h4 ds (D.inds h0 h1 h2 h3 h4 h5 h6 h7 ds)
  | .lst ds => h5 ds (D.inds h0 h1 h2 h3 h4 h5 h6 h7 ds)
  | .scr ds => h6 ds (D.inds h0 h1 h2 h3 h4 h5 h6 h7 ds)
  | .dic ks ds => h7.1 ks ds (D.inds h0 h1 h2 h3 h4 h5 h6 h7 ds)
  | .dit ks ds => h7.2.1 ks ds (D.inds h0 h1 h2 h3 h4 h5 h6 h7 ds)
  | .exn c => h7.2.2.1 c
  | .fdc ks ds => h7.2.2.2.1 ks ds (D.inds h0 h1 h2 h3 h4 h5 h6 h7 ds)
  | .hdc ks ds => h7.2.2.2.2 ks ds (D.inds h0 h1 h2 h3 h4 h5 h6 h7 ds)
theorem D.inds {P : D → Prop} (h0 : P .non) (h1 : ∀ b, P (.bl b)) (h2 : ∀ i, P (.int i)) (h3 : ∀ x, P (.str x)) (h4 : ∀ ds, (∀ d ∈ ds, P d) → P (.tup ds)) (h5 : ∀ ds, (∀ d ∈ ds, P d) → P (.lst ds))
    (h6 : ∀ ds, (∀ d ∈ ds, P d) → P (.scr ds)) (h7 : (∀ ks ds, (∀ d ∈ ds, P d) → P (.dic ks ds)) ∧ (∀ ks ds, (∀ d ∈ ds, P d) → P (.dit ks ds)) ∧ (∀ c, P (.exn c)) ∧ (∀ ks ds, (∀ d ∈ ds, P d) → P (.fdc ks ds)) ∧ ∀ ks ds, (∀ d ∈ ds, P d) → P (.hdc ks ds)) : ∀ ds : List D, ∀ d ∈ ds, P d
  | [], _, h => by cases h
  | x :: r, d, h => by
    have p := D.ind h0 h1 h2 h3 h4 h5 h6 h7 x
    have q := D.inds h0 h1 h2 h3 h4 h5 h6 h7 r
    rcases List.mem_cons.mp h with z | z
    · rw [z]; exact p
    · exact q d z
end
mutual
def D.dep : D → Nat
  | .tup ds => D.deps ds + 1
  | .lst ds => D.deps ds + 1
  | _ => 0
def D.deps : List D → Nat
  | [] => 0
  | d :: ds => max (D.dep d) (D.deps ds)
end
mutual
def D.eqb : D → Bool
  | .scr _ => false
  | .dic _ _ => false
  | .dit _ _ => false
  | .exn _ => false
  | .fdc _ _ => false
  | .hdc _ _ => false
  | .tup ds => D.eqbs ds
  | .lst ds => D.eqbs ds
  | _ => true
def D.eqbs : List D → Bool
  | [] => true
  | d :: ds => D.eqb d && D.eqbs ds
end
mutual
def eqD : D → D → Bool
  | .non, .non => true
  | .bl a, .bl b => a == b
  | .bl a, .int j => (if a then 1 else 0) == j
  | .int i, .bl b => i == (if b then 1 else 0)
  | .int i, .int j => i == j
  | .str x, .str y => x == y
  | .tup a, .tup b => eqDs a b
  | .lst a, .lst b => eqDs a b
  | _, _ => false
def eqDs : List D → List D → Bool
  | [], [] => true
  | a :: as, b :: bs => eqD a b && eqDs as bs
  | _, _ => false
end
theorem deps_mem : ∀ {ds : List D} {d : D}, d ∈ ds → D.dep d ≤ D.deps ds
  | x :: r, d, h => by
    simp only [D.deps]
    rcases List.mem_cons.mp h with rfl | h
    · omega
    · have := deps_mem h; omega
theorem eqbs_mem : ∀ {ds : List D} {d : D}, D.eqbs ds = true → d ∈ ds → D.eqb d = true
  | x :: r, d, hb, h => by
    simp only [D.eqbs, Bool.and_eq_true] at hb
    rcases List.mem_cons.mp h with rfl | h
    · exact hb.1
    · exact eqbs_mem hb.2 h
theorem eqDs_refl_of : ∀ {ds : List D}, (∀ d ∈ ds, D.eqb d = true → eqD d d = true) → D.eqbs ds = true → eqDs ds ds = true
  | [], _, _ => by simp [eqDs]
  | d :: ds, h, hb => by
    simp only [D.eqbs, Bool.and_eq_true] at hb
    simp only [eqDs, Bool.and_eq_true]
    exact ⟨h d List.mem_cons_self hb.1, eqDs_refl_of (fun x hx => h x (List.mem_cons_of_mem _ hx)) hb.2⟩
theorem eqD_refl (d : D) : D.eqb d = true → eqD d d = true := by
  refine D.ind (P := fun d => D.eqb d = true → eqD d d = true) ?_ ?_ ?_ ?_ ?_ ?_ ?_ ?_ d
  · intro _; simp [eqD]
  · intro b _; simp [eqD]
  · intro i _; simp [eqD]
  · intro x _; simp [eqD]
  · intro ds ih hb; simp only [eqD]; exact eqDs_refl_of ih (by simpa only [D.eqb] using hb)
  · intro ds ih hb; simp only [eqD]; exact eqDs_refl_of ih (by simpa only [D.eqb] using hb)
  · intro ds ih hb; simp [D.eqb] at hb
  · exact ⟨by intro ks ds ih hb; simp [D.eqb] at hb, by intro ks ds ih hb; simp [D.eqb] at hb, by intro c hb; simp [D.eqb] at hb, by intro ks ds ih hb; simp [D.eqb] at hb, by intro ks ds ih hb; simp [D.eqb] at hb⟩
section
variable {K : PySem.W.Frag} {H : Hp}
theorem Reps.inj_of : ∀ {A A' : Addr → Prop} {vs : List V} {ds ds' : List D}, (∀ d ∈ ds, ∀ (A A' : Addr → Prop) v d', D.eqb d = true → D.eqb d' = true → Rep K A H v d → Rep K A' H v d' → d = d') → D.eqbs ds = true → D.eqbs ds' = true → Reps K A H vs ds → Reps K A' H vs ds' → ds = ds'
  | _, _, _, _, _, _, _, _, .nil, .nil => rfl
  | _, _, _, _, _, h, hb, hb', .cons r t, .cons r' t' => by
    simp only [D.eqbs, Bool.and_eq_true] at hb hb'
    rw [h _ List.mem_cons_self _ _ _ _ hb.1 hb'.1 r r', Reps.inj_of (fun d hd => h d (List.mem_cons_of_mem _ hd)) hb.2 hb'.2 t t']
theorem Rep.inj (d : D) : ∀ (A A' : Addr → Prop) v d', D.eqb d = true → D.eqb d' = true → Rep K A H v d → Rep K A' H v d' → d = d' := by
  refine D.ind (P := fun d => ∀ (A A' : Addr → Prop) v d', D.eqb d = true → D.eqb d' = true → Rep K A H v d → Rep K A' H v d' → d = d') ?_ ?_ ?_ ?_ ?_ ?_ ?_ ?_ d
  · intro A A' v d' _ _ r r'; cases r.nonE; cases r'; rfl
  · intro b A A' v d' _ _ r r'; cases r.blE; cases r'; rfl
  · intro b A A' v d' _ _ r r'; cases r.intE; cases r'; rfl
  · intro b A A' v d' _ _ r r'; cases r.strE.1; cases r'; rfl
  · intro ds ih A A' v d' hb hd' r r'
    obtain ⟨a, xs, rfl, ha, rs⟩ := r.tupE
    have hb' : D.eqbs ds = true := by simpa only [D.eqb] using hb
    cases r' with
    | tup e rs' =>
      rw [ha] at e; cases e
      rw [Reps.inj_of ih hb' (by simpa only [D.eqb] using hd') rs rs']
    | lst e _ _ => rw [ha] at e; cases e
    | lsk e _ => simp [D.eqb] at hd'
    | dic e _ _ _ _ => rw [ha] at e; cases e
    | dit e _ _ _ _ => rw [ha] at e; cases e
    | exn e _ _ => rw [ha] at e; cases e
    | fdc e _ _ _ => rcases e with ⟨e, _⟩ | ⟨o, e⟩ <;> (rw [ha] at e; cases e)
    | hdc e _ _ _ => obtain ⟨o, e⟩ := e; rw [ha] at e; cases e
  · intro ds ih A A' v d' hb hd' r r'
    obtain ⟨a, xs, rfl, ha, _, rs⟩ := r.lstE
    have hb' : D.eqbs ds = true := by simpa only [D.eqb] using hb
    cases r' with
    | tup e rs' => rw [ha] at e; cases e
    | lst e _ rs' =>
      rw [ha] at e; cases e
      rw [Reps.inj_of ih hb' (by simpa only [D.eqb] using hd') rs rs']
    | lsk e _ => simp [D.eqb] at hd'
    | dic e _ _ _ _ => rw [ha] at e; cases e
    | dit e _ _ _ _ => rw [ha] at e; cases e
    | exn e _ _ => rw [ha] at e; cases e
    | fdc e _ _ _ => rcases e with ⟨e, _⟩ | ⟨o, e⟩ <;> (rw [ha] at e; cases e)
    | hdc e _ _ _ => obtain ⟨o, e⟩ := e; rw [ha] at e; cases e
  · intro ds ih A A' v d' hb; simp [D.eqb] at hb
  · exact ⟨by intro ks ds ih A A' v d' hb; simp [D.eqb] at hb, by intro ks ds ih A A' v d' hb; simp [D.eqb] at hb, by intro c A A' v d' hb; simp [D.eqb] at hb, by intro ks ds ih A A' v d' hb; simp [D.eqb] at hb, by intro ks ds ih A A' v d' hb; simp [D.eqb] at hb⟩
end
def eqAtJ (a b : List D) (j : Nat) : Bool := match a[j]?, b[j]? with
  | some x, some y => eqD x y
  | _, _ => true
theorem eqDs_range : ∀ (a b : List D), a.length = b.length → eqDs a b = (List.range a.length).all (eqAtJ a b)
  | [], [], _ => by simp [eqDs]
  | x :: a, y :: b, h => by
    have hl : a.length = b.length := by simpa using h
    rw [List.length_cons, List.range_succ_eq_map, List.all_cons, List.all_map]
    simp only [eqDs]
    rw [eqDs_range a b hl]
    congr 1
theorem eqDs_len : ∀ (a b : List D), a.length ≠ b.length → eqDs a b = false
  | [], [], h => absurd rfl h
  | [], y :: b, _ => by simp [eqDs]
  | x :: a, [], _ => by simp [eqDs]
  | x :: a, y :: b, h => by
    simp only [eqDs]
    rw [eqDs_len a b (by simpa using h), Bool.and_false]
theorem eqDs_tup (a b : List D) : eqDs a b = ((List.range (min a.length b.length)).all (eqAtJ a b) && a.length == b.length) := by
  by_cases h : a.length = b.length
  · rw [eqDs_range a b h, h]; simp
  · rw [eqDs_len a b h]; simp [h]

section
variable {X : Cx} {pins : List (Addr × Obj)} {σ : L2.St} {H : Hp} {s : Shared}
inductive Cm (X : Cx) (H : Hp) (s : Shared) : Value → D → Prop where
  | non : Cm X H s .none .non
  | bl (b : Bool) : Cm X H s (.bool b) (.bl b)
  | int (i : Int) (t : Tok) : Cm X H s (.int i t) (.int i)
  | str (x : Str) (t : Tok) : Cm X H s (.str x t) (.str x)
  | tup {a : Addr} {xs : List V} {its : List Value} {ds : List D} : H a = some (.tup xs) → s.heap.IsTuple a its.toArray → Vals xs its → Reps X.K Any H xs ds → Cm X H s (.ref a) (.tup ds)
  | lst {a : Addr} {xs : List V} {its : List Value} {ds : List D} : H a = some (.lst xs) → s.heap.IsList a its.toArray → Vals xs its → Reps X.K Any H xs ds → Cm X H s (.ref a) (.lst ds)
theorem cm_of (I : Inv X pins σ H s) {v : V} {u : Value} {d : D} (r : Rep X.K Any H v d) (ru : RelV v u) (hb : D.eqb d = true) : Cm X H s u d := by
  cases r with
  | non => cases ru; exact .non
  | bl b => cases ru; exact .bl b
  | int i => obtain ⟨t, rfl⟩ := ru; exact .int i t
  | str x _ => obtain ⟨t, rfl⟩ := ru; exact .str x t
  | tup e rs =>
    cases ru
    obtain ⟨its, rv, p, hz⟩ := I.tuple (.of e)
    exact .tup e p rv rs
  | lst e _ rs =>
    cases ru
    obtain ⟨its, rv, p, hz⟩ := I.list (.of e)
    exact .lst e p.isList rv rs.low
  | lsk _ _ => simp [D.eqb] at hb
  | dic _ _ _ _ _ => simp [D.eqb] at hb
  | dit _ _ _ _ _ => simp [D.eqb] at hb
  | exn _ _ _ => simp [D.eqb] at hb
  | fdc _ _ _ _ => simp [D.eqb] at hb
  | hdc _ _ _ _ => simp [D.eqb] at hb
theorem elems {A : Around} {xs ys : List V} {its its2 : List Value} {a b : List D} (ra : Reps X.K Any H xs a) (rb : Reps X.K Any H ys b) (va : Vals xs its) (vb : Vals ys its2)
    (ih : ∀ d ∈ a, ∀ (v v' : V) (u u' : Value) (d' : D), Rep X.K Any H v d → RelV v u → Rep X.K Any H v' d' → RelV v' u' → D.eqb d = true → D.eqb d' = true → EqAt A.in1 s u u' (eqD d d')) (ha : D.eqbs a = true) (hb : D.eqbs b = true) :
    ∀ j (h1 : j < its.toArray.size) (h2 : j < its2.toArray.size), EqAt A.in1 s its.toArray[j] its2.toArray[j] (eqAtJ a b j) := by
  intro j h1 h2
  have l1 := va.length
  have l2 := vb.length
  have l3 := ra.length
  have l4 := rb.length
  have j1 : j < a.length := by simp at h1; omega
  have j2 : j < b.length := by simp at h2; omega
  obtain ⟨v, e1, r1⟩ := ra.get (List.getElem?_eq_getElem j1)
  obtain ⟨v', e2, r2⟩ := rb.get (List.getElem?_eq_getElem j2)
  obtain ⟨u, e3, r3⟩ := va.get e1
  obtain ⟨u', e4, r4⟩ := vb.get e2
  have g1 : its.toArray[j] = u := by
    have := List.getElem?_eq_some_iff.mp e3
    obtain ⟨_, q⟩ := this
    simpa using q
  have g2 : its2.toArray[j] = u' := by
    have := List.getElem?_eq_some_iff.mp e4
    obtain ⟨_, q⟩ := this
    simpa using q
  rw [g1, g2]
  have e : eqAtJ a b j = eqD a[j] b[j] := by unfold eqAtJ; rw [List.getElem?_eq_getElem j1, List.getElem?_eq_getElem j2]
  rw [e]
  exact ih _ (List.getElem_mem j1) v v' u u' _ r1 r3 r2 r4 (eqbs_mem ha (List.getElem_mem j1)) (eqbs_mem hb (List.getElem_mem j2))
theorem eqAt_all (I : Inv X pins σ H s) (d : D) : ∀ (A : Around) (v v' : V) (u u' : Value) (d' : D), A.units + d.dep < cLine → Rep X.K Any H v d → RelV v u → Rep X.K Any H v' d' → RelV v' u' → D.eqb d = true → D.eqb d' = true → EqAt A s u u' (eqD d d') := by
  refine D.ind (P := fun d => ∀ (A : Around) (v v' : V) (u u' : Value) (d' : D), A.units + d.dep < cLine → Rep X.K Any H v d → RelV v u → Rep X.K Any H v' d' → RelV v' u' → D.eqb d = true → D.eqb d' = true → EqAt A s u u' (eqD d d')) ?_ ?_ ?_ ?_ ?_ ?_ ?_ ?_ d
  · intro A v v' u u' d' hu r ru r' ru' hb hb'
    cases cm_of I r ru hb
    have hu' : A.units < cLine := by simp only [D.dep] at hu; omega
    cases cm_of I r' ru' hb' <;> simp only [eqD]
    · exact EqAt.same _
    · exact EqAt.none_bool _
    · exact EqAt.none_int _ _
    · exact EqAt.none_str _ _
    · exact EqAt.none_tuple (by assumption) hu'
    · exact EqAt.none_list (by assumption) hu'
  · intro b A v v' u u' d' hu r ru r' ru' hb hb'
    cases cm_of I r ru hb
    have hu' : A.units < cLine := by simp only [D.dep] at hu; omega
    cases cm_of I r' ru' hb' <;> simp only [eqD]
    · exact EqAt.bool_none _
    · exact EqAt.bool_bool _ _
    · exact EqAt.bool_int _ _ _
    · exact EqAt.bool_str _ _ _
    · exact EqAt.bool_tuple _ (by assumption) hu'
    · exact EqAt.bool_list _ (by assumption) hu'
  · intro i A v v' u u' d' hu r ru r' ru' hb hb'
    cases cm_of I r ru hb
    have hu' : A.units < cLine := by simp only [D.dep] at hu; omega
    cases cm_of I r' ru' hb' <;> simp only [eqD]
    · exact EqAt.int_none _ _
    · exact EqAt.int_bool _ _ _
    · exact EqAt.int_int _ _ _ _
    · exact EqAt.int_str _ _ _ _
    · exact EqAt.int_tuple _ _ (by assumption) hu'
    · exact EqAt.int_list _ _ (by assumption) hu'
  · intro x A v v' u u' d' hu r ru r' ru' hb hb'
    cases cm_of I r ru hb
    have hu' : A.units < cLine := by simp only [D.dep] at hu; omega
    cases cm_of I r' ru' hb' <;> simp only [eqD]
    · exact EqAt.str_none _ _
    · exact EqAt.str_bool _ _ _
    · exact EqAt.str_int _ _ _ _
    · exact EqAt.str_str _ _ _ _
    · exact EqAt.str_tuple _ _ (by assumption) hu'
    · exact EqAt.str_list _ _ (by assumption) hu'
  · intro ds ih A v v' u u' d' hu r ru r' ru' hb hb'
    have hu' : A.units < cLine := by simp only [D.dep] at hu; omega
    have c1 := cm_of I r ru hb
    have c2 := cm_of I r' ru' hb'
    cases c1 with
    | tup e p rv rs =>
      cases c2 with
      | non => simp only [eqD]; exact EqAt.tuple_none p hu'
      | bl b => simp only [eqD]; exact EqAt.tuple_bool _ p hu'
      | int i t => simp only [eqD]; exact EqAt.tuple_int _ _ p hu'
      | str x t => simp only [eqD]; exact EqAt.tuple_str _ _ p hu'
      | lst e2 p2 rv2 rs2 => simp only [eqD]; exact EqAt.tuple_list p p2 hu'
      | @tup a2 xs2 its2 ds2 e2 p2 rv2 rs2 =>
        rename_i a1 xs1 its1
        by_cases z : a1 = a2
        · subst z
          have ed : D.tup ds = D.tup ds2 := Rep.inj _ Any Any _ _ hb hb' (Rep.tup e rs) (Rep.tup e2 rs2)
          rw [← ed, eqD_refl _ hb]
          exact EqAt.same _
        · have q := RcAt.tuples (A := A) (s := s) p p2 hu' (elems (A := A) rs rs2 rv rv2 (fun d hd v v' u u' d' g1 g2 g3 g4 g5 g6 => ih d hd A.in1 v v' u u' d' (by
            have := deps_mem hd
            simp only [D.dep] at hu
            show A.units + 1 + d.dep < cLine
            omega) g1 g2 g3 g4 g5 g6) (by simpa only [D.eqb] using hb) (by simpa only [D.eqb] using hb'))
          have n1 : its1.toArray.size = ds.length := by rw [List.size_toArray, ← rv.length, rs.length]
          have n2 : its2.toArray.size = ds2.length := by rw [List.size_toArray, ← rv2.length, rs2.length]
          rw [n1, n2, ← eqDs_tup] at q
          simp only [eqD]
          exact EqAt.of_refs z q
  · intro ds ih A v v' u u' d' hu r ru r' ru' hb hb'
    have hu' : A.units < cLine := by simp only [D.dep] at hu; omega
    have c1 := cm_of I r ru hb
    have c2 := cm_of I r' ru' hb'
    cases c1 with
    | lst e p rv rs =>
      cases c2 with
      | non => simp only [eqD]; exact EqAt.list_none p hu'
      | bl b => simp only [eqD]; exact EqAt.list_bool _ p hu'
      | int i t => simp only [eqD]; exact EqAt.list_int _ _ p hu'
      | str x t => simp only [eqD]; exact EqAt.list_str _ _ p hu'
      | tup e2 p2 rv2 rs2 => simp only [eqD]; exact EqAt.list_tuple p p2 hu'
      | @lst a2 xs2 its2 ds2 e2 p2 rv2 rs2 =>
        rename_i a1 xs1 its1
        have n1 : its1.toArray.size = ds.length := by rw [List.size_toArray, ← rv.length, rs.length]
        have n2 : its2.toArray.size = ds2.length := by rw [List.size_toArray, ← rv2.length, rs2.length]
        by_cases z : a1 = a2
        · subst z
          have ed : D.lst ds = D.lst ds2 := by
            rw [e] at e2; cases e2
            rw [Reps.inj_of (fun d _ A A' v d' => Rep.inj d A A' v d') (by simpa only [D.eqb] using hb) (by simpa only [D.eqb] using hb') rs rs2]
          rw [← ed, eqD_refl _ hb]
          exact EqAt.same _
        · simp only [eqD]
          by_cases hl : ds.length = ds2.length
          · have q := RcAt.lists (A := A) (s := s) p p2 (by rw [n1, n2]; exact hl) hu' (elems (A := A) rs rs2 rv rv2 (fun d hd v v' u u' d' g1 g2 g3 g4 g5 g6 => ih d hd A.in1 v v' u u' d' (by
              have := deps_mem hd
              simp only [D.dep] at hu
              show A.units + 1 + d.dep < cLine
              omega) g1 g2 g3 g4 g5 g6) (by simpa only [D.eqb] using hb) (by simpa only [D.eqb] using hb'))
            rw [n1, ← eqDs_range ds ds2 hl] at q
            exact EqAt.of_refs z q
          · rw [eqDs_len ds ds2 hl]
            exact EqAt.of_refs z (RcAt.lists_lengths p p2 (by rw [n1, n2]; simp [hl]) hu')
  · intro ds ih A v v' u u' d' hu r ru r' ru' hb; simp [D.eqb] at hb
  · exact ⟨by intro ks ds ih A v v' u u' d' hu r ru r' ru' hb; simp [D.eqb] at hb, by intro ks ds ih A v v' u u' d' hu r ru r' ru' hb; simp [D.eqb] at hb, by intro c A v v' u u' d' hu r ru r' ru' hb; simp [D.eqb] at hb, by intro ks ds ih A v v' u u' d' hu r ru r' ru' hb; simp [D.eqb] at hb, by intro ks ds ih A v v' u u' d' hu r ru r' ru' hb; simp [D.eqb] at hb⟩
theorem rcAt_all (I : Inv X pins σ H s) {A : Around} {v v' : V} {u u' : Value} {d d' : D} (hu : A.units + d.dep < cLine) (r : Rep X.K Any H v d) (ru : RelV v u) (r' : Rep X.K Any H v' d') (ru' : RelV v' u') (hb : D.eqb d = true) (hb' : D.eqb d' = true) :
    RcAt A s u u' (eqD d d') ∧ RcNeAt A s u u' (!eqD d d') := by
  have hu' : A.units < cLine := by omega
  have c1 := cm_of I r ru hb
  have c2 := cm_of I r' ru' hb'
  cases c1 with
  | non =>
    cases c2 <;> simp only [eqD, Bool.not_true, Bool.not_false]
    · exact ⟨RcAt.none_none, RcNeAt.none_none⟩
    · exact ⟨RcAt.none_bool _, RcNeAt.none_bool _⟩
    · exact ⟨RcAt.none_int _ _, RcNeAt.none_int _ _⟩
    · exact ⟨RcAt.none_str _ _, RcNeAt.none_str _ _⟩
    · exact ⟨RcAt.none_tuple (by assumption) hu', RcNeAt.none_tuple (by assumption) hu'⟩
    · exact ⟨RcAt.none_list (by assumption) hu', RcNeAt.none_list (by assumption) hu'⟩
  | bl b =>
    cases c2 <;> simp only [eqD, Bool.not_true, Bool.not_false]
    · exact ⟨RcAt.bool_none _, RcNeAt.bool_none _⟩
    · exact ⟨RcAt.bool_bool _ _, RcNeAt.bool_bool _ _⟩
    · exact ⟨RcAt.bool_int _ _ _, RcNeAt.bool_int _ _ _⟩
    · exact ⟨RcAt.bool_str _ _ _, RcNeAt.bool_str _ _ _⟩
    · exact ⟨RcAt.bool_tuple _ (by assumption) hu', RcNeAt.bool_tuple _ (by assumption) hu'⟩
    · exact ⟨RcAt.bool_list _ (by assumption) hu', RcNeAt.bool_list _ (by assumption) hu'⟩
  | int i t =>
    cases c2 <;> simp only [eqD, Bool.not_true, Bool.not_false]
    · exact ⟨RcAt.int_none _ _, RcNeAt.int_none _ _⟩
    · exact ⟨RcAt.int_bool _ _ _, RcNeAt.int_bool _ _ _⟩
    · exact ⟨RcAt.int_int _ _ _ _, RcNeAt.int_int _ _ _ _⟩
    · exact ⟨RcAt.int_str _ _ _ _, RcNeAt.int_str _ _ _ _⟩
    · exact ⟨RcAt.int_tuple _ _ (by assumption) hu', RcNeAt.int_tuple _ _ (by assumption) hu'⟩
    · exact ⟨RcAt.int_list _ _ (by assumption) hu', RcNeAt.int_list _ _ (by assumption) hu'⟩
  | str x t =>
    cases c2 <;> simp only [eqD, Bool.not_true, Bool.not_false]
    · exact ⟨RcAt.str_none _ _, RcNeAt.str_none _ _⟩
    · exact ⟨RcAt.str_bool _ _ _, RcNeAt.str_bool _ _ _⟩
    · exact ⟨RcAt.str_int _ _ _ _, RcNeAt.str_int _ _ _ _⟩
    · exact ⟨RcAt.str_str _ _ _ _, RcNeAt.str_str _ _ _ _⟩
    · exact ⟨RcAt.str_tuple _ _ (by assumption) hu', RcNeAt.str_tuple _ _ (by assumption) hu'⟩
    · exact ⟨RcAt.str_list _ _ (by assumption) hu', RcNeAt.str_list _ _ (by assumption) hu'⟩
  | @tup a1 xs1 its1 ds e p rv rs =>
    cases c2 with
    | non => simp only [eqD, Bool.not_false]; exact ⟨RcAt.tuple_none p hu', RcNeAt.tuple_none p hu'⟩
    | bl b => simp only [eqD, Bool.not_false]; exact ⟨RcAt.tuple_bool _ p hu', RcNeAt.tuple_bool _ p hu'⟩
    | int i t => simp only [eqD, Bool.not_false]; exact ⟨RcAt.tuple_int _ _ p hu', RcNeAt.tuple_int _ _ p hu'⟩
    | str x t => simp only [eqD, Bool.not_false]; exact ⟨RcAt.tuple_str _ _ p hu', RcNeAt.tuple_str _ _ p hu'⟩
    | lst e2 p2 rv2 rs2 => simp only [eqD, Bool.not_false]; exact ⟨RcAt.tuple_list p p2 hu', RcNeAt.tuple_list p p2 hu'⟩
    | @tup a2 xs2 its2 ds2 e2 p2 rv2 rs2 =>
      have n1 : its1.toArray.size = ds.length := by rw [List.size_toArray, ← rv.length, rs.length]
      have n2 : its2.toArray.size = ds2.length := by rw [List.size_toArray, ← rv2.length, rs2.length]
      have el := elems (A := A) (s := s) rs rs2 rv rv2 (fun d hd v v' u u' d' g1 g2 g3 g4 g5 g6 => eqAt_all I d A.in1 v v' u u' d' (by
        have := deps_mem hd
        simp only [D.dep] at hu
        show A.units + 1 + d.dep < cLine
        omega) g1 g2 g3 g4 g5 g6) (by simpa only [D.eqb] using hb) (by simpa only [D.eqb] using hb')
      have q := RcAt.tuples p p2 hu' el
      have q2 := RcNeAt.tuples p p2 hu' el
      rw [n1, n2, ← eqDs_tup] at q q2
      simp only [eqD]
      exact ⟨q, q2⟩
  | @lst a1 xs1 its1 ds e p rv rs =>
    cases c2 with
    | non => simp only [eqD, Bool.not_false]; exact ⟨RcAt.list_none p hu', RcNeAt.list_none p hu'⟩
    | bl b => simp only [eqD, Bool.not_false]; exact ⟨RcAt.list_bool _ p hu', RcNeAt.list_bool _ p hu'⟩
    | int i t => simp only [eqD, Bool.not_false]; exact ⟨RcAt.list_int _ _ p hu', RcNeAt.list_int _ _ p hu'⟩
    | str x t => simp only [eqD, Bool.not_false]; exact ⟨RcAt.list_str _ _ p hu', RcNeAt.list_str _ _ p hu'⟩
    | tup e2 p2 rv2 rs2 => simp only [eqD, Bool.not_false]; exact ⟨RcAt.list_tuple p p2 hu', RcNeAt.list_tuple p p2 hu'⟩
    | @lst a2 xs2 its2 ds2 e2 p2 rv2 rs2 =>
      have n1 : its1.toArray.size = ds.length := by rw [List.size_toArray, ← rv.length, rs.length]
      have n2 : its2.toArray.size = ds2.length := by rw [List.size_toArray, ← rv2.length, rs2.length]
      simp only [eqD]
      by_cases hl : ds.length = ds2.length
      · have el := elems (A := A) (s := s) rs rs2 rv rv2 (fun d hd v v' u u' d' g1 g2 g3 g4 g5 g6 => eqAt_all I d A.in1 v v' u u' d' (by
          have := deps_mem hd
          simp only [D.dep] at hu
          show A.units + 1 + d.dep < cLine
          omega) g1 g2 g3 g4 g5 g6) (by simpa only [D.eqb] using hb) (by simpa only [D.eqb] using hb')
        have q := RcAt.lists p p2 (by rw [n1, n2]; exact hl) hu' el
        have q2 := RcNeAt.lists p p2 (by rw [n1, n2]; exact hl) hu' el
        rw [n1, ← eqDs_range ds ds2 hl] at q q2
        exact ⟨q, q2⟩
      · rw [eqDs_len ds ds2 hl]
        exact ⟨RcAt.lists_lengths p p2 (by rw [n1, n2]; simp [hl]) hu', RcNeAt.lists_lengths p p2 (by rw [n1, n2]; simp [hl]) hu'⟩
end

section
variable {X : Cx}
def unlike : D → D → Bool
  | .lst a, .lst b => a.length != b.length
  | _, _ => false
theorem unlike_eq {a b : D} (h : unlike a b = true) : eqD a b = false := by
  unfold unlike at h
  split at h
  · simp only [eqD]; exact eqDs_len _ _ (by simpa using h)
  · cases h
def EqC (a b : D) : Prop := (D.eqb a = true ∧ D.eqb b = true ∧ a.dep ≤ 190) ∨ unlike a b = true
instance (a b : D) : Decidable (EqC a b) := inferInstanceAs (Decidable (_ ∨ _))
def rEqD (K : PySem.W.Frag) (neg : Bool) : R2 := fun x y H Q => ∃ a b, Rep K Any H x a ∧ Rep K Any H y b ∧ EqC a b ∧ Q (.bl (if neg then !eqD a b else eqD a b)) H
theorem unlike_at {pins : List (Addr × Obj)} {σ : L2.St} {H : Hp} {s : Shared} (I : Inv X pins σ H s) {A : Around} {v v' : V} {u u' : Value} {d d' : D} (hu : A.units < cLine) (r : Rep X.K Any H v d) (ru : RelV v u) (r' : Rep X.K Any H v' d') (ru' : RelV v' u') (h : unlike d d' = true) :
    RcAt A s u u' false ∧ RcNeAt A s u u' true := by
  unfold unlike at h
  split at h
  · obtain ⟨a, xs, rfl, ha, _, rs⟩ := r.lstE
    obtain ⟨a', xs', rfl, ha', _, rs'⟩ := r'.lstE
    cases ru
    cases ru'
    obtain ⟨its, rv, p, _⟩ := I.list (.of ha)
    obtain ⟨its', rv', p', _⟩ := I.list (.of ha')
    have e : (its.toArray.size != its'.toArray.size) = true := by
      rw [List.size_toArray, List.size_toArray, ← rv.length, ← rv'.length, rs.length, rs'.length]; exact h
    exact ⟨RcAt.lists_lengths p.isList p'.isList e hu, RcNeAt.lists_lengths p.isList p'.isList e hu⟩
  · cases h
theorem op_eqD (hu : X.A.units + 200 < cLine) : OpR X (compareOp .Eq) (rEqD X.K false) := by
  intro pins s σ H x y v u Q I rx ry ⟨a, b, ra, rb, hc, q⟩
  rcases hc with ⟨ha, hb, hd⟩ | hc
  · exact (rcAt_all I (A := X.A) (by omega) ra rx rb ry ha hb).1 X.prog X.w X.xe _ ⟨.bl _, H, I, rfl, q⟩
  · have q' : Q (.bl false) H := by have := unlike_eq hc; simpa [this] using q
    exact (unlike_at I (A := X.A) (by omega) ra rx rb ry hc).1 X.prog X.w X.xe _ ⟨.bl _, H, I, rfl, q'⟩
theorem op_neD (hu : X.A.units + 200 < cLine) : OpR X (compareOp .NotEq) (rEqD X.K true) := by
  intro pins s σ H x y v u Q I rx ry ⟨a, b, ra, rb, hc, q⟩
  rcases hc with ⟨ha, hb, hd⟩ | hc
  · exact (rcAt_all I (A := X.A) (by omega) ra rx rb ry ha hb).2 X.prog X.w X.xe _ ⟨.bl _, H, I, rfl, q⟩
  · have q' : Q (.bl true) H := by have := unlike_eq hc; simpa [this] using q
    exact (unlike_at I (A := X.A) (by omega) ra rx rb ry hc).2 X.prog X.w X.xe _ ⟨.bl _, H, I, rfl, q'⟩
def eqR (a b : D) : Res D := must (EqC a b) (.ok (.bl (eqD a b)))
def neR (a b : D) : Res D := must (EqC a b) (.ok (.bl (!eqD a b)))
theorem od_eq {K : PySem.W.Frag} : OpS K (rEqD K false) eqR := fun x y H a b d Q ra rb e q => by
  obtain ⟨h1, e2⟩ := must_inv e
  cases e2
  exact ⟨a, b, ra, rb, h1, q _ (sc_bl _)⟩
theorem od_ne {K : PySem.W.Frag} : OpS K (rEqD K true) neR := fun x y H a b d Q ra rb e q => by
  obtain ⟨h1, e2⟩ := must_inv e
  cases e2
  exact ⟨a, b, ra, rb, h1, q _ (sc_bl _)⟩
theorem Room.u200 {k : Nat} {A : Around} (r : Room k A) : A.units + 200 < cLine := by have := r.un; omega
end
end M

set_option Elab.async false
set_option linter.all false
set_option maxRecDepth 100000
set_option maxHeartbeats 4000000
namespace PySem
open Builtin
end PySem
namespace M
open PySem PySem.Spec L2
open PyProof.Rows hiding St

section
variable {X : Cx} {K : PySem.W.Frag}

theorem getItem_whole {prog : Program} {w : World} {A : Around} {E : Value → Shared → Prop} {s : Shared} {t sl : Addr} {items : Array Value} {vl vu : Value} {lo hi : Option Int} {Q : Value → Shared → Prop} (ht : IsTup s.heap t items) (hs : s.heap.IsSliceOf sl vl vu .none) (pl : IsPart vl lo) (pu : IsPart vu hi)
    (hw : HT.sIx items.size 0 lo = 0 ∧ HT.sIx items.size items.size hi = items.size) (h : Q (.ref t) s) : wpAny (model prog w) A (getItem (.ref t) (.ref sl)) Q E s := by
  obtain ⟨os, hos, hcs, hds⟩ := id hs
  have hTs : s.TypeIs (.ref sl) "slice" := ⟨os, hos, hcs⟩
  unfold getItem
  try with_reducible refine wpAny_holding ?_
  first | refine wpAny_bind (wpAny_pure ?_) | skip
  refine wpAny_bind (wpAny_sequenceKey ht.typeIs (by decide) ?_)
  refine wpAny_bind (wpAny_callSpecial?_slot (name := Str.ofString "__getitem__") ht.typeIs PyProof.Rows.slot_tuple_getitem
    (wpAny_call_entry PyProof.Rows.slot_tuple_getitem ht.typeIs entry_tuple_getitem ?_ (args_tuple_getitem _ _)))
  show wpAny _ _ (Builtin.Tuple.tupleItemsOf (.ref t) >>= _) _ _ s
  refine wpAny_bind (tupleItemsOf_ ht ?_)
  refine wpAny_bind (wpAny_typeOf hTs ?_)
  rw [if_pos (by decide)]
  refine wpAny_bind (HT.sliceApplied_gen hs pl pu ?_)
  have hyes : (((HT.sIx items.size 0 lo : Nat) : Int) == 0 && (1 : Int) == 1 && (HT.sIx items.size items.size hi - HT.sIx items.size 0 lo) == items.size) = true := by
    rw [hw.1, hw.2]; simp
  show wpAny _ _ (if (((HT.sIx items.size 0 lo : Nat) : Int) == 0 && (1 : Int) == 1 && (HT.sIx items.size items.size hi - HT.sIx items.size 0 lo) == items.size) = true then _ else _) _ _ s
  rw [if_pos hyes]
  show wpAny _ _ (Builtin.Tuple.tupleIsExact (.ref t) >>= _) _ _ s
  unfold Builtin.Tuple.tupleIsExact
  refine wpAny_bind (wpAny_bind (wpAny_typeOf ht.typeIs (wpAny_pure ?_)))
  show wpAny _ _ (if (Value.type "tuple" == Value.type "tuple") = true then _ else _) _ _ s
  rw [if_pos (by decide)]
  first
    | exact wpAny_bind (wpAny_rule (wpAny_bind (wpAny_pure (wpAny_pure ⟨_, rfl, wpAny_pure h⟩))))
    | exact wpAny_bind (wpAny_rule (wpAny_pure ⟨_, rfl, wpAny_pure h⟩))
    | exact wpAny_bind (wpAny_rule (wpAny_bind (wpAny_pure ⟨_, rfl, wpAny_pure h⟩)))
def rSlW (K : PySem.W.Frag) : V → Option Int → Option Int → Hp → VK → Prop := fun x lo hi H Q => ∃ a xs, x = .ref a ∧ SqT K H a xs ∧ (HT.sIx xs.length 0 lo = 0 ∧ HT.sIx xs.length xs.length hi = xs.length) ∧ Q (.ref a) H
theorem sl_whole : SlR X (rSlW X.K) := by
  intro pins s σ H x v vl vu lo hi sl Q I rx hs pl pu ⟨a, xs, ex, hx, hw, q⟩
  subst ex
  cases rx
  obtain ⟨its, r, ht, hz⟩ := I.tuple hx
  have hlen : its.toArray.size = xs.length := by rw [List.size_toArray]; exact r.length.symm
  exact ⟨"tuple", _, PyProof.Rows.slot_tuple_getitem.lookup, ht.typeIs, getItem_whole ht hs pl pu (by rw [hlen]; exact hw) ⟨.ref a, H, I, rfl, q⟩⟩
def cutS (z : Str) (lo hi : Option Int) : Str :=
  if ((Builtin.Str.strSliceIndices lo hi 1 z.length).length == z.length) = true then z else ⟨((Builtin.Str.strSliceIndices lo hi 1 z.length).filterMap (z.cps[·]?)).toArray⟩
theorem cutS_len (z : Str) (lo hi : Option Int) : (cutS z lo hi).length ≤ z.length := by
  unfold cutS
  split
  · exact Nat.le_refl _
  · show ((Builtin.Str.strSliceIndices lo hi 1 z.length).filterMap (z.cps[·]?)).toArray.size ≤ z.length
    rw [List.size_toArray]
    exact Nat.le_trans (List.length_filterMap_le _ _) (PyProof.Rows.indices_len_le lo hi z.length)
def rSlS : V → Option Int → Option Int → Hp → VK → Prop := fun x lo hi H Q => ∃ z, x = .str z ∧ z.length ≤ sizeLine ∧ Q (.str (cutS z lo hi)) H
theorem part_of {v : Value} {o : Option Int} (h : IsPart v o) : ∃ p : Option (Int × Tok), v = partValue p ∧ p.map (·.1) = o := by
  cases h with
  | none => exact ⟨none, rfl, rfl⟩
  | int i t => exact ⟨some (i, t), rfl, rfl⟩
theorem sl_str : SlR X rSlS := by
  intro pins s σ H x v vl vu lo hi sl Q I rx hs pl pu ⟨z, ex, hz, q⟩
  subst ex
  obtain ⟨t, rfl⟩ := rx
  obtain ⟨l, rfl, el⟩ := part_of pl
  obtain ⟨u, rfl, eu⟩ := part_of pu
  refine ⟨"str", _, F.slot_str_getitem.lookup, typeIs_str s z t, wpAny_getItem_str_slice (l := l) (u := u) (st := none) hs rfl ?_⟩
  have hp : slicePicked z l u none = Builtin.Str.strSliceIndices lo hi 1 z.length := by unfold slicePicked; rw [el, eu]; rfl
  unfold sliceMade
  rw [hp]
  by_cases hc : ((Builtin.Str.strSliceIndices lo hi 1 z.length).length == z.length) = true
  · have e : cutS z lo hi = z := by unfold cutS; rw [if_pos hc]
    rw [e] at q
    rw [if_pos (by simpa using hc)]
    exact ⟨.str z, H, I, ⟨t, rfl⟩, q⟩
  · have e : cutS z lo hi = ⟨((Builtin.Str.strSliceIndices lo hi 1 z.length).filterMap (z.cps[·]?)).toArray⟩ := by unfold cutS; rw [if_neg hc]
    have hl := cutS_len z lo hi
    rw [e] at q hl
    rw [if_neg (by simpa using hc)]
    exact ⟨Nat.le_trans hl hz, .str _, H, I.tok _, ⟨_, rfl⟩, q⟩
def slD : D → Option Int → Option Int → Res D
  | .tup ds, lo, hi => (.ok (.tup (cutD ds lo hi)))
  | .lst ds, lo, hi => (.ok (.lst (cutD ds lo hi)))
  | .str z, lo, hi => .ok (.str (cutS z lo hi))
  | _, _, _ => .stuck
theorem cut_whole {ds : List D} {lo hi : Option Int} (h1 : HT.sIx ds.length 0 lo = 0) (h2 : HT.sIx ds.length ds.length hi = ds.length) : cutD ds lo hi = ds := by
  unfold cutD; rw [h1, h2]; simp
theorem slice_V {A : Addr → Prop} {x : V} {H : Hp} {a d : D} {lo hi : Option Int} {Q : VK} (r3 : Rep X.K A H x a) (e4 : slD a lo hi = .ok d) (q : ∀ v H', Same H H' → Rep X.K (fun c => H c = none ∨ A c) H' v d → NewTop H v → Q v H') :
    rSlT X.K x lo hi H Q ∨ rSlW X.K x lo hi H Q ∨ rSlL X.K x lo hi H Q ∨ rSlS x lo hi H Q := by
  cases a with
  | tup ds =>
    cases e4
    obtain ⟨b, xs, rfl, hb, rs⟩ := r3.tupE
    have hl := rs.length
    by_cases hw : HT.sIx xs.length 0 lo = 0 ∧ HT.sIx xs.length xs.length hi = xs.length
    · refine .inr (.inl ⟨b, xs, rfl, .of hb, hw, ?_⟩)
      rw [hl] at hw
      rw [cut_whole hw.1 hw.2] at q
      exact q _ H (Same.refl H) (.tup hb (rs.weak orA)) (tup_top hb)
    · exact .inl ⟨b, xs, rfl, .of hb, hw, fun p hp => q _ _ (Same.upd hp) (.tup upd_same (((cut_rep rs).weak orA).grow (Same.upd hp))) (new_top (Same.refl H) hp)⟩
  | lst ds =>
    cases e4
    obtain ⟨b, xs, rfl, hb, _, rs⟩ := r3.lstE
    exact .inr (.inr (.inl ⟨b, xs, rfl, .of hb, fun p hp => q _ _ (Same.upd hp) (.lst upd_same (.inl hp) (((cut_rep rs.low).laid hp).weak fun c z => ⟨.inr z.1, z.2⟩)) (new_top (Same.refl H) hp)⟩))
  | str z =>
    cases e4
    obtain ⟨rfl, hz⟩ := r3.strE
    have hl := Nat.le_trans (cutS_len z lo hi) hz
    exact .inr (.inr (.inr ⟨z, rfl, hz, q _ H (Same.refl H) (.str _ hl) (sc_top (sc_str (K := X.K) _ hl))⟩))
  | _ => cases e4
theorem de_slice {e : Expr} {lo hi : Option Expr} {p2 pos : Pos} {f : Sl → Res D} {fl fh : Sl → Res (Option Int)} (he : DE X .s e f) (hl : DO X lo fl) (hh : DO X hi fh) :
    DE X .t (.Subscript e (.Slice lo hi none p2) pos) (slice3 f fl fh slD) := by
 with_unfolding_all exact (
  PE.imp (pe_slice (sl_tup.or (sl_whole.or (sl_list.or sl_str))) he hl hh) fun σ H Q ⟨G, H0, env, d, k, ef, q⟩ => by
    obtain ⟨a, e1, ef⟩ := bind_inv ef
    obtain ⟨lo', e2, ef⟩ := bind_inv ef
    obtain ⟨hi', e3, e4⟩ := bind_inv ef
    refine ⟨G, H0, env, a, k, e1, fun x H1 s1 r1 _ => ⟨G, H0, env, lo', k.grow s1, e2, fun H2 s2 => ⟨G, H0, env, hi', (k.grow s1).grow s2, e3, fun H3 s3 => ?_⟩⟩⟩
    have sm := s1.trans (s2.trans s3)
    exact slice_V ((r1.grow s2).grow s3) e4 fun v H4 s4 r4 nt => q v H4 (sm.trans s4) (r4.weak fun c z => z.elim (fun z => k.new c (Same.free sm z)) fun z => z) (nt.grow sm))
def MtD (K : PySem.W.Frag) (r : V → List V → Hp → VK → Prop) (g : D → List D → Res D) : Prop := ∀ (x : V) (xs : List V) (H : Hp) (a : D) (ds : List D) (d : D) (Q : VK), Rep K Any H x a → Reps K Any H xs ds → g a ds = .ok d → (∀ v, Sc K v d → Q v H) → r x xs H Q
def smF (f : Sl → Res D) (fa : Sl → Res (List D)) (g : Str → List D → Res D) : Sl → Res D := fun env => f env >>= fun a => match a with
  | .str z => fa env >>= fun ds => g z ds
  | _ => .stuck
def findD (z : Str) : List D → Res D
  | [.str y] => .ok (.int (Txt.find z y))
  | _ => .stuck
def upperD (z : Str) : List D → Res D
  | [] => must (z.length ≤ 1000) (.ok (.str (Txt.upper z)))
  | _ => .stuck
def cD : Sl → Res D := fun _ => .ok (.dic [] [])
theorem de_dict0 {pos : Pos} : DE X .t (.Dict [] [] pos) cD := by
 with_unfolding_all exact (PE.imp pe_dnewK fun σ H Q ⟨G, H0, env, d, k, ef, q⟩ => by
  cases ef
  exact fun p hp => q _ _ (Same.upd hp) (.dic upd_same (k.new p hp) rfl rfl .nil) (new_top (Same.refl H) hp))
def negD : D → Res D
  | .int i => .ok (.int (-i))
  | _ => .stuck
def negF (f : Sl → Res D) : Sl → Res D := fun env => f env >>= negD
theorem de_neg {l l' : Lv} {e : Expr} {pos : Pos} {f : Sl → Res D} (h : DE X l e f) : DE X l' (.UnaryOp .USub e pos) (negF f) := by
 with_unfolding_all exact (PE.imp (pe_un un_neg h) fun σ H Q ⟨G, H0, env, d, k, ef, q⟩ => by
  obtain ⟨a, e1, e2⟩ := bind_inv ef
  refine ⟨G, H0, env, a, k, e1, fun v H' s r _ => ?_⟩
  cases a with
  | int i => cases e2; exact ⟨i, r.intE, q _ H' s (.int _) (sc_int (K := X.K) _).T⟩
  | _ => cases e2)
end
end M
namespace PySem.AutoSeq1
open PySem Builtin
end PySem.AutoSeq1
namespace M
open PySem PySem.Spec L2
open PyProof.Rows hiding St
section
variable {X : Cx}
def rRepT (K : PySem.W.Frag) : R2 := fun x y H Q => ∃ l k xs, x = .ref l ∧ y = .int k ∧ H l = some (.tup xs) ∧ 2 ≤ k ∧ k < 1000000 ∧ xs.isEmpty = false ∧ xs.length * k.toNat ≤ sizeLine ∧
  ∀ p, H p = none → Q (.ref p) (upd H p (.tup (List.replicate k.toNat xs).flatten))
def repT : D → D → Res D
  | .tup ds, .int k => must (2 ≤ k ∧ k < 1000000 ∧ ds.isEmpty = false ∧ ds.length * k.toNat ≤ sizeLine) (.ok (.tup (List.replicate k.toNat ds).flatten))
  | _, _ => .stuck
end
end M

set_option Elab.async false
set_option linter.all false
set_option maxRecDepth 100000
set_option maxHeartbeats 4000000
namespace M
open PySem PySem.Spec L2
open PyProof.Rows hiding St

abbrev subI : D → D → Res D := iOp TrueC fun i j => .int (i - j)
abbrev mulI : D → D → Res D := iOp MulC fun i j => .int (i * j)
abbrev divI : D → D → Res D := iOp DivC fun i j => .int (i / j)
abbrev modI : D → D → Res D := iOp PosC fun i j => .int (i % j)
abbrev powI : D → D → Res D := iOp PowC fun i j => .int (i ^ j.toNat)
abbrev ltI : D → D → Res D := iOp TrueC fun i j => .bl (decide (i < j))
abbrev leI : D → D → Res D := iOp TrueC fun i j => .bl (decide (i ≤ j))
abbrev gtI : D → D → Res D := iOp TrueC fun i j => .bl (decide (j < i))
abbrev geI : D → D → Res D := iOp TrueC fun i j => .bl (decide (j ≤ i))
structure Av (P : Program) (w : World) (K : PySem.W.Frag) (mg : Str → Option Value) (base : Heap) (k : Nat) (x : Str) (ps : List Str) (fr : Bool) (F : List D → Res D) : Prop where
  ex : ∃ f fd, FnOk P w K mg base CX0 k f fd ps (spF K fr ps.length F) ∧ mg x = some (.ref f) ∧ PySem.W.keepIn K (.ref f) = true ∧ Binds K fd ps []
theorem Av.mono {P : Program} {w : World} {K : PySem.W.Frag} {mg : Str → Option Value} {base : Heap} {j k : Nat} {x : Str} {ps : List Str} {fr : Bool} {F : List D → Res D} (h : Av P w K mg base j x ps fr F) (hj : j ≤ k) : Av P w K mg base k x ps fr F :=
  let ⟨f, fd, a, b⟩ := h.ex
  ⟨f, fd, a.mono hj, b⟩
section
variable {X : Cx} {k : Nat} {x : Str} {ps : List Str} {fr : Bool} {F : List D → Res D} {e : Expr} {es : List Expr} {p pos : Pos} {g : Sl → Res (List D)}
theorem Av.call {n : Nat} (A : Av X.prog X.w X.K X.mg X.base k x ps fr F) (hr : Room k X.A) (ha : DA X .s (e :: es) g) (hn : ps.length = n := by rfl) (hg : Gl X x := by rfl) (hdb : (x == ("__debug__" : Str)) = false := by decide)
    (he : starEach (e :: es) X.env = (false, eval e X.env) :: starEach es X.env := by exact star_plain rfl) (hpl : (backTo pos (starEach es X.env)).any (·.1) = false := by exact any_plain rfl) : DE X .s (.Call (.Name x p) (e :: es) [] pos) (callF n F g) := by
  subst hn
  obtain ⟨f, fd, h1, h2, h3, h4⟩ := A.ex
  exact de_call h1 hr hg h2 h3 h4 pass0 ha hdb he hpl
theorem Av.callT {n : Nat} (A : Av X.prog X.w X.K X.mg X.base k x ps true F) (hr : Room k X.A) (ha : DA X .s (e :: es) g) (hn : ps.length = n := by rfl) (hg : Gl X x := by rfl) (hdb : (x == ("__debug__" : Str)) = false := by decide)
    (he : starEach (e :: es) X.env = (false, eval e X.env) :: starEach es X.env := by exact star_plain rfl) (hpl : (backTo pos (starEach es X.env)).any (·.1) = false := by exact any_plain rfl) : DE X .t (.Call (.Name x p) (e :: es) [] pos) (callF n F g) := by
  subst hn
  obtain ⟨f, fd, h1, h2, h3, h4⟩ := A.ex
  exact de_callT h1 hr hg h2 h3 h4 pass0 ha hdb he hpl
theorem Av.callA {n : Nat} (A : Av X.prog X.w X.K X.mg X.base k x ps fr F) (hr : Room k X.A) (ha : DA X .b (e :: es) g) (hn : ps.length = n := by rfl) (hg : Gl X x := by rfl) (hdb : (x == ("__debug__" : Str)) = false := by decide)
    (he : starEach (e :: es) X.env = (false, eval e X.env) :: starEach es X.env := by exact star_plain rfl) (hpl : (backTo pos (starEach es X.env)).any (·.1) = false := by exact any_plain rfl) : DE X .b (.Call (.Name x p) (e :: es) [] pos) (callF n F g) := by
  subst hn
  obtain ⟨f, fd, h1, h2, h3, h4⟩ := A.ex
  exact de_callA h1 hr hg h2 h3 h4 pass0 ha hdb he hpl
end
def runF (fr : Bool) (n : Nat) (g : Sl → Res Out) (ds : List D) : Res D := match g (startE n ds) with
  | .ok (.rt fr' d) => if fr = true ∧ fr' = false then .stuck else .ok d
  | .ok (.nx _) => .ok .non
  | _ => .stuck
theorem runF_meets {fr : Bool} {n : Nat} {g : Sl → Res Out} {ds : List D} {d : D} (h : runF fr n g ds = .ok d) : Meets fr n g ds d := by
  unfold runF at h
  split at h
  · rename_i fr' d' e
    split at h
    · cases h
    · rename_i hn
      cases h
      refine .inl ⟨fr', e, fun hf => ?_⟩
      cases fr' with
      | true => rfl
      | false => exact absurd ⟨hf, rfl⟩ hn
  · rename_i env' e
    cases h
    exact .inr ⟨rfl, env', e⟩
  · cases h
section
variable {P : Program} {w : World} {K : PySem.W.Frag} {mg : Str → Option Value} {base : Heap}
theorem av_ok {x : Str} {st : Stmt} {f : Addr} {fd : FuncData} {N ps : List Str} {k : Nat} (fr : Bool) {g : Sl → Res Out} (Fu : Fun K x x st f fd) (hmg : mg x = some (.ref f)) (S : FnScope N ps (defScope st)) (hbi : Binds K fd ps [])
    (hb : ∀ (cdv : Value) (A : Around) (outer : List Env) (s : Shared) (H : Hp) (E : XK), Room k (A.deeper (envOfC x (defScope st) s.heap.objs.size f cdv)) → DSs (cxOf CX0 P w K mg base N x (defScope st) f cdv A outer s H E).nox (defBody st) g) :
    Av P w K mg base (k + 1) x ps fr (runF fr N.length g) :=
  ⟨f, fd, fn_ok Fu S hb fun ds d _ h => runF_meets h, hmg, Fu.kp, hbi⟩
theorem av_zero {x : Str} {st : Stmt} {f : Addr} {fd : FuncData} {ps : List Str} {k : Nat} (fr : Bool) (Fu : Fun K x x st f fd) (hmg : mg x = some (.ref f)) (hbi : Binds K fd ps []) : Av P w K mg base k x ps fr (fun _ => .stuck) :=
  ⟨f, fd, ⟨fun vs H Q E ⟨B, ds, d, hl, _⟩ => hl, fun A outer s H args us vs Q E _ _ _ _ ⟨B, ds, d, _, _, e, _⟩ => by cases e⟩, hmg, Fu.kp, hbi⟩
end

theorem fn_of_body {P : Program} {w : World} {K : PySem.W.Frag} {mg : Str → Option Value} {base : Heap} {x : Str} {st : Stmt} {f : Addr} {fd : FuncData} {N ps : List Str} {k : Nat} (fr : Bool) {g : Sl → Res Out} (Fu : Fun K x x st f fd) (S : FnScope N ps (defScope st))
    (hb : ∀ (cdv : Value) (A : Around) (outer : List Env) (s : Shared) (H : Hp) (E : XK), Room k (A.deeper (envOfC x (defScope st) s.heap.objs.size f cdv)) → DSs (cxOf CX0 P w K mg base N x (defScope st) f cdv A outer s H E).nox (defBody st) g) :
    FnOk P w K mg base CX0 (k + 1) f fd ps (spF K fr ps.length (runF fr N.length g)) := fn_ok Fu S hb fun ds d _ h => runF_meets h

def capOk (N0 : List Str) (sc0 scope : Scope) (N : List Str) (m : Nat) (js : List Nat) : Bool := (List.range js.length).all fun k => match N[m + k]?, (js[k]?).bind (N0[·]?) with
  | some y, some y' => y == y' && (sc0.names.lookup y == some .cell || sc0.names.lookup y == some .free) && scope.names.lookup y == some .free
  | _, _ => false
def scOk (N0 : List Str) (sc0 scope : Scope) (cl : List (Str × Addr)) (N : List Str) (m : Nat) (js : List Nat) : Bool :=
  (scope.names.all fun x => x.2 != .local || scope.names.lookup x.1 == some .local) && (scope.names.all fun x => x.2 != .cell) && (scope.names.all fun y => y.2 != .free || cl.any fun p => p.1 == y.1) &&
    capOk N0 sc0 scope N m js && (match N[m + js.length]? with
      | some y => scope.names.all fun p => p.1 != y
      | none => true) && N.length == m + js.length + 1
theorem any_lookup {cl : List (Str × Addr)} {y : Str} (h : (cl.any fun p => p.1 == y) = true) : ∃ c, cl.lookup y = some c := by
  induction cl with
  | nil => cases h
  | cons p r ih =>
    obtain ⟨n, c⟩ := p
    rw [List.any_cons, Bool.or_eq_true] at h
    simp only [List.lookup_cons]
    cases e : y == n with
    | true => exact ⟨c, rfl⟩
    | false =>
      rcases h with h | h
      · have : n = y := by simpa using h
        subst this
        simp at e
      · exact ih h
theorem comp_sc {X : Cx} {scope : Scope} {cl : List (Str × Addr)} {N : List Str} {m : Nat} {js : List Nat} (clos : closureFor scope X.env = pure cl) (kind : scope.kind = .function) (nd : N.Nodup) (cl2 : ∀ p ∈ cl, X.env.cells.lookup p.1 = some p.2)
    (h : scOk X.N X.env.scope scope cl N m js = true) : CompSc X scope cl N m js := by
  simp only [scOk, Bool.and_eq_true, List.all_eq_true, beq_iff_eq] at h
  obtain ⟨⟨⟨⟨⟨h1, h2⟩, h3⟩, h4⟩, h5⟩, h6⟩ := h
  refine ⟨clos, kind, fun x hx e => ?_, fun y hy e => ?_, fun x c e => cl2 (x, c) (PySem.mem_of_lookup e), fun y hy e => ?_, nd, h6, fun k j e => ?_, fun y e p hp => ?_⟩
  · have := h1 x hx
    rw [e] at this
    simpa using this
  · have := h2 y hy
    rw [e] at this
    simp at this
  · have := h3 y hy
    rw [e] at this
    exact any_lookup (by simpa using this)
  · have hk : k < js.length := (List.getElem?_eq_some_iff.mp e).1
    have := List.all_eq_true.mp h4 k (List.mem_range.mpr hk)
    rw [e] at this
    simp only [Option.bind_some] at this
    cases e1 : N[m + k]? with
    | none => rw [e1] at this; cases this
    | some y =>
      cases e2 : X.N[j]? with
      | none => rw [e1, e2] at this; cases this
      | some y' =>
        rw [e1, e2] at this
        simp only [Bool.and_eq_true, Bool.or_eq_true, beq_iff_eq] at this
        obtain ⟨⟨g1, g2⟩, g3⟩ := this
        subst g1
        exact ⟨y, rfl, rfl, g2, g3⟩
  · rw [e] at h5
    have := List.all_eq_true.mp h5 p hp
    simpa using this
end M

set_option Elab.async false
set_option linter.all false
namespace M
open PySem PySem.Spec L2
theorem forD_go {body : D → Sl → Res Out} {d : D} {ds : List D} {env env' : Sl} (h : body d env = .ok (.nx env')) : forD body (d :: ds) env = forD body ds env' := by
  show (body d env >>= _) = _
  rw [h]; rfl
theorem forD_fold {α : Type} {body : D → Sl → Res Out} (E : α → Sl) (step : α → D → α) (P : List D → α → Prop)
    (hb : ∀ d ds a, P (d :: ds) a → body d (E a) = .ok (.nx (E (step a d))) ∧ P ds (step a d)) : ∀ (ds : List D) (a : α), P ds a → forD body ds (E a) = .ok (.nx (E (ds.foldl step a)))
  | [], a, _ => rfl
  | d :: ds, a, h => by
    obtain ⟨h1, h2⟩ := hb d ds a h
    rw [forD_go h1, forD_fold E step P hb ds _ h2]; rfl
theorem compD_map {n : Nat} {t : D → Sl → Res Sl} {fe : Sl → Res D} {E : D → List D → Sl} (h : D → D) (P : D → Prop)
    (hn : ∀ x acc, ownL n (E x acc) = .ok acc) (hs : ∀ x acc acc', (E x acc).set n (.own (.lst acc')) = E x acc')
    (ht : ∀ x d acc, t d (E x acc) = .ok (E d acc)) (hf : ∀ d acc, P d → fe (E d acc) = .ok (h d)) :
    ∀ (ds : List D) (x : D) (acc : List D), (∀ d ∈ ds, P d) → acc.length + ds.length ≤ sizeLine → ∃ y, compD n t trueB fe ds (E x acc) = .ok (E y (acc ++ ds.map h))
  | [], x, acc, _, _ => ⟨x, by simp [compD]⟩
  | d :: ds, x, acc, hP, hl => by
    simp only [List.length_cons] at hl
    obtain ⟨y, hy⟩ := compD_map h P hn hs ht hf ds d (acc ++ [h d]) (fun e he => hP e (by simp [he])) (by simp only [List.length_append, List.length_cons, List.length_nil]; omega)
    refine ⟨y, ?_⟩
    have h1 : compD n t trueB fe (d :: ds) (E x acc) = compD n t trueB fe ds (E d (acc ++ [h d])) := by
      show (t d (E x acc) >>= _) = _
      rw [ht]
      show (fe (E d acc) >>= _) = _
      rw [hf d acc (hP d (by simp))]
      show (ownL n (E d acc) >>= _) = _
      rw [hn]
      show must _ _ = _
      rw [must_pos (by omega), hs]
    rw [h1, hy]; simp
theorem comp0 {fi : Sl → Res (List D)} {fe : Sl → Res D} {env : Sl} {ds : List D} (h : D → D) (P : D → Prop) (hi : fi env = .ok ds) (hP : ∀ d ∈ ds, P d) (hl : ds.length ≤ sizeLine)
    (hf : ∀ d acc, P d → fe [.shr d, .own (.lst acc)] = .ok (h d)) : compO false 1 [] fi (gN 0) trueB fe env = .ok (.lst (ds.map h)) := by
  show (fi env >>= _) = _
  rw [hi]
  show (compD 1 (gN 0) trueB fe ds [.un, .own (.lst [])] >>= _) = _
  cases ds with
  | nil => rfl
  | cons d ds =>
    simp only [List.length_cons] at hl
    obtain ⟨y, hy⟩ := compD_map (n := 1) (t := gN 0) (fe := fe) (E := fun x acc => [.shr x, .own (.lst acc)]) h P (fun _ _ => rfl) (fun _ _ _ => rfl) (fun _ _ _ => rfl) hf ds d [h d] (fun e he => hP e (by simp [he])) (by simp only [List.length_cons, List.length_nil]; omega)
    have h1 : compD 1 (gN 0) trueB fe (d :: ds) [.un, .own (.lst [])] = compD 1 (gN 0) trueB fe ds [.shr d, .own (.lst [h d])] := by
      show (fe [.shr d, .own (.lst [])] >>= _) = _
      rw [hf d [] (hP d (by simp))]
      exact must_pos (c := ([] : List D).length < sizeLine) (by simp only [List.length_nil]; omega)
    rw [h1, hy]; rfl
end M
namespace M
open PySem PySem.Spec L2
variable {env env' : Sl} {f f1 f2 f3 : Sl → Res D} {g g1 g2 : Sl → Res Out} {t t1 t2 : Sl → Res Bool} {fa : Sl → Res (List D)} {i : Nat} {d : D} {b : Bool}
@[simp] theorem ev_ok {α β : Type} {a : α} {f : α → Res β} : (Res.ok a >>= f) = f a := rfl
@[simp] theorem ev_stuck {α β : Type} {f : α → Res β} : ((Res.stuck : Res α) >>= f) = .stuck := rfl
@[simp] theorem ev_ite {α β : Type} {c : Prop} [Decidable c] {a b : Res α} {f : α → Res β} : ((if c then a else b) >>= f) = if c then a >>= f else b >>= f := by split <;> rfl
def outK (g : Sl → Res Out) : Out → Res Out
  | .nx e => g e
  | o => .ok o
@[simp] theorem outK_nx : outK g (.nx env) = g env := rfl
@[simp] theorem outK_rt {fr : Bool} : outK g (.rt fr d) = .ok (.rt fr d) := rfl
@[simp] theorem ev_seq : seqO g1 g2 env = (g1 env >>= outK g2) := by
  show (g1 env >>= _) = _
  congr 1; funext o; cases o <;> rfl
@[simp] theorem ev_setO : setO i f env = (f env >>= fun d => .ok (.nx (env.set i (slotN d)))) := rfl
@[simp] theorem ev_setOs : setOs i f env = (f env >>= fun d => .ok (.nx (env.set i (.shr d)))) := rfl
@[simp] theorem ev_retO : retO f env = (f env >>= fun d => .ok (.rt true d)) := rfl
@[simp] theorem ev_retS : retS f env = (f env >>= fun d => .ok (.rt false d)) := rfl
@[simp] theorem ev_nxO : nxO env = .ok (.nx env) := rfl
@[simp] theorem ev_ifO : ifO t g1 g2 env = (t env >>= fun b => if b = true then g1 env else g2 env) := rfl
@[simp] theorem ev_andB : andB t1 t2 env = (t1 env >>= fun b => if b = true then t2 env else .ok false) := rfl
@[simp] theorem ev_orB : orB t1 t2 env = (t1 env >>= fun b => if b = true then .ok true else t2 env) := rfl
@[simp] theorem ev_notB : notB t env = (t env >>= fun b => .ok (!b)) := rfl
def asBD : D → Res Bool
  | .bl b => .ok b
  | _ => .stuck
@[simp] theorem asBD_bl : asBD (.bl b) = .ok b := rfl
@[simp] theorem ev_asB : asB f env = (f env >>= asBD) := rfl
@[simp] theorem ev_two {h : D → D → Res D} : two f1 f2 h env = (f1 env >>= fun x => f2 env >>= fun y => h x y) := rfl
@[simp] theorem ev_cI {j : Int} : cI j env = .ok (.int j) := rfl
@[simp] theorem ev_cB : cB b env = .ok (.bl b) := rfl
@[simp] theorem ev_cN : cN env = .ok .non := rfl
@[simp] theorem ev_cS {x : Str} : cS x env = .ok (.str x) := rfl
@[simp] theorem ev_cons1 : cons1 f fa env = (f env >>= fun d => fa env >>= fun ds => .ok (d :: ds)) := rfl
@[simp] theorem ev_nil1 : nil1 env = .ok [] := rfl
@[simp] theorem ev_app {h : List D → Res D} : app fa h env = (fa env >>= h) := rfl
@[simp] theorem ev_callF {n : Nat} {F : List D → Res D} : callF n F fa env = (fa env >>= fun ds => must (ds.length = n) (F ds)) := rfl
@[simp] theorem ev_tupF : tupF fa env = (fa env >>= fun ds => must (ds.length ≤ sizeLine) (.ok (.tup ds))) := rfl
@[simp] theorem ev_lstF : lstF fa env = (fa env >>= fun ds => must (ds.length ≤ sizeLine) (.ok (.lst ds))) := rfl
@[simp] theorem ev_isiF {T : String} : isiF T f env = (f env >>= isiD T) := rfl
@[simp] theorem ev_notF : notF f env = (f env >>= notD) := rfl
@[simp] theorem ev_notD : notD (.bl b) = .ok (.bl !b) := rfl
@[simp] theorem ev_ifD : ifD t f1 f2 env = (t env >>= fun b => if b = true then f1 env else f2 env) := rfl
@[simp] theorem ev_itF : itF f env = (f env >>= iterD) := rfl
@[simp] theorem ev_forO {tt : D → Sl → Res Sl} {fi : Sl → Res (List D)} : forO fi tt g env = (fi env >>= fun ds => forD (turnD tt g) ds env) := rfl
@[simp] theorem ev_slice {fl fh : Sl → Res (Option Int)} {h : D → Option Int → Option Int → Res D} : slice3 f fl fh h env = (f env >>= fun a => fl env >>= fun lo => fh env >>= fun hi => h a lo hi) := rfl
@[simp] theorem ev_noneI : noneI env = .ok none := rfl
@[simp] theorem ev_someI : someI f env = (f env >>= asI) := rfl
@[simp] theorem ev_asI {j : Int} : asI (.int j) = .ok (some j) := rfl
@[simp] theorem ev_rdS : rdS i env = match env[i]? with | some (.shr d) => .ok d | _ => .stuck := rfl
@[simp] theorem ev_rdB : rdB i env = match env[i]? with | some (.shr d) => .ok d | some (.own d) => .ok d | _ => .stuck := rfl
def toK (g : Res D) (w : Bool) : D → Res D
  | .bl b => if b = w then g else .ok (.bl b)
  | _ => .stuck
@[simp] theorem toK_bl {r : Res D} {w : Bool} : toK r w (.bl b) = if b = w then r else .ok (.bl b) := rfl
@[simp] theorem ev_toB {w : Bool} : toB f1 f2 w env = (f1 env >>= toK (f2 env) w) := by
  show (f1 env >>= _) = _
  congr 1
def chK (f : Res D) (g' : D → D → Res D) (y : D) : D → Res D
  | .bl true => f >>= fun w => g' y w
  | .bl false => .ok (.bl false)
  | _ => .stuck
@[simp] theorem chK_bl {r : Res D} {h : D → D → Res D} {y : D} : chK r h y (.bl b) = if b = true then r >>= fun w => h y w else .ok (.bl false) := by cases b <;> rfl
@[simp] theorem ev_chain {h h' : D → D → Res D} : chain f1 f2 f3 h h' env = (f1 env >>= fun x => f2 env >>= fun y => h x y >>= chK (f3 env) h' y) := by
  show (f1 env >>= _) = _
  congr 1
@[simp] theorem ev_must {α : Type} {c : Prop} [Decidable c] {r : Res α} : must c r = if c then r else .stuck := rfl
@[simp] theorem ev_iOp {C : Int → Int → Prop} [∀ i j, Decidable (C i j)] {h : Int → Int → D} {m n : Int} : iOp C h (.int m) (.int n) = if C m n then .ok (h m n) else .stuck := rfl
def runK (fr : Bool) : Out → Res D
  | .rt fr' d => if fr = true ∧ fr' = false then .stuck else .ok d
  | .nx _ => .ok .non
  | _ => .stuck
theorem ev_run {fr : Bool} {n : Nat} {ds : List D} {o : Out} (h : g (startE n ds) = .ok o) : runF fr n g ds = runK fr o := by
  unfold runF; rw [h]; cases o <;> rfl
end M
namespace M
theorem whileD_go {n : Nat} {t : Sl → Res Bool} {g : Sl → Res Out} {env env' : Sl} (ht : t env = .ok true) (h : g env = .ok (.nx env')) : whileD (n + 1) t g env = whileD n t g env' := by
  rw [whileD, ht, ev_ok, if_pos rfl, h]; rfl
theorem whileD_rt {n : Nat} {t : Sl → Res Bool} {g : Sl → Res Out} {env : Sl} {fr : Bool} {d : D} (ht : t env = .ok true) (h : g env = .ok (.rt fr d)) : whileD (n + 1) t g env = .ok (.rt fr d) := by
  rw [whileD, ht, ev_ok, if_pos rfl, h]; rfl
theorem whileD_end {n : Nat} {t : Sl → Res Bool} {g : Sl → Res Out} {env : Sl} (ht : t env = .ok false) : whileD (n + 1) t g env = .ok (.nx env) := by
  rw [whileD, ht, ev_ok, if_neg (by simp)]
end M

set_option Elab.async false
set_option linter.all false
namespace M
open PySem PySem.Spec L2
def kids : D → List D
  | .tup (_ :: r) => r
  | _ => []
mutual
def num : D → Nat
  | .tup (_ :: r) => 1 + nums r
  | _ => 1
def nums : List D → Nat
  | [] => 0
  | d :: r => num d + nums r
end
mutual
def hgt : D → Nat
  | .tup (_ :: r) => 1 + hgts r
  | _ => 1
def hgts : List D → Nat
  | [] => 0
  | d :: r => max (hgt d) (hgts r)
end
mutual
def pts : D → List D
  | .tup (x :: r) => .tup (x :: r) :: ptss r
  | d => [d]
def ptss : List D → List D
  | [] => []
  | d :: r => pts d ++ ptss r
end
def noScr : D → Bool | .scr _ => false | .exn _ => false | .fdc _ _ => false | .hdc _ _ => false | _ => true
mutual
def fine : D → Bool
  | .scr _ => false
  | .exn _ => false
  | .fdc _ _ => false
  | .hdc _ _ => false
  | .tup ds => decide (ds.length ≤ 11) && fines ds
  | _ => true
def fines : List D → Bool
  | [] => true
  | d :: r => fine d && fines r
end
theorem num_eq (d : D) : num d = 1 + nums (kids d) := by
  cases d with
  | tup ds => cases ds <;> simp [num, kids, nums]
  | _ => simp [num, kids, nums]
theorem hgt_eq (d : D) : hgt d = 1 + hgts (kids d) := by
  cases d with
  | tup ds => cases ds <;> simp [hgt, kids, hgts]
  | _ => simp [hgt, kids, hgts]
theorem pts_eq (d : D) : pts d = d :: ptss (kids d) := by
  cases d with
  | tup ds => cases ds <;> simp [pts, kids, ptss]
  | _ => simp [pts, kids, ptss]
theorem nums_app (a b : List D) : nums (a ++ b) = nums a + nums b := by
  induction a with
  | nil => simp [nums]
  | cons d r ih => simp [nums, ih]; omega
theorem hgts_app (a b : List D) : hgts (a ++ b) = max (hgts a) (hgts b) := by
  induction a with
  | nil => simp [hgts]
  | cons d r ih => simp [hgts, ih]
theorem fine_scr {d : D} (h : fine d = true) : noScr d = true := by
  cases d <;> first | rfl | (simp [fine] at h)
theorem fines_mem : ∀ {ds : List D} {d : D}, fines ds = true → d ∈ ds → fine d = true
  | x :: r, d, h, hm => by
    simp only [fines, Bool.and_eq_true] at h
    rcases List.mem_cons.mp hm with rfl | hm
    · exact h.1
    · exact fines_mem h.2 hm
theorem fines_of : ∀ {ds : List D}, (∀ d ∈ ds, fine d = true) → fines ds = true
  | [], _ => rfl
  | x :: r, h => by simp only [fines, Bool.and_eq_true]; exact ⟨h x (by simp), fines_of fun d hd => h d (by simp [hd])⟩
theorem fine_kids {d : D} (h : fine d = true) : fines (kids d) = true ∧ (kids d).length ≤ 10 := by
  cases d with
  | tup ds =>
    cases ds with
    | nil => exact ⟨rfl, by simp [kids]⟩
    | cons x r =>
      simp only [fine, fines, Bool.and_eq_true, decide_eq_true_eq, List.length_cons] at h
      exact ⟨h.2.2, by simp only [kids]; omega⟩
  | _ => exact ⟨rfl, by simp [kids]⟩
def below (row : List D) : List D := row.flatMap kids
theorem nums_below (row : List D) : nums row = row.length + nums (below row) := by
  induction row with
  | nil => rfl
  | cons d r ih =>
    have : below (d :: r) = kids d ++ below r := rfl
    rw [this, nums_app]
    simp only [nums, List.length_cons, ih, num_eq d]; omega
theorem hgts_below (row : List D) (h : row ≠ []) : hgts row = 1 + hgts (below row) := by
  induction row with
  | nil => exact absurd rfl h
  | cons d r ih =>
    have e : below (d :: r) = kids d ++ below r := rfl
    rw [e, hgts_app]
    simp only [hgts, hgt_eq d]
    cases r with
    | nil => simp [hgts, below]
    | cons x r => rw [ih (by simp)]; omega
theorem fines_below {row : List D} (h : fines row = true) : fines (below row) = true :=
  fines_of fun d hd => by
    obtain ⟨x, hx, hk⟩ := List.mem_flatMap.mp hd
    exact fines_mem (fine_kids (fines_mem h hx)).1 hk
theorem below_len {row : List D} (h : fines row = true) : (below row).length ≤ 10 * row.length := by
  induction row with
  | nil => simp [below]
  | cons d r ih =>
    simp only [fines, Bool.and_eq_true] at h
    have e : below (d :: r) = kids d ++ below r := rfl
    have := ih h.2
    have := (fine_kids h.1).2
    rw [e, List.length_append, List.length_cons]; omega
theorem num_pos (d : D) : 1 ≤ num d := by rw [num_eq]; omega
theorem hgt_pos (d : D) : 1 ≤ hgt d := by rw [hgt_eq]; omega
theorem len_nums (ds : List D) : ds.length ≤ nums ds := by rw [nums_below]; omega
mutual
theorem pts_len : ∀ d : D, (pts d).length = num d
  | .tup (x :: r) => by simp [pts, num, ptss_len r]; omega
  | .tup [] => by simp [pts, num]
  | .non => by simp [pts, num]
  | .bl _ => by simp [pts, num]
  | .int _ => by simp [pts, num]
  | .str _ => by simp [pts, num]
  | .lst _ => by simp [pts, num]
  | .scr _ => by simp [pts, num]
  | .dic _ _ => by simp [pts, num]
  | .dit _ _ => by simp [pts, num]
  | .exn _ => by simp [pts, num]
  | .fdc _ _ => by simp [pts, num]
  | .hdc _ _ => by simp [pts, num]
theorem ptss_len : ∀ ds : List D, (ptss ds).length = nums ds
  | [] => rfl
  | d :: r => by simp [ptss, nums, pts_len d, ptss_len r]
end
mutual
theorem pts_fine : ∀ d : D, fine d = true → fines (pts d) = true
  | .tup (x :: r), h => by
    have h2 := (fine_kids h).1
    simp only [kids] at h2
    simp only [pts, fines, Bool.and_eq_true]
    exact ⟨h, ptss_fine r h2⟩
  | .tup [], h => rfl
  | .non, h => rfl
  | .bl _, h => rfl
  | .int _, h => rfl
  | .str _, h => rfl
  | .lst _, h => rfl
  | .scr _, h => by simp [fine] at h
  | .dic _ _, h => rfl
  | .dit _ _, h => rfl
  | .exn _, h => by simp [fine] at h
  | .fdc _ _, h => by simp [fine] at h
  | .hdc _ _, h => by simp [fine] at h
theorem ptss_fine : ∀ ds : List D, fines ds = true → fines (ptss ds) = true
  | [], _ => rfl
  | d :: r, h => by
    simp only [fines, Bool.and_eq_true] at h
    refine fines_of fun e he => ?_
    rcases List.mem_append.mp (show e ∈ pts d ++ ptss r from he) with he | he
    · exact fines_mem (pts_fine d h.1) he
    · exact fines_mem (ptss_fine r h.2) he
end
end M
namespace M
open PySem PySem.Spec L2
theorem atI_nat {α : Type} {xs : List α} {k : Nat} : atI xs (k : Int) = xs[k]? := by
  unfold atI ixN
  by_cases h : k < xs.length
  · rw [if_pos (by omega), if_pos (by omega)]; simp
  · rw [if_pos (by omega), if_neg (by omega)]
    simp; omega
theorem ix0 {x : D} {r : List D} : ixD (.tup (x :: r)) (.int 0) = .ok x := by
  have := atI_nat (xs := x :: r) (k := 0)
  simp only [ixD]
  rw [show ((0 : Int)) = ((0 : Nat) : Int) from rfl, this]; rfl
end M

set_option Elab.async false
set_option linter.all false
set_option maxRecDepth 100000
set_option maxHeartbeats 4000000
namespace M
open PySem PySem.Spec L2
section
variable {env env' : Sl} {f f1 f2 f3 : Sl → Res D} {g g1 g2 : Sl → Res Out} {t t1 t2 : Sl → Res Bool} {fa : Sl → Res (List D)} {i : Nat} {d x y z : D} {b : Bool} {ds : List D}
theorem two_ok {h : D → D → Res D} (h1 : f1 env = .ok x) (h2 : f2 env = .ok y) (h3 : h x y = .ok z) : two f1 f2 h env = .ok z := by rw [ev_two, h1, ev_ok, h2, ev_ok, h3]
theorem setOs_ok (h : f env = .ok d) : setOs i f env = .ok (.nx (env.set i (.shr d))) := by rw [ev_setOs, h]; rfl
theorem setO_ok (h : f env = .ok d) : setO i f env = .ok (.nx (env.set i (slotN d))) := by rw [ev_setO, h]; rfl
theorem retO_ok (h : f env = .ok d) : retO f env = .ok (.rt true d) := by rw [ev_retO, h]; rfl
theorem retS_ok (h : f env = .ok d) : retS f env = .ok (.rt false d) := by rw [ev_retS, h]; rfl
theorem seq_nx (h : g1 env = .ok (.nx env')) : seqO g1 g2 env = g2 env' := by rw [ev_seq, h]; rfl
theorem seq_rt {fr : Bool} (h : g1 env = .ok (.rt fr d)) : seqO g1 g2 env = .ok (.rt fr d) := by rw [ev_seq, h]; rfl
theorem if_t (h : t env = .ok true) : ifO t g1 g2 env = g1 env := by rw [ev_ifO, h]; rfl
theorem if_f (h : t env = .ok false) : ifO t g1 g2 env = g2 env := by rw [ev_ifO, h]; rfl
theorem cons_ok (h1 : f env = .ok d) (h2 : fa env = .ok ds) : cons1 f fa env = .ok (d :: ds) := by rw [ev_cons1, h1, ev_ok, h2]; rfl
theorem app_ok {h : List D → Res D} (h1 : fa env = .ok ds) (h2 : h ds = .ok d) : app fa h env = .ok d := by rw [ev_app, h1, ev_ok, h2]
theorem call_ok {n : Nat} {F : List D → Res D} (h1 : fa env = .ok ds) (hn : ds.length = n) (h2 : F ds = .ok d) : callF n F fa env = .ok d := by rw [ev_callF, h1, ev_ok, must_pos hn, h2]
theorem tup_ok (h1 : fa env = .ok ds) (hn : ds.length ≤ sizeLine) : tupF fa env = .ok (.tup ds) := by rw [ev_tupF, h1, ev_ok, must_pos hn]
theorem lst_ok (h1 : fa env = .ok ds) (hn : ds.length ≤ sizeLine) : lstF fa env = .ok (.lst ds) := by rw [ev_lstF, h1, ev_ok, must_pos hn]
theorem asB_ok (h : f env = .ok (.bl b)) : asB f env = .ok b := by rw [ev_asB, h]; rfl
theorem or_ok {b2 : Bool} (h1 : t1 env = .ok b) (h2 : t2 env = .ok b2) : orB t1 t2 env = .ok (b || b2) := by rw [ev_orB, h1, ev_ok, h2]; cases b <;> rfl
theorem and_ok {b2 : Bool} (h1 : t1 env = .ok b) (h2 : t2 env = .ok b2) : andB t1 t2 env = .ok (b && b2) := by rw [ev_andB, h1, ev_ok, h2]; cases b <;> rfl
theorem notB_ok (h1 : t1 env = .ok b) : notB t1 env = .ok (!b) := by rw [ev_notB, h1]; rfl
theorem slice_ok {fl fh : Sl → Res (Option Int)} {h : D → Option Int → Option Int → Res D} {lo hi : Option Int} (h1 : f env = .ok x) (h2 : fl env = .ok lo) (h3 : fh env = .ok hi) (h4 : h x lo hi = .ok z) : slice3 f fl fh h env = .ok z := by
  rw [ev_slice, h1, ev_ok, h2, ev_ok, h3, ev_ok, h4]
theorem someI_ok {j : Int} (h : f env = .ok (.int j)) : someI f env = .ok (some j) := by rw [ev_someI, h]; rfl
theorem for_ok {tt : D → Sl → Res Sl} {fi : Sl → Res (List D)} (h : fi env = .ok ds) : forO fi tt g env = forD (turnD tt g) ds env := by rw [ev_forO, h]; rfl
theorem itF_ok (h : f env = .ok d) (h2 : iterD d = .ok ds) : itF f env = .ok ds := by rw [ev_itF, h, ev_ok, h2]
theorem chk_ok (h : f env = .ok d) (hd : d.imm = true) : chk f env = .ok d := by
  show (f env >>= _) = _
  rw [h]; exact must_pos hd
end
theorem iOp_ok {C : Int → Int → Prop} [∀ i j, Decidable (C i j)] {g : Int → Int → D} {i j : Int} (h : C i j) : iOp C g (.int i) (.int j) = .ok (g i j) := if_pos h
theorem pow_ok {i j : Int} (h : PowC i j) : powI (.int i) (.int j) = .ok (.int (i ^ j.toNat)) := iOp_ok h
theorem mul_ok {i j : Int} (h : MulC i j) : mulI (.int i) (.int j) = .ok (.int (i * j)) := iOp_ok h
theorem mod_ok {i j : Int} (h : 0 < j) : modI (.int i) (.int j) = .ok (.int (i % j)) := iOp_ok (C := PosC) h
theorem turn_ok {t : D → Sl → Res Sl} {g : Sl → Res Out} {d : D} {env env' : Sl} (h : t d env = .ok env') : turnD t g d env = g env' := by
  show (t d env >>= g) = _
  rw [h]; rfl
theorem run_t {fr : Bool} {n : Nat} {g : Sl → Res Out} {ds : List D} {d : D} (h : g (startE n ds) = .ok (.rt true d)) : runF fr n g ds = .ok d := by rw [ev_run h]; simp [runK]
theorem run_f {n : Nat} {g : Sl → Res Out} {ds : List D} {d : D} (h : g (startE n ds) = .ok (.rt false d)) : runF false n g ds = .ok d := by rw [ev_run h]; simp [runK]
theorem rng1_ok {fa : Sl → Res (List D)} {env : Sl} {j : Int} (h : fa env = .ok [.int j]) (hb : -(2 ^ 62) ≤ j ∧ j < 2 ^ 62) : rngF fa env = .ok (intsD 0 j.toNat) := by
  show (fa env >>= rng1) = _
  rw [h]; exact must_pos hb
theorem rng2_ok {fa : Sl → Res (List D)} {env : Sl} {i j : Int} (h : fa env = .ok [.int i, .int j]) (hb : (-(2 ^ 62) ≤ i ∧ i < 2 ^ 62) ∧ -(2 ^ 62) ≤ j ∧ j < 2 ^ 62) : rng2F fa env = .ok (intsD i (j - i).toNat) := by
  show (fa env >>= rng2) = _
  rw [h]; exact must_pos hb
theorem add_tup {a b : List D} (h1 : a.isEmpty = false) (h2 : a.length + b.length ≤ sizeLine) : addD (.tup a) (.tup b) = .ok (.tup (a ++ b)) := must_pos (c := _ ∧ _) ⟨h1, h2⟩
theorem add_lst {a b : List D} (h2 : a.length + b.length ≤ sizeLine) : addD (.lst a) (.lst b) = .ok (.lst (a ++ b)) := must_pos h2
theorem eqR_int {a b : Int} : eqR (.int a) (.int b) = .ok (.bl (a == b)) := by
  unfold eqR
  rw [must_pos (by left; simp [D.eqb, D.dep])]; simp [eqD]
theorem forD_inv {body : D → Sl → Res Out} (I : List D → Sl → Prop)
    (hb : ∀ d ds env, I (d :: ds) env → ∃ env', body d env = .ok (.nx env') ∧ I ds env') : ∀ (ds : List D) (env : Sl), I ds env → ∃ env', forD body ds env = .ok (.nx env') ∧ I [] env'
  | [], env, h => ⟨env, rfl, h⟩
  | d :: ds, env, h => by
    obtain ⟨e1, h1, h2⟩ := hb d ds env h
    obtain ⟨e2, h3, h4⟩ := forD_inv I hb ds e1 h2
    exact ⟨e2, by rw [forD_go h1, h3], h4⟩
theorem intsD_zero (lo : Int) : intsD lo 0 = [] := rfl
theorem intsD_succ (lo : Int) (n : Nat) : intsD lo (n + 1) = .int lo :: intsD (lo + 1) n := by
  unfold intsD
  rw [List.range_succ_eq_map, List.map_cons, List.map_map]
  congr 1
  · simp
  · apply List.map_congr_left
    intro i _
    simp only [Function.comp_apply]
    congr 1
    omega
theorem mem_intsD {lo : Int} {n : Nat} {d : D} (h : d ∈ intsD lo n) : ∃ k : Int, d = .int k ∧ lo ≤ k ∧ k < lo + n := by
  unfold intsD at h
  obtain ⟨i, hi, e⟩ := List.mem_map.mp h
  have := List.mem_range.mp hi
  exact ⟨_, e.symm, by omega, by omega⟩
theorem intsD_len (lo : Int) (n : Nat) : (intsD lo n).length = n := by simp [intsD]
theorem atI_in {α : Type} {xs : List α} {i : Int} (h0 : 0 ≤ i) (h1 : i < xs.length) : ∃ x, atI xs i = some x ∧ x ∈ xs := by
  obtain ⟨k, rfl⟩ := Int.eq_ofNat_of_zero_le h0
  have hk : k < xs.length := by omega
  exact ⟨xs[k], by rw [M.atI_nat]; exact List.getElem?_eq_getElem hk, List.getElem_mem hk⟩
theorem ixS {z : Str} {i : Int} (h0 : 0 ≤ i) (h1 : i < z.length) : ∃ c, ixD (.str z) (.int i) = .ok (.str ⟨#[c]⟩) := by
  obtain ⟨c, hc, _⟩ := atI_in (xs := z.cps.toList) h0 (by simpa [Str.length] using h1)
  exact ⟨c, by simp only [ixD]; rw [hc]⟩
theorem ixL {ds : List D} {i : Int} (h0 : 0 ≤ i) (h1 : i < ds.length) : ∃ d, ixD (.lst ds) (.int i) = .ok d ∧ d ∈ ds := by
  obtain ⟨c, hc, hm⟩ := atI_in (xs := ds) h0 h1
  exact ⟨c, by simp only [ixD]; rw [hc], hm⟩
open Builtin.Int (intBits)
def NumR (f : Sl → Res D) (env : Sl) (B : Nat) : Prop := ∃ m : Int, f env = .ok (.int m) ∧ intBits m ≤ B
theorem comp1 {fi : Sl → Res (List D)} {fe : Sl → Res D} {env : Sl} {ds : List D} {j : Nat} {c : Slot} (hc : capS false env j = c) (h : D → D) (P : D → Prop) (hi : fi env = .ok ds) (hP : ∀ d ∈ ds, P d) (hl : ds.length ≤ sizeLine)
    (hf : ∀ d acc, P d → fe [.shr d, c, .own (.lst acc)] = .ok (h d)) : compO false 1 [j] fi (gN 0) trueB fe env = .ok (.lst (ds.map h)) := by
  show (fi env >>= _) = _
  rw [hi]
  show (compD 2 (gN 0) trueB fe ds [.un, capS false env j, .own (.lst [])] >>= _) = _
  rw [hc]
  cases ds with
  | nil => rfl
  | cons d ds =>
    simp only [List.length_cons] at hl
    obtain ⟨y, hy⟩ := compD_map (n := 2) (t := gN 0) (fe := fe) (E := fun x acc => [.shr x, c, .own (.lst acc)]) h P (fun _ _ => rfl) (fun _ _ _ => rfl) (fun _ _ _ => rfl) hf ds d [h d] (fun e he => hP e (by simp [he])) (by simp only [List.length_cons, List.length_nil]; omega)
    have h1 : compD 2 (gN 0) trueB fe (d :: ds) [.un, c, .own (.lst [])] = compD 2 (gN 0) trueB fe ds [.shr d, c, .own (.lst [h d])] := by
      show (fe [.shr d, c, .own (.lst [])] >>= _) = _
      rw [hf d [] (hP d (by simp))]
      exact must_pos (c := ([] : List D).length < sizeLine) (by simp only [List.length_nil]; omega)
    rw [h1, hy]; rfl
theorem hgts_le {k : Nat} : ∀ {ds : List D}, (∀ d ∈ ds, hgt d ≤ k) → hgts ds ≤ k
  | [], _ => by simp [hgts]
  | d :: ds, h => by
    simp only [hgts]
    have := h d (by simp)
    have := hgts_le (ds := ds) fun e he => h e (by simp [he])
    omega
theorem hgts_mem : ∀ {ds : List D} {d : D}, d ∈ ds → hgt d ≤ hgts ds
  | x :: r, d, h => by
    simp only [hgts]
    rcases List.mem_cons.mp h with rfl | h
    · omega
    · have := hgts_mem h; omega
mutual
theorem num_hgt : ∀ d : D, fine d = true → num d ≤ 11 ^ hgt d
  | .tup (x :: r), h => by
    have hk := fine_kids h
    simp only [kids] at hk
    have := nums_hgt r hk.1
    simp only [num, hgt, Nat.pow_add]
    have h1 : 1 ≤ 11 ^ hgts r := Nat.one_le_pow _ _ (by decide)
    have h2 : r.length * 11 ^ hgts r ≤ 10 * 11 ^ hgts r := Nat.mul_le_mul_right _ hk.2
    omega
  | .tup [], _ => by simp [num, hgt]
  | .non, _ => by simp [num, hgt]
  | .bl _, _ => by simp [num, hgt]
  | .int _, _ => by simp [num, hgt]
  | .str _, _ => by simp [num, hgt]
  | .lst _, _ => by simp [num, hgt]
  | .scr _, _ => by simp [num, hgt]
  | .dic _ _, _ => by simp [num, hgt]
  | .dit _ _, _ => by simp [num, hgt]
  | .exn _, _ => by simp [num, hgt]
  | .fdc _ _, _ => by simp [num, hgt]
  | .hdc _ _, _ => by simp [num, hgt]
theorem nums_hgt : ∀ ds : List D, fines ds = true → nums ds ≤ ds.length * 11 ^ hgts ds
  | [], _ => by simp [nums]
  | d :: r, h => by
    simp only [fines, Bool.and_eq_true] at h
    have h1 := num_hgt d h.1
    have h2 := nums_hgt r h.2
    simp only [nums, hgts, List.length_cons, Nat.succ_mul]
    have h3 : 11 ^ hgt d ≤ 11 ^ max (hgt d) (hgts r) := Nat.pow_le_pow_right (by decide) (by omega)
    have h4 : r.length * 11 ^ hgts r ≤ r.length * 11 ^ max (hgt d) (hgts r) := Nat.mul_le_mul_left _ (Nat.pow_le_pow_right (by decide) (by omega))
    omega
end
end M

set_option Elab.async false
set_option linter.all false
set_option maxRecDepth 100000
set_option maxHeartbeats 4000000
namespace M
open PySem PySem.Spec L2
open PyProof.Rows hiding St
def keyD : D → Option Key
  | .int i => some (.inl i)
  | .str x => some (.inr x)
  | _ => none
def hasK (ks : List Key) (k : Key) : Bool := ks.any fun x => decide (x = k)
def valD (ks : List Key) (ds : List D) (k : Key) : Option D := ((ks.zip ds).find? fun p => decide (p.1 = k)).map (·.2)
def putKs (ks : List Key) (k : Key) : List Key := if hasK ks k = true then ks else ks ++ [k]
def putDs (ks : List Key) (ds : List D) (k : Key) (d : D) : List D := if hasK ks k = true then (ks.zip ds).map (fun p => if p.1 = k then d else p.2) else ds ++ [d]
section
variable {K : PySem.W.Frag} {A : Addr → Prop} {H : Hp}
theorem keyD_kV {y : V} {d : D} {k : Key} (r : Rep K A H y d) (h : keyD d = some k) : y = kV k := by
  cases r with
  | int i => cases h; rfl
  | str x _ => cases h; rfl
  | _ => cases h
theorem rep_val : ∀ {kvs : List (Key × V)} {ds : List D} (k : Key), Reps K A H (kvs.map (·.2)) ds → (∀ d, valD (kvs.map (·.1)) ds k = some d → ∃ v, valV kvs k = some v ∧ Rep K A H v d) ∧ (valD (kvs.map (·.1)) ds k = none → valV kvs k = none)
  | [], ds, k, r => ⟨fun d h => by simp [valD] at h, fun _ => rfl⟩
  | (k', v) :: kvs, ds, k, r => by
    cases r with
    | @cons _ _ _ d' _ ds' r1 r2 =>
      have ih := rep_val (kvs := kvs) (ds := ds') k r2
      by_cases hk : k' = k
      · subst hk
        have e1 : valD ((((k', v) :: kvs)).map (·.1)) (d' :: ds') k' = some d' := by simp [valD]
        have e2 : valV ((k', v) :: kvs) k' = some v := by simp [valV]
        rw [e1, e2]
        exact ⟨fun d h => by cases h; exact ⟨v, rfl, r1⟩, fun h => by cases h⟩
      · have e1 : valD ((((k', v) :: kvs)).map (·.1)) (d' :: ds') k = valD (kvs.map (·.1)) ds' k := by simp [valD, hk]
        have e2 : valV ((k', v) :: kvs) k = valV kvs k := by simp [valV, hk]
        rw [e1, e2]; exact ih
theorem any_key (kvs : List (Key × V)) (k : Key) : (kvs.any fun kv => decide (kv.1 = k)) = hasK (kvs.map (·.1)) k := by
  unfold hasK; rw [List.any_map]; rfl
theorem rep_repl {v : V} {d : D} (k : Key) (rv : Rep K A H v d) : ∀ {kvs : List (Key × V)} {ds : List D}, Reps K A H (kvs.map (·.2)) ds → Reps K A H ((kvs.map (fun kv => if kv.1 = k then (kv.1, v) else kv)).map (·.2)) (((kvs.map (·.1)).zip ds).map (fun p => if p.1 = k then d else p.2))
  | [], _, .nil => .nil
  | (k', v') :: kvs, _, .cons r1 r2 => by
    have ih := rep_repl k rv r2
    by_cases hk : k' = k
    · simp only [List.map_cons, List.zip_cons_cons, hk, if_true]; exact .cons rv (by simpa [hk] using ih)
    · simp only [List.map_cons, List.zip_cons_cons, hk, if_false]; exact .cons r1 ih
theorem rep_put {v : V} {d : D} {kvs : List (Key × V)} {ds : List D} (k : Key) (r : Reps K A H (kvs.map (·.2)) ds) (rv : Rep K A H v d) :
    (putK kvs k v).map (·.1) = putKs (kvs.map (·.1)) k ∧ Reps K A H ((putK kvs k v).map (·.2)) (putDs (kvs.map (·.1)) ds k d) := by
  unfold putK putKs putDs
  rw [any_key]
  by_cases h : hasK (kvs.map (·.1)) k = true
  · rw [if_pos h, if_pos h, if_pos h]
    refine ⟨?_, rep_repl k rv r⟩
    rw [List.map_map]
    apply List.map_congr_left
    intro p _
    simp only [Function.comp_apply]
    split <;> rfl
  · rw [if_neg h, if_neg h, if_neg h]
    refine ⟨by simp, ?_⟩
    rw [List.map_append]
    exact r.append (.cons rv .nil)
theorem Rep.dicE {v : V} {ks : List Key} {ds : List D} (r : Rep K A H v (.dic ks ds)) : ∃ a kvs, v = .ref a ∧ H a = some (.dK kvs) ∧ A a ∧ kvs.map (·.1) = ks ∧ Reps K (fun c => A c ∧ c ≠ a) H (kvs.map (·.2)) ds := by
  cases r with
  | dic e a k1 k2 r => subst k2; exact ⟨_, _, rfl, e, a, k1, r⟩
end
theorem EnvOk.writeG {K : PySem.W.Frag} {G : Addr → Prop} {H0 H : Hp} {env : Sl} {σ : L2.St} {i : Nat} {d0 d' : D} {a : Addr} {o0 o' : HO} (k : EnvOk K G H0 env σ H) (hi : env[i]? = some (.own d0)) (ha : σ[i]? = some (some (.ref a))) (hx : H a = some o0) (hm : Mut (some o0))
    (top : ∀ (A' : Addr → Prop) (H' : Hp), Stay (Sf G env σ) H H' → H' a = some o' → (∀ b, Sf G env σ b → A' b) → Top K A' H' a d') : EnvOk K G H0 (env.set i (.own d')) σ (upd H a o') ∧ Frm env σ H (env.set i (.own d')) σ (upd H a o') := by
  have hl : i < env.length := (List.getElem?_eq_some_iff.mp hi).1
  have ow : Owned env σ a := ⟨i, _, hi, ha⟩
  have st : Stay (Sf G env σ) H (upd H a o') := fun c o e m => by
    rw [upd_ne ?_]
    · exact e
    · rintro rfl
      rw [hx] at e; cases e
      exact (m hm).1 ow
  have w : ∀ c, Sf G env σ c → Sf G (env.set i (.own d')) σ c := fun c n => ⟨fun o => n.1 ((owned_same hi).mp o), n.2⟩
  refine ⟨⟨by simp [k.len], fun c o e => ?_, k.g0, fun j d1 h => ?_, fun j d1 h => ?_, fun j j' d1 d2 b q1 q2 q3 q4 => ?_⟩, ⟨fun c o e n => ?_, fun c o => .inl ((owned_same hi).mp o), fun c e => ?_⟩⟩
  · have hc : c ≠ a := by
      rintro rfl
      obtain ⟨b, h1, h0, _⟩ := k.own i _ hi
      rw [ha] at h1; cases h1
      rw [h0] at e; cases e
    rw [upd_ne hc]
    exact k.base c o e
  · by_cases z : i = j
    · subst z
      obtain ⟨q, _⟩ := get_set_eq h
      cases q
    · rw [get_set_ne z] at h
      obtain ⟨v, h1, h2⟩ := k.shr j d1 h
      exact ⟨v, h1, h2.stay st w⟩
  · by_cases z : i = j
    · subst z
      obtain ⟨q, _⟩ := get_set_eq h
      cases q
      obtain ⟨b, h1, h0, _⟩ := k.own i _ hi
      rw [ha] at h1; cases h1
      exact ⟨a, ha, h0, top _ _ st upd_same w⟩
    · rw [get_set_ne z] at h
      obtain ⟨b, h1, h0, h2⟩ := k.own j d1 h
      have hb : b ≠ a := by
        rintro rfl
        exact z (k.dis i j _ _ b hi h ha h1)
      exact ⟨b, h1, h0, h2.stay st w fun o e => by rw [upd_ne hb]; exact e⟩
  · have real : ∀ (j : Nat) (d1 : D), (env.set i (.own d'))[j]? = some (.own d1) → ∃ d0 : D, env[j]? = some (.own d0) := fun j d1 q => by
      by_cases z : i = j
      · subst z; exact ⟨_, hi⟩
      · rw [get_set_ne z] at q; exact ⟨_, q⟩
    obtain ⟨e1, z1⟩ := real j d1 q1
    obtain ⟨e2, z2⟩ := real j' d2 q2
    exact k.dis j j' e1 e2 b z1 z2 q3 q4
  · have hc : c ≠ a := by
      rintro rfl
      exact n ow
    rw [upd_ne hc]; exact e
  · by_cases hc : c = a
    · subst hc; rw [upd_same] at e; cases e
    · rw [upd_ne hc] at e; exact e
theorem own_dict {K : PySem.W.Frag} {G : Addr → Prop} {H0 H : Hp} {env : Sl} {σ : L2.St} {i : Nat} {ks : List Key} {ds : List D} (k : EnvOk K G H0 env σ H) (hi : env[i]? = some (.own (.dic ks ds))) : ∃ a kvs, σ[i]? = some (some (.ref a)) ∧ H a = some (.dK kvs) ∧ kvs.map (·.1) = ks ∧ Reps K (Sf G env σ) H (kvs.map (·.2)) ds := by
  obtain ⟨a, h1, h0, h2⟩ := k.own i _ hi
  cases h2 with
  | dic e k1 k2 r => subst k2; exact ⟨a, _, h1, e, k1, r⟩
def ownK (i : Nat) (env : Sl) : Res (List Key × List D) := match env[i]? with
  | some (.own (.dic ks ds)) => .ok (ks, ds)
  | _ => .stuck
theorem ownK_inv {i : Nat} {env : Sl} {p : List Key × List D} (h : ownK i env = .ok p) : env[i]? = some (.own (.dic p.1 p.2)) := by
  unfold ownK at h
  split at h
  · cases h; assumption
  · cases h
theorem EnvOk.putD {K : PySem.W.Frag} {G : Addr → Prop} {H0 H : Hp} {env : Sl} {σ : L2.St} {i : Nat} {ks : List Key} {ds : List D} {a : Addr} {kvs : List (Key × V)} {v : V} {d : D} {kk : Key} (k : EnvOk K G H0 env σ H) (hi : env[i]? = some (.own (.dic ks ds))) (ha : σ[i]? = some (some (.ref a))) (hx : H a = some (.dK kvs)) (hk : kvs.map (·.1) = ks)
    (r : Reps K (Sf G env σ) H (kvs.map (·.2)) ds) (rv : Rep K (Sf G env σ) H v d) : EnvOk K G H0 (env.set i (.own (.dic (putKs ks kk) (putDs ks ds kk d)))) σ (upd H a (.dK (putK kvs kk v))) ∧ Frm env σ H (env.set i (.own (.dic (putKs ks kk) (putDs ks ds kk d)))) σ (upd H a (.dK (putK kvs kk v))) := by
  subst hk
  obtain ⟨p1, p2⟩ := rep_put kk r rv
  exact k.writeG hi ha hx trivial fun A' H' st e w => .dic e p1 rfl (p2.stay st w)
section
variable {X : Cx} {K : PySem.W.Frag}
def getK : D → D → Res D
  | .dic ks ds, kd => match keyD kd with
    | some k => match valD ks ds k with
      | some d => .ok d
      | none => .stuck
    | none => .stuck
  | _, _ => .stuck
def rGetK : R2 := fun x y H Q => ∃ a kvs k v, x = .ref a ∧ y = kV k ∧ H a = some (.dK kvs) ∧ valV kvs k = some v ∧ Q v H
variable {a b : Expr} {f1 f2 : Sl → Res D} {l2 : Lv} {pos p : Pos}
def rInK (neg : Bool) : R2 := fun x y H Q => ∃ a kvs k, y = .ref a ∧ x = kV k ∧ H a = some (.dK kvs) ∧ Q (.bl (if neg then !(valV kvs k).isSome else (valV kvs k).isSome)) H
def inK (neg : Bool) : D → D → Res D
  | kd, .dic ks _ => match keyD kd with
    | some k => .ok (.bl (if neg then !hasK ks k else hasK ks k))
    | none => .stuck
  | _, _ => .stuck
def lenK : List D → Res D
  | [.dic ks _] => .ok (.int ks.length)
  | _ => .stuck
def rGet2 : V → List V → Hp → VK → Prop := fun x xs H Q => ∃ a kvs k z, x = .ref a ∧ xs = [kV k, z] ∧ H a = some (.dK kvs) ∧ Q ((valV kvs k).getD z) H
theorem mt_get2 (hu : X.A.units + 1 < cLine) : MtR X "dict.get" rGet2 := by
  intro pins s σ H x xs v us Q I rx rs h
  obtain ⟨a, kvs, k, z, rfl, rfl, ha, q⟩ := h
  obtain rfl : v = Value.ref a := rx
  obtain ⟨u1, u2, rfl, r1, r2⟩ : ∃ u1 u2, us = [u1, u2] ∧ RelV (kV k) u1 ∧ RelV z u2 := by
    cases rs with
    | cons h1 t => cases t with | cons h2 t => cases t; exact ⟨_, _, rfl, h1, h2⟩
  exact d_get2 hu I (DGet.k ha) r1 r2 fun w' s' I' rw' => ⟨_, H, I', rw', q⟩
def get2 : D → List D → Res D
  | .dic ks ds, [kd, z] => match keyD kd with
    | some k => .ok ((valD ks ds k).getD z)
    | none => .stuck
  | _, _ => .stuck
def get2F (f f1 f2 : Sl → Res D) : Sl → Res D := fun env => f env >>= fun a => f1 env >>= fun kd => f2 env >>= fun z => get2 a [kd, z]
theorem de_get2 {l1 : Lv} {e1 e2 o : Expr} {f fk fz : Sl → Res D} {apos cpos : Pos} (hu : X.A.units + 1 < cLine) (ho : DE X .s o f) (h1 : DE X l1 e1 fk) (h2 : DE X .s e2 fz)
    (hbase : attributeBase o "get" X.env (eval o X.env) = eval o X.env := by rfl)
    (hfew : ((backTo cpos (starEach [e1, e2] X.env)).all (fun x => !x.1) && (backToKw cpos (keywordEach [] X.env)).all (fun x => x.1.isSome)
      && decide ([e1, e2].length + ([] : List Keyword).length + (if ([] : List Keyword).isEmpty then 0 else 1) < 30)) = true := by exact few_plain rfl rfl)
    (hline : (apos.endLine == cpos.line) = true := by rfl) (hs : starEach [e1, e2] X.env = (false, eval e1 X.env) :: starEach [e2] X.env := by exact star_plain rfl) (hplain : (backTo cpos (starEach [e2] X.env)).any (·.1) = false := by exact any_plain rfl)
    (hs2 : starEach [e2] X.env = (false, eval e2 X.env) :: starEach [] X.env := by exact star_plain rfl) :
    DE X .s (.Call (.Attribute o "get" apos) [e1, e2] [] cpos) (get2F f fk fz) := by
 with_unfolding_all exact (
  PE.imp (pe_bm PySem.F.plainAttrs_dict PySem.F.slot_dict_get PySem.F.type_dict_get (mt_get2 hu) ho (pa_cons h1 (pa_cons h2 pa_nil hs2) hs) hbase hfew hline hs hplain) fun σ H Q ⟨G, H0, env, d, k, ef, q⟩ => by
    obtain ⟨a', e1, ef⟩ := bind_inv ef
    obtain ⟨kd, e2, ef⟩ := bind_inv ef
    obtain ⟨z, e3, e4⟩ := bind_inv ef
    cases a' with
    | dic ks ds =>
      unfold get2 at e4
      dsimp only at e4
      cases hkk : keyD kd with
      | none => rw [hkk] at e4; cases e4
      | some kk =>
        rw [hkk] at e4
        cases e4
        refine ⟨G, H0, env, _, k, e1, fun x H1 s1 r1 _ => ?_⟩
        obtain ⟨p, kvs, rfl, hp, _, rfl, r⟩ := r1.dicE
        refine ⟨.inr (.inr (.inl ⟨rfl, .inl ⟨kvs, hp⟩⟩)), G, H0, env, _, k.grow s1, e2, fun y H2 s2 r2 _ => ⟨G, H0, env, _, (k.grow s1).grow s2, e3, fun w H3 s3 r3 _ => ?_⟩⟩
        have hp3 := s3 _ _ (s2 _ _ hp)
        refine ⟨p, kvs, kk, w, rfl, by rw [keyD_kV (r2.weak (A' := Any) Lv.weak_b) hkk], hp3, ?_⟩
        have rr := ((r.low.grow s2).grow s3)
        cases hval : valD (kvs.map (·.1)) ds kk with
        | none =>
          rw [(rep_val (K := X.K) kk rr).2 hval]
          exact q _ H3 ((s1.trans s2).trans s3) (by rw [hval]; exact r3) trivial
        | some d' =>
          obtain ⟨v, g1, g2⟩ := (rep_val (K := X.K) kk rr).1 _ hval
          rw [g1]
          exact q _ H3 ((s1.trans s2).trans s3) (by rw [hval]; exact g2) trivial
    | _ => cases e4)
end
end M

set_option Elab.async false
set_option linter.all false
set_option maxRecDepth 100000
set_option maxHeartbeats 4000000
namespace M
open PySem PySem.Spec L2
open PyProof.Rows hiding St
section
variable {X : Cx} {K : PySem.W.Frag} {l1 l2 : Lv} {e1 e2 : Expr} {fk fv : Sl → Res D} {pos cpos apos p : Pos} {x : Str}
def dputO (i : Nat) (fk fv : Sl → Res D) : Sl → Res Out := fun env => ownK i env >>= fun q => fv env >>= fun d => fk env >>= fun kd => match keyD kd with
  | some k => must (q.1.length < sizeLine) (.ok (.nx (env.set i (.own (.dic (putKs q.1 k) (putDs q.1 q.2 k d))))))
  | none => .stuck
theorem ds_dput (i : Nat) (hu : X.A.units + 1 < cLine) (hk : DE X l1 e1 fk) (hv : DE X .s e2 fv) (hN : X.N[i]? = some x := by rfl) (hvs : Vis X.env.scope x := by first | exact Or.inl rfl | exact Or.inr (Or.inl rfl) | exact Or.inr (Or.inr rfl))
    (hd : (x == ("__debug__" : Str)) = false := by decide) (hcd : (x == ("__classdict__" : Str)) = false := by decide)
    (hs : swapsWith e2 (some (.Subscript (.Name x p) e1 apos)) pos.line X.env = pure false := by rfl) :
    DS X (.Assign [.Subscript (.Name x p) e1 apos] e2 pos) (dputO i fk fv) := by
 with_unfolding_all exact (
  PS.imp (ps_dput hu (pe_var (i := i) hN hvs hd hcd) hk hv hs) fun E σ H ⟨G, H0, env, o, k, ef, q⟩ => by
    obtain ⟨ks, c1, ef⟩ := bind_inv ef
    obtain ⟨d, c2, ef⟩ := bind_inv ef
    obtain ⟨kd, c3, c4⟩ := bind_inv ef
    have hi := ownK_inv c1
    obtain ⟨a, kvs, ha, hx, hkk, rs⟩ := own_dict k hi
    cases hkey : keyD kd with
    | none => rw [hkey] at c4; cases c4
    | some kk =>
      rw [hkey] at c4
      obtain ⟨hz, c5⟩ := must_inv c4
      cases c5
      refine ⟨G, H0, env, d, k, c2, fun v H1 s1 r1 _ => ⟨.ref a, ha, G, H0, env, kd, k.grow s1, c3, fun y H2 s2 r2 _ => ?_⟩⟩
      have hx2 := s2 _ _ (s1 _ _ hx)
      have hy := keyD_kV (r2.weak (A' := Any) Lv.weak_b) hkey
      subst hy
      have hl : kvs.length < sizeLine := by rw [← hkk, List.length_map] at hz; exact hz
      refine ⟨a, _, rfl, DPut.k hx2 hl, ?_⟩
      have W := ((k.grow s1).grow s2).putD (kk := kk) hi ha hx2 hkk ((rs.grow s1).grow s2) (r1.grow s2)
      exact q σ _ W.1 ((W.2.grow s2).grow s1))
def rSetD : V → List V → Hp → VK → Prop := fun x xs H Q => ∃ a kvs k z, x = .ref a ∧ xs = [kV k, z] ∧ H a = some (.dK kvs) ∧ kvs.length < sizeLine ∧ (∀ v, valV kvs k = some v → Q v H) ∧ (valV kvs k = none → Q z (upd H a (.dK (putK kvs k z))))
theorem mt_setD : MtR X "dict.setdefault" rSetD := by
  intro pins s σ H x xs v us Q I rx rs h
  obtain ⟨a, kvs, k, z, rfl, rfl, ha, hl, q1, q2⟩ := h
  obtain rfl : v = Value.ref a := rx
  obtain ⟨u1, u2, rfl, r1, r2⟩ : ∃ u1 u2, us = [u1, u2] ∧ RelV (kV k) u1 ∧ RelV z u2 := by
    cases rs with
    | cons h1 t => cases t with | cons h2 t => cases t; exact ⟨_, _, rfl, h1, h2⟩
  obtain ⟨hz, hd, vs, rel, dd⟩ := dk_of I.hok ha
  have hvl : vs.length ≤ sizeLine := by rw [← rel.length]; exact hz
  have hpl : (putK kvs k z).length ≤ sizeLine := by have := length_putK kvs k z; omega
  refine call_meetsIn PySem.F.slot_dict_setdefault dd.typeIs PySem.F.entry_dict_setdefault (PySem.F.args_dict_setdefault_3 _ _ _) (kt_meets_setdefault (mixKind X.prog X.w) a (kV_is r1) hd u2) ⟨vs, dd, hvl, fun w hw => ?_, fun hn h' dd' hs => ?_⟩
  · have hv := rel.val k
    rw [hw] at hv
    cases hvv : valV kvs k with
    | none => rw [hvv] at hv; exact hv.elim
    | some v' =>
      rw [hvv] at hv
      exact ⟨v', H, I.tok _, hv, q1 v' hvv⟩
  · have hv := rel.val k
    rw [hn] at hv
    cases hvv : valV kvs k with
    | some v' => rw [hvv] at hv; exact hv.elim
    | none =>
      have he : ∃ q, h'.get? a = some q := let ⟨q, _, _, hq, _⟩ := dd'; ⟨q, hq⟩
      exact ⟨z, _, d_write I (by rw [ha]; exact True.intro) hs he (dk_new hpl hd (rel.put k r2) dd'), r2, q2 hvv⟩
def setDO (i : Nat) (fk fv : Sl → Res D) : Sl → Res Out := fun env => ownK i env >>= fun q => fk env >>= fun kd => fv env >>= fun d => match keyD kd with
  | some k => must (q.1.length < sizeLine) (if hasK q.1 k = true then .ok (.nx env) else .ok (.nx (env.set i (.own (.dic (putKs q.1 k) (putDs q.1 q.2 k d))))))
  | none => .stuck
def kD : Key → D
  | .inl i => .int i
  | .inr x => .str x
def listK : List D → Res D
  | [.dic ks _] => must ((ks.all fun k => match k with | .inl _ => true | .inr _ => false) = true) (.ok (.lst (ks.map kD)))
  | _ => .stuck
end
end M

set_option Elab.async false
set_option linter.all false
set_option maxRecDepth 100000
set_option maxHeartbeats 4000000
namespace M
open PySem PySem.Spec L2
open PyProof.Rows hiding St
section
variable {prog : Program} {w : World} {A : Around} {E : Value → Shared → Prop} {s : Shared}
end
section
variable {X : Cx} {e : Expr} {te : TE} {p p2 pos pos2 : Pos}
def revF (f : Sl → Res D) : Sl → Res D := fun env => f env >>= fun d => match d with
  | .lst ds => .ok (.lst ds.reverse)
  | _ => .stuck
end
def ItC (lo c : Int) (n : Nat) : It := ⟨fun i _ => i < n, fun i H x H' => H' = H ∧ x = .int (lo + (i : Int) * c), fun i _ => n ≤ i⟩
def RngC (i j k : Int) : Prop := k ≠ 0 ∧ Builtin.Range.small i j k = true ∧ Builtin.divisionGoesByPylong (j - i) k = false ∧ 0 ≤ Builtin.Range.rangeSize i j k
instance (i j k : Int) : Decidable (RngC i j k) := inferInstanceAs (Decidable (_ ∧ _ ∧ _ ∧ _))
section
variable {X : Cx} {tg a b c : Expr} {ta : TA} {p pos : Pos}
def intsC (lo c : Int) (n : Nat) : List D := (List.range n).map fun (i : Nat) => .int (lo + (i : Int) * c)
def intsCV (lo c : Int) (n : Nat) : List V := (List.range n).map fun (i : Nat) => .int (lo + (i : Int) * c)
def rng3 : List D → Res (List D)
  | [.int i, .int j, .int k] => must (RngC i j k) (.ok (intsC i k (Builtin.Range.rangeSize i j k).toNat))
  | _ => .stuck
def rng3F (fa : Sl → Res (List D)) : Sl → Res (List D) := fun env => fa env >>= rng3
def neverO : Sl → Res Out := fun _ => .stuck
theorem dss_never {sts : List Stmt} : DSs X sts neverO := by
 with_unfolding_all exact (PSs.imp pss_never fun E σ H ⟨G, H0, env, o, k, ef, q⟩ => by cases ef)
end
end M

set_option Elab.async false
set_option linter.all false
set_option maxRecDepth 100000
set_option maxHeartbeats 4000000
namespace M
open PySem PySem.W PyProof.Rows
def Wk {α : Type} (lt : Nat → Nat → Bool) (n : Nat) (R : α → Prop) : KasT α → Prop
  | .ret a => R a
  | .ask i j k => i < n ∧ j < n ∧ Wk lt n R (k (lt i j))
structure Ord (lt : Nat → Nat → Bool) (n : Nat) : Prop where
  asym : ∀ i j, lt i j = true → lt j i = false
  trans : ∀ i j k, i < n → j < n → k < n → lt i j = true → lt j k = true → lt i k = true
  total : ∀ i j, i < n → j < n → i ≠ j → lt i j = true ∨ lt j i = true
abbrev at0 (p : Array Nat) (i : Nat) : Nat := p.getD i 0
structure Pm (p : Array Nat) (n : Nat) : Prop where
  size : p.size = n
  perm : p.toList.Perm (List.range n)
section
variable {lt : Nat → Nat → Bool} {n : Nat} (O : Ord lt n)
def Up (lt : Nat → Nat → Bool) (p : Array Nat) (k : Nat) : Prop := ∀ i j, i < j → j < k → lt (at0 p i) (at0 p j) = true
def Down (lt : Nat → Nat → Bool) (p : Array Nat) (k : Nat) : Prop := ∀ i j, i < j → j < k → lt (at0 p j) (at0 p i) = true
include O
end
end M

set_option Elab.async false
set_option linter.all false
set_option maxRecDepth 100000
set_option maxHeartbeats 4000000
namespace M
open PySem PySem.W PyProof.Rows
section
variable {prog : Program} {w : World} {A : Around} {E : Value → Shared → Prop} {s : Shared} {a : Addr} {vs : List Value} {n : Nat}
def sortHp (h : Heap) (a : Addr) (vs : List Value) : Heap := ((h.update a (Obj.mapSeq fun _ => (#[] : Array Value))).push (seqObj "tuple" vs.toArray 0)).push (seqObj "list" #[] 0)
def outOf (vs : List Value) (p : Array Nat) : List Value := p.toList.map fun i => vs.getD i Value.none
end
end M

set_option Elab.async false
set_option linter.all false
set_option maxRecDepth 100000
set_option maxHeartbeats 4000000
namespace M
open PySem PySem.W PyProof.Rows
def DAt (h : Heap) (d : Addr) (ks : List Value) (ep : Nat) : Prop := ∃ o es, h.get? d = some o ∧ o.ExactDict ∧ o.data = .dict es ep ∧ es.toList.map (·.key) = ks
section
variable {prog : Program} {w : World} {A : Around} {E : Value → Shared → Prop} {s : Shared} {d it : Addr} {ks : List Value} {ep i : Nat}
end
end M

set_option Elab.async false
set_option linter.all false
set_option maxRecDepth 100000
set_option maxHeartbeats 4000000
namespace M
open PySem PySem.W PyProof.Rows
abbrev Hd := Str × Int
def hlt (a b : Hd) : Bool := if a.1 = b.1 then decide (a.2 < b.2) else decide (a.1.cps.toList < b.1.cps.toList)
def hltI (hs : List Hd) (i j : Nat) : Bool := match hs[i]?, hs[j]? with
  | some a, some b => hlt a b
  | _, _ => false
def IsHd (h : Heap) (v : Value) (a : Hd) : Prop := ∃ b o n t u, v = .ref b ∧ h.get? b = some o ∧ o.cls = .type "tuple" ∧ o.data = .seq #[.str a.1 t, .int a.2 u] n
section
variable {prog : Program} {w : World} {A : Around} {E : Value → Shared → Prop} {s : Shared}
inductive AreHd (h : Heap) : List Value → List Hd → Prop where
  | nil : AreHd h [] []
  | cons {v : Value} {a : Hd} {vs : List Value} {hs : List Hd} : IsHd h v a → AreHd h vs hs → AreHd h (v :: vs) (a :: hs)
end
end M

set_option Elab.async false
set_option linter.all false
set_option maxRecDepth 100000
set_option maxHeartbeats 4000000
namespace M
open PySem PySem.W PyProof.Rows
section
variable {prog : Program} {w : World} {A : Around} {E : Value → Shared → Prop} {s : Shared} {a : Addr} {vs : List Value} {n : Nat}
end
def insH (a : Hd) : List Hd → List Hd
  | [] => [a]
  | b :: r => if hlt a b = true then a :: b :: r else b :: insH a r
def sortH (hs : List Hd) : List Hd := hs.foldr insH []
inductive F2 {α β : Type} (R : α → β → Prop) : List α → List β → Prop where
  | nil : F2 R [] []
  | cons {a b as bs} : R a b → F2 R as bs → F2 R (a :: as) (b :: bs)
section
variable {prog : Program} {w : World} {A : Around} {E : Value → Shared → Prop} {s : Shared} {a : Addr} {vs : List Value} {n : Nat}
end
end M

set_option Elab.async false
set_option linter.all false
set_option maxRecDepth 100000
set_option maxHeartbeats 4000000
namespace M
open PySem PySem.W PyProof.Rows
section
variable {prog : Program} {w : World} {A : Around} {E : Value → Shared → Prop} {t : Shared} {vs : List Value} {hs : List Hd}
end
end M
namespace M
open PySem PySem.Spec L2
open PyProof.Rows hiding St
section
variable {X : Cx}
def HdV (H : Hp) (x : V) (a : Hd) : Prop := ∃ b, x = .ref b ∧ H b = some (.tup [.str a.1, .int a.2])
end
end M

set_option Elab.async false
set_option linter.all false
set_option maxRecDepth 100000
set_option maxHeartbeats 4000000
namespace M
open PySem PySem.Spec L2
open PyProof.Rows hiding St
def keysD : List D → Option (List Key)
  | [] => some []
  | d :: r => match keyD d, keysD r with
    | some k, some ks => some (k :: ks)
    | _, _ => none
def keyT : D → Option (List Key)
  | .tup ds => keysD ds
  | _ => none
def hasT (ks : List (List Key)) (k : List Key) : Bool := ks.any fun x => decide (x = k)
def putTs (ks : List (List Key)) (k : List Key) : List (List Key) := if hasT ks k = true then ks else ks ++ [k]
def putTd (ks : List (List Key)) (ds : List D) (k : List Key) (d : D) : List D := if hasT ks k = true then (ks.zip ds).map (fun p => if p.1 = k then d else p.2) else ds ++ [d]
section
variable {K : PySem.W.Frag} {A : Addr → Prop} {H : Hp}
end
def ownT (i : Nat) (env : Sl) : Res (List (List Key) × List D) := match env[i]? with
  | some (.own (.dit ks ds)) => .ok (ks, ds)
  | _ => .stuck
section
variable {X : Cx} {K : PySem.W.Frag} {l1 l2 : Lv} {e1 e2 : Expr} {fk fv : Sl → Res D} {pos cpos apos p : Pos} {x : Str}
def cDT : Sl → Res D := fun _ => .ok (.dit [] [])
def dputT (i : Nat) (fk fv : Sl → Res D) : Sl → Res Out := fun env => ownT i env >>= fun q => fv env >>= fun d => fk env >>= fun kd => match keyT kd with
  | some k => must (q.1.length < sizeLine) (.ok (.nx (env.set i (.own (.dit (putTs q.1 k) (putTd q.1 q.2 k d))))))
  | none => .stuck
def hdOf : D → Option Hd
  | .tup [.str z, .int k] => some (z, k)
  | _ => none
def hdD (a : Hd) : D := .tup [.str a.1, .int a.2]
def hdsOf : List D → Option (List Hd)
  | [] => some []
  | d :: r => match hdOf d, hdsOf r with
    | some a, some as => some (a :: as)
    | _, _ => none
def shortH (hs : List Hd) : Bool := hs.all fun a => decide (a.1.length ≤ sizeLine)
def sortedL : List D → Res D
  | [.lst ds] => match hdsOf ds with
    | some hs => must (hs.Nodup ∧ hs.length < 64) (.ok (.lst ((sortH hs).map hdD)))
    | none => .stuck
  | _ => .stuck
end
end M

set_option Elab.async false
set_option linter.all false
set_option maxRecDepth 100000
set_option maxHeartbeats 4000000
namespace M
open PySem PySem.Spec L2
open PyProof.Rows hiding St
def hdK (a : Hd) : List Key := [.inr a.1, .inl a.2]
section
variable {X : Cx} {K : PySem.W.Frag}
def hdOfK : List Key → Option Hd
  | [.inr z, .inl k] => some (z, k)
  | _ => none
def hdsOfK : List (List Key) → Option (List Hd)
  | [] => some []
  | d :: r => match hdOfK d, hdsOfK r with
    | some a, some as => some (a :: as)
    | _, _ => none
def sortedT : List D → Res D
  | [.dit ks _] => match hdsOfK ks with
    | some hs => must (hs.Nodup ∧ hs.length < 64 ∧ shortH hs = true) (.ok (.lst ((sortH hs).map hdD)))
    | none => .stuck
  | _ => .stuck
end
end M

set_option Elab.async false
set_option linter.all false
set_option maxRecDepth 100000
set_option maxHeartbeats 4000000
namespace M
open PySem PySem.Spec L2
open PyProof.Rows hiding St
def upTo (val : Nat → Int) : Nat → Nat → Int → Int
  | 0, _, b => b
  | k + 1, j, b => upTo val k (j + 1) (if val j > b then val j else b)
def maxF : Int → List Int → Int
  | b, [] => b
  | b, i :: r => maxF (if i > b then i else b) r
section
variable {prog : Program} {w : World} {A : Around} {R : Result → Shared → Prop} {I : Addr} {fp wr : List Addr} {n : Nat} {P : Nat → Value → Prop} {St : Nat → Heap → Prop} {kw : List (Str × Value)}
end
end M

set_option Elab.async false
set_option linter.all false
set_option maxRecDepth 100000
set_option maxHeartbeats 4000000
namespace M
open PySem PySem.Spec L2
open PyProof.Rows hiding St
section
variable {prog : Program} {w : World} {A : Around} {E : Value → Shared → Prop} {s : Shared}
def maxOr (d : Option Int) : List Int → Option Int
  | [] => d
  | i :: r => some (maxF i r)
theorem vals_int : ∀ {is : List Int} {us : List Value}, Vals (is.map V.int) us → us.length = is.length ∧ ∀ i v, us[i]? = some v → ∃ t, v = Value.int (is.getD i 0) t
  | [], _, .nil => ⟨rfl, fun i v h => by cases h⟩
  | i :: is, _, .cons h t => by
    obtain ⟨a, b⟩ := vals_int t
    refine ⟨by simp [a], fun j v hv => ?_⟩
    cases j with
    | zero =>
      simp at hv; subst hv
      obtain ⟨t, e⟩ := h
      exact ⟨t, by rw [e]; rfl⟩
    | succ j => simp at hv; simpa using b j v hv
end
end M

set_option Elab.async false
set_option linter.all false
set_option maxRecDepth 100000
set_option maxHeartbeats 4000000
namespace M
open PySem PySem.Spec L2
open PyProof.Rows hiding St
def intsOf : List D → Option (List Int)
  | [] => some []
  | .int b :: r => (intsOf r).map (b :: ·)
  | _ => none
theorem intsOf_get : ∀ {ds : List D} {bs : List Int}, intsOf ds = some bs → ds = bs.map D.int
  | [], bs, h => by cases h; rfl
  | d :: r, bs, h => by
    cases d with
    | int b =>
      simp only [intsOf, Option.map_eq_some_iff] at h
      obtain ⟨bs', h1, rfl⟩ := h
      rw [intsOf_get h1]; rfl
    | _ => cases h
theorem intsOf_of (bs : List Int) : intsOf (bs.map D.int) = some bs := by
  induction bs with
  | nil => rfl
  | cons b r ih => simp [intsOf, ih]
section
variable {X : Cx} {K : PySem.W.Frag} {l l' l2 : Lv}
theorem reps_ints {A : Addr → Prop} {H : Hp} : ∀ {bs : List Int} {xs : List V}, Reps K A H xs (bs.map D.int) → xs = bs.map V.int
  | [], _, .nil => rfl
  | b :: bs, _, .cons h t => by rw [h.intE, reps_ints t]; rfl
def maxLD : List D → Res D
  | [.lst ds] => match intsOf ds with
    | some is => match maxOr none is with
      | some m => .ok (.int m)
      | none => .stuck
    | none => .stuck
  | _ => .stuck
def maxDD (a b : D) : Res D := match a, b with
  | .lst ds, .int i => match intsOf ds with
    | some is => match maxOr (some i) is with
      | some m => .ok (.int m)
      | none => .stuck
    | none => .stuck
  | _, _ => .stuck
variable {x : Str} {p pos kpos : Pos} {e e2 : Expr} {fa f2 : Sl → Res D}
end
end M

set_option Elab.async false
set_option linter.all false
set_option maxRecDepth 100000
set_option maxHeartbeats 4000000
namespace M
open PySem PySem.Spec L2
open PyProof.Rows hiding St
open PySem.SeqAt
section
variable {X : Cx} {K : PySem.W.Frag}
def inL (ds : List D) (d : D) : Bool := ds.any fun y => eqD y d
def rInL (K : PySem.W.Frag) (neg : Bool) : R2 := fun x y H Q => ∃ p xs ds d, y = .ref p ∧ SqL K H p xs ∧ Reps K Any H xs ds ∧ Rep K Any H x d ∧ (D.eqbs ds = true ∧ D.eqb d = true ∧ D.deps ds ≤ 190) ∧ Q (.bl (if neg then !inL ds d else inL ds d)) H
open Classical in
def inLR (neg : Bool) : D → D → Res D
  | d, .lst ds => must (D.eqbs ds = true ∧ D.eqb d = true ∧ D.deps ds ≤ 190) (.ok (.bl (if neg then !inL ds d else inL ds d)))
  | _, _ => .stuck
end
end M

set_option Elab.async false
set_option linter.all false
set_option maxRecDepth 100000
set_option maxHeartbeats 4000000
namespace M
open PySem PySem.Spec L2
open PyProof.Rows hiding St
section
variable {X : Cx} {id : String} {r : List V → Hp → VK → Prop} {g : List D → Res D} {x : Str} {p pos : Pos} {e : Expr} {es : List Expr} {fa : Sl → Res (List D)}
theorem de_callN (hc : CallR X (.builtin id) r) (hr : CallD X.K r g) (hg : Gl X x) (hm : X.mg x = none) (hv : bootBuiltins x = some (.builtin id))
    (ha : DA X .s (e :: es) fa) (hn : x ≠ "__name__" := by decide) (hdb : (x == ("__debug__" : Str)) = false := by decide)
    (he : starEach (e :: es) X.env = (false, eval e X.env) :: starEach es X.env := by exact star_plain rfl) (hpl : (backTo pos (starEach es X.env)).any (·.1) = false := by exact any_plain rfl) : DE X .t (.Call (.Name x p) (e :: es) [] pos) (app fa g) := by
 with_unfolding_all exact (
  PE.imp (pe_callB hc hg hm hv ha hn hdb he hpl) fun _ _ _ h => tCB_D hr h)
variable {ex : Expr} {t : Sl → Res Bool}
def frzT (i : Nat) (t : Sl → Res Bool) : Sl → Res Bool := fun env => t (frz i env)
end
end M

set_option Elab.async false
set_option linter.all false
set_option maxRecDepth 100000
set_option maxHeartbeats 4000000
namespace M
open PySem PySem.Spec L2
mutual
def tm : D → Bool
  | .int _ => true
  | .tup (.str _ :: ts) => decide (ts.length ≤ 3) && tms ts
  | _ => false
def tms : List D → Bool
  | [] => true
  | d :: r => tm d && tms r
end
mutual
theorem tm_ind1 {P : D → Prop} (h1 : ∀ i, P (.int i)) (h2 : ∀ z ts, ts.length ≤ 3 → (∀ t ∈ ts, tm t = true ∧ P t) → P (.tup (.str z :: ts))) : ∀ t, tm t = true → P t
  | .int i, _ => h1 i
  | .tup (x :: ts), h => by
    cases x with
    | str z =>
      simp only [tm, Bool.and_eq_true, decide_eq_true_eq] at h
      exact h2 z ts h.1 (tm_ind2 h1 h2 ts h.2)
    | _ => simp [tm] at h
  | .tup [], h => by simp [tm] at h
  | .non, h => by simp [tm] at h
  | .bl _, h => by simp [tm] at h
  | .str _, h => by simp [tm] at h
  | .lst _, h => by simp [tm] at h
  | .scr _, h => by simp [tm] at h
  | .dic _ _, h => by simp [tm] at h
  | .dit _ _, h => by simp [tm] at h
  | .exn _, h => by simp [tm] at h
  | .fdc _ _, h => by simp [tm] at h
  | .hdc _ _, h => by simp [tm] at h
theorem tm_ind2 {P : D → Prop} (h1 : ∀ i, P (.int i)) (h2 : ∀ z ts, ts.length ≤ 3 → (∀ t ∈ ts, tm t = true ∧ P t) → P (.tup (.str z :: ts))) : ∀ ts, tms ts = true → ∀ t ∈ ts, tm t = true ∧ P t
  | [], _, t, ht => by cases ht
  | d :: r, h, t, ht => by
    simp only [tms, Bool.and_eq_true] at h
    have a := tm_ind1 h1 h2 d h.1
    have b := tm_ind2 h1 h2 r h.2
    rcases List.mem_cons.mp ht with e | e
    · rw [e]; exact ⟨h.1, a⟩
    · exact b t e
end
mutual
def bks : D → List Int
  | .int i => [i]
  | .tup (_ :: ts) => bkss ts
  | _ => []
def bkss : List D → List Int
  | [] => []
  | d :: r => bks d ++ bkss r
end
mutual
def ren (f : Int → Int) : D → D
  | .int i => .int (f i)
  | .tup (x :: ts) => .tup (x :: rens f ts)
  | d => d
def rens (f : Int → Int) : List D → List D
  | [] => []
  | d :: r => ren f d :: rens f r
end
mutual
def bare : D → D
  | .tup (x :: ts) => .tup (x :: bares ts)
  | _ => .int 0
def bares : List D → List D
  | [] => []
  | d :: r => bare d :: bares r
end
theorem rens_map (f : Int → Int) : ∀ ts, rens f ts = ts.map (ren f)
  | [] => rfl
  | d :: r => by simp [rens, rens_map f r]
theorem bkss_flat : ∀ ts, bkss ts = ts.flatMap bks
  | [] => rfl
  | d :: r => by simp [bkss, bkss_flat r]
theorem nums_le {ts : List D} {k : Nat} (h : ∀ t ∈ ts, num t ≤ k) : nums ts ≤ ts.length * k := by
  induction ts with
  | nil => simp [nums]
  | cons d r ih =>
    have h1 := h d (by simp)
    have h2 := ih fun t ht => h t (by simp [ht])
    simp only [nums, List.length_cons, Nat.succ_mul]; omega
theorem eqbs_of : ∀ {ts : List D}, (∀ t ∈ ts, D.eqb t = true) → D.eqbs ts = true
  | [], _ => rfl
  | x :: r, h => by simp only [D.eqbs, Bool.and_eq_true]; exact ⟨h x (by simp), eqbs_of fun d hd => h d (by simp [hd])⟩
theorem deps_le {k : Nat} : ∀ {ts : List D}, (∀ t ∈ ts, D.dep t ≤ k) → D.deps ts ≤ k
  | [], _ => by simp [D.deps]
  | x :: r, h => by
    simp only [D.deps]
    have := h x (by simp)
    have := deps_le (ts := r) fun d hd => h d (by simp [hd])
    omega
theorem eqDs_self : ∀ {ts : List D}, (∀ t ∈ ts, eqD t t = true) → eqDs ts ts = true
  | [], _ => by simp [eqDs]
  | x :: r, h => by simp only [eqDs, Bool.and_eq_true]; exact ⟨h x (by simp), eqDs_self fun d hd => h d (by simp [hd])⟩
def ins (l : List Int) (x : Int) : List Int := if x ∈ l then l else l ++ [x]
def met (l xs : List Int) : List Int := xs.foldl ins l
def idx (l : List Int) (x : Int) : Int := ((l.idxOf x : Nat) : Int)
def dvs (n : Nat) : List Int → List D
  | [] => []
  | _ :: r => .int n :: dvs (n + 1) r
def kys (l : List Int) : List Key := l.map Sum.inl
theorem hasK_kys (l : List Int) (x : Int) : hasK (kys l) (.inl x) = decide (x ∈ l) := by
  induction l with
  | nil => rfl
  | cons a l ih =>
    unfold hasK kys at ih ⊢
    rw [List.map_cons, List.any_cons, ih]
    by_cases h : a = x
    · subst h; simp
    · have : x ≠ a := fun e => h e.symm
      simp [h, this]
theorem kys_len (l : List Int) : (kys l).length = l.length := by simp [kys]
end M

set_option Elab.async false
set_option linter.all false
set_option maxRecDepth 100000
set_option maxHeartbeats 4000000
namespace M
open PySem PySem.Spec L2
mutual
def tk (ns : List Str) : D → Bool
  | .int _ => true
  | .tup (.str z :: ts) => decide (z ∈ ns) && (decide (ts.length ≤ 9) && tks ns ts)
  | _ => false
def tks (ns : List Str) : List D → Bool
  | [] => true
  | d :: r => tk ns d && tks ns r
end
section
variable {ns : List Str}
mutual
theorem tk_ind1 {P : D → Prop} (h1 : ∀ i, P (.int i)) (h2 : ∀ z ts, z ∈ ns → ts.length ≤ 9 → (∀ t ∈ ts, tk ns t = true ∧ P t) → P (.tup (.str z :: ts))) : ∀ t, tk ns t = true → P t
  | .int i, _ => h1 i
  | .tup (x :: ts), h => by
    cases x with
    | str z =>
      simp only [tk, Bool.and_eq_true, decide_eq_true_eq] at h
      exact h2 z ts h.1 h.2.1 (tk_ind2 h1 h2 ts h.2.2)
    | _ => simp [tk] at h
  | .tup [], h => by simp [tk] at h
  | .non, h => by simp [tk] at h
  | .bl _, h => by simp [tk] at h
  | .str _, h => by simp [tk] at h
  | .lst _, h => by simp [tk] at h
  | .scr _, h => by simp [tk] at h
  | .dic _ _, h => by simp [tk] at h
  | .dit _ _, h => by simp [tk] at h
  | .exn _, h => by simp [tk] at h
  | .fdc _ _, h => by simp [tk] at h
  | .hdc _ _, h => by simp [tk] at h
theorem tk_ind2 {P : D → Prop} (h1 : ∀ i, P (.int i)) (h2 : ∀ z ts, z ∈ ns → ts.length ≤ 9 → (∀ t ∈ ts, tk ns t = true ∧ P t) → P (.tup (.str z :: ts))) : ∀ ts, tks ns ts = true → ∀ t ∈ ts, tk ns t = true ∧ P t
  | [], _, t, ht => by cases ht
  | d :: r, h, t, ht => by
    simp only [tks, Bool.and_eq_true] at h
    have a := tk_ind1 h1 h2 d h.1
    have b := tk_ind2 h1 h2 r h.2
    rcases List.mem_cons.mp ht with e | e
    · rw [e]; exact ⟨h.1, a⟩
    · exact b t e
end
theorem tks_of : ∀ {ts : List D}, (∀ t ∈ ts, tk ns t = true) → tks ns ts = true
  | [], _ => rfl
  | x :: r, h => by simp only [tks, Bool.and_eq_true]; exact ⟨h x (by simp), tks_of fun d hd => h d (by simp [hd])⟩
theorem tks_mem : ∀ {ts : List D} {t : D}, tks ns ts = true → t ∈ ts → tk ns t = true
  | x :: r, t, h, ht => by
    simp only [tks, Bool.and_eq_true] at h
    rcases List.mem_cons.mp ht with rfl | ht
    · exact h.1
    · exact tks_mem h.2 ht
theorem tk_nd {z : Str} {ts : List D} (hz : z ∈ ns) (h : ts.length ≤ 9) (ht : ∀ t ∈ ts, tk ns t = true) : tk ns (.tup (.str z :: ts)) = true := by
  simp only [tk, Bool.and_eq_true, decide_eq_true_eq]; exact ⟨hz, h, tks_of ht⟩
theorem tk_cases {t : D} (h : tk ns t = true) : (∃ i, t = .int i) ∨ ∃ z ts, t = .tup (.str z :: ts) ∧ z ∈ ns ∧ ts.length ≤ 9 ∧ ∀ u ∈ ts, tk ns u = true := by
  cases t with
  | int i => exact .inl ⟨i, rfl⟩
  | tup ds =>
    cases ds with
    | nil => simp [tk] at h
    | cons x ts =>
      cases x with
      | str z =>
        simp only [tk, Bool.and_eq_true, decide_eq_true_eq] at h
        exact .inr ⟨z, ts, rfl, h.1, h.2.1, fun u hu => tks_mem h.2.2 hu⟩
      | _ => simp [tk] at h
  | _ => simp [tk] at h
theorem fine_tk : ∀ t, tk ns t = true → fine t = true := tk_ind1 (fun i => rfl) fun z ts _ hl h => by
  simp only [fine, fines, Bool.and_eq_true, decide_eq_true_eq, List.length_cons, true_and]
  exact ⟨by omega, fines_of fun t ht => (h t ht).2⟩
theorem imm_tk : ∀ t, tk ns t = true → t.imm = true := tk_ind1 (fun i => rfl) fun z ts _ hl h => by
  show (true && D.imms ts) = true
  rw [Bool.true_and]; exact imms_iff.mpr fun t ht => (h t ht).2
mutual
def pl (k : Nat) : D → List (D × Nat)
  | .tup (x :: r) => (.tup (x :: r), k) :: pls (k + 1) r
  | d => [(d, k)]
def pls (k : Nat) : List D → List (D × Nat)
  | [] => []
  | d :: r => pl k d ++ pls k r
end
def PlOk (t : D) : Prop := ∀ k, (pl k t).map (·.1) = pts t ∧ (∀ p ∈ pl k t, p.2 + 1 ≤ k + hgt t) ∧ ∃ p ∈ pl k t, p.2 + 1 = k + hgt t
def pr (p : D × Nat) : D := .tup [p.1, .int (p.2 : Int)]
def intL : List D → List Int
  | [] => []
  | .int i :: r => i :: intL r
  | _ :: r => intL r
def hdL : List D → List Hd
  | [] => []
  | .tup (.str z :: ts) :: r => (z, (ts.length : Int)) :: hdL r
  | _ :: r => hdL r
def hins (l : List Hd) (a : Hd) : List Hd := if a ∈ l then l else l ++ [a]
def hmet (l xs : List Hd) : List Hd := xs.foldl hins l
def htrs (l : List Hd) : List D := l.map fun _ => .bl true
def sumN (a s : Nat) : Nat → Nat
  | 0 => 0
  | k + 1 => sumN a s k + (a + k) / s
end
end M

set_option Elab.async false
set_option linter.all false
set_option maxRecDepth 100000
set_option maxHeartbeats 4000000
namespace M
open PySem PySem.Spec L2
open PyProof.Rows hiding St
theorem boot_divmodG : bootBuiltins "divmod" = some (.builtin "divmod") := by decide +kernel
def divmodD : List D → Res D
  | [.int i, .int j] => must (0 < j ∧ j < 1073741824) (.ok (.tup [.int (i / j), .int (i % j)]))
  | _ => .stuck
theorem cd_divmod {K : PySem.W.Frag} : CallD K (fun xs H Q => ∃ i j, xs = [.int i, .int j] ∧ CDiv i j ∧ ∀ p, H p = none → Q (.ref p) (upd H p (.tup [.int (i / j), .int (i % j)]))) divmodD := by
  intro A xs H ds d Q r e q
  unfold divmodD at e
  split at e
  · obtain ⟨hc, e2⟩ := must_inv e
    cases e2
    obtain ⟨v, v', rfl, r1, r2⟩ := r.two
    cases r1.intE
    cases r2.intE
    exact ⟨_, _, rfl, hc, fun p hp => q _ _ (Same.upd hp) (.tup upd_same (.cons (.int _) (.cons (.int _) .nil))) (new_top (Same.refl H) hp)⟩
  · cases e
section
variable {X : Cx} {pins : List (Addr × Obj)} {σ : L2.St} {H : Hp} {s : Shared}
theorem inv_turned2 {t' : Nat} {h' : Heap} {i1 i2 : Addr} (I : Inv X pins σ H s) (k : ∀ b o, b ≠ i1 → b ≠ i2 → s.heap.get? b = some o → h'.get? b = some o) (f1 : FpOk X pins H i1) (f2 : FpOk X pins H i2) : Inv X pins σ H { s with heap := h', toks := t' } := by
  obtain ⟨a0, a1, _, a3, a4, a5⟩ := f1
  obtain ⟨b0, b1, _, b3, b4, b5⟩ := f2
  have n1 : ∀ b u, H b = some u → b ≠ i1 := fun b u e z => by rw [z, a0] at e; cases e
  have n2 : ∀ b u, H b = some u → b ≠ i2 := fun b u e z => by rw [z, b0] at e; cases e
  have kk : ∀ b o, b ∉ [i1, i2] → s.heap.get? b = some o → h'.get? b = some o := fun b o hc e => k b o (fun z => hc (by simp [z])) (fun z => hc (by simp [z])) e
  refine I.step (g' := s.gens) (d' := s.drawn) (ch := [i1, i2]) (fun b hb => ?_) (fun b o _ _ hc e _ => kk b o hc e) (fun b o _ _ hc e _ => ⟨o.slots, kk b o hc e⟩) (fun _ _ _ _ n => n)
    (fun b o hc e => ⟨o, kk b o hc e⟩) (fun _ _ e => e) (fun _ _ _ e => e) (fun b ps e => ⟨#[], by rw [e]; simp⟩) (fun m hm => ?_) (fun b u e => ?_) I.bare
  · simp only [List.mem_cons, List.not_mem_nil, or_false] at hb
    rcases hb with rfl | rfl
    · exact ⟨a3, a1, a4, a5⟩
    · exact ⟨b3, b1, b4, b5⟩
  · obtain ⟨o, es, ep, ho, r⟩ := hm
    exact ⟨o, es, ep, k _ o (Ne.symm a1) (Ne.symm b1) ho, r⟩
  · refine (I.hok b u e).stay (fun c v hc q => k c v ?_ ?_ q) (fun _ q => q) fun _ _ q => q
    · rcases hc with z | z
      · rw [z]; exact n1 b u e
      · exact n1 c _ z
    · rcases hc with z | z
      · rw [z]; exact n2 b u e
      · exact n2 c _ z
end
def ItE (K : PySem.W.Frag) (a : Addr) (xs : List V) : It := ⟨fun i H => SqL K H a xs ∧ i < xs.length, fun i H v H' => ∃ p x, H p = none ∧ xs[i]? = some x ∧ v = .ref p ∧ H' = upd H p (.tup [.int (i : Int), x]), fun i H => SqL K H a xs ∧ xs.length ≤ i⟩
theorem turn_enum {P : Program} {w : World} {K : PySem.W.Frag} {elts : List Expr} {n : Nat} {pos : Pos} (a it e : Addr) (xs : List V) (hei : e ≠ it) : Turn P w K (.Tuple elts n pos) (ItE K a xs) [e, it] e (fun i h => (∃ old, IsEnum h e it (i : Int) old) ∧ h.IsListIter it a i) where
  mem := by simp
  obj := fun i h st b hb => by
    obtain ⟨⟨old, he⟩, o, ho, hc, hd⟩ := st
    simp only [List.mem_cons, List.not_mem_nil, or_false] at hb
    rcases hb with rfl | rfl
    · exact ⟨_, he, fun v z => by cases z⟩
    · exact ⟨o, ho, fun v z => by rw [hd] at z; cases z⟩
  keep := fun i h h' st k => by
    obtain ⟨⟨old, he⟩, hit⟩ := st
    exact ⟨⟨old, k e (by simp) _ he⟩, hit.at fun o x => k it (by simp) o x⟩
  item := by
    intro X hP hw hK hc i pins s σ H E I hf st hg
    subst hP hw hK
    obtain ⟨hq, hi⟩ := hg
    obtain ⟨its, rv, p, hz⟩ := I.list hq
    have hx : xs[i]? = some xs[i] := List.getElem?_eq_getElem hi
    obtain ⟨u, hu, ru⟩ := rv.get hx
    obtain ⟨⟨old, he⟩, hit⟩ := st
    have fe := hf e (by simp)
    have fi := hf it (by simp)
    refine wpAny_pyNext_enum_item he hit p.isList (x := u) (by simpa using hu) hei fun h' ho hit' hT hsz hk => ?_
    refine ⟨_, rfl, wpAny_letOwnedTupleGo_enum ho fun h'' he' hs' => ?_⟩
    have helt : e < s.heap.objs.size := Heap.lt_size he
    have hilt : it < s.heap.objs.size := by obtain ⟨_, x, _⟩ := hit; exact Heap.lt_size x
    have hfr : H s.heap.objs.size = none := I.hok.fresh (Nat.le_refl _)
    have I1 : Inv X pins σ (upd H s.heap.objs.size (.tup [.int (i : Int), xs[i]])) { s with heap := s.heap.push { cls := .type "tuple", data := .seq #[.int i s.toks, u] } } :=
      I.laid (t' := s.toks) (fun b o e => Heap.get?_push_of_some _ e) (Nat.le_refl _) ⟨Nat.le_trans (show 2 ≤ 20 by decide) (by decide), [.int i s.toks, u], .cons ⟨_, rfl⟩ (.cons ru .nil), ⟨_, Heap.get?_push_size _ rfl, rfl, _, rfl⟩⟩
    have fe1 : FpOk X pins (upd H s.heap.objs.size (.tup [.int (i : Int), xs[i]])) e := ⟨by rw [upd_ne (Nat.ne_of_lt helt)]; exact fe.1, fe.2⟩
    have fi1 : FpOk X pins (upd H s.heap.objs.size (.tup [.int (i : Int), xs[i]])) it := ⟨by rw [upd_ne (Nat.ne_of_lt hilt)]; exact fi.1, fi.2⟩
    have I2 := inv_turned2 (t' := s.toks + 1) (h' := h'') I1 (fun b o hbe hbi eo => by
      refine (hs'.2 b hbe).trans ?_
      by_cases hb : b = s.heap.objs.size
      · subst hb
        rw [Heap.get?_push_size _ rfl] at eo
        rw [← eo]; exact hT
      · have eo' : s.heap.get? b = some o := by
          rcases Heap.get?_push_cases eo with ⟨z, _⟩ | z
          · exact absurd z hb
          · exact z
        exact hk b o hbe hbi eo') fe1 fi1
    refine ⟨.ref s.heap.objs.size, _, I2, rfl, ⟨_, _, hfr, hx, rfl, rfl⟩, ⟨⟨_, by simpa using he'⟩, hit'.at fun o y => (hs'.2 it hei.symm).trans y⟩, fun b hb => ?_⟩
    simp only [List.mem_cons, List.not_mem_nil, or_false] at hb
    rcases hb with rfl | rfl
    · exact fe1.1
    · exact fi1.1
  done := by
    intro X hP hw hK hc i pins s σ H E I hf st hg
    subst hP hw hK
    obtain ⟨hq, hi⟩ := hg
    obtain ⟨its, rv, p, hz⟩ := I.list hq
    obtain ⟨⟨old, he⟩, hit⟩ := st
    have hl := rv.length
    refine wpAny_pyNext_enum_end (I.ok.hd hc) he hit p.isList (by simp; omega) fun h' eb => ⟨rfl, inv_turned2 (t' := s.toks) I (fun b o hbe hbi eo => eb b o hbi eo) (hf e (by simp)) (hf it (by simp))⟩
  self := fun _ _ _ _ _ st h => let ⟨⟨_, he⟩, _⟩ := st; wpAny_pyIter_enum he h
section
variable {X : Cx} {elts : List Expr} {n : Nat} {tpos p pos : Pos} {e : Expr} {f : Sl → Res D}
def pairsFrom : Nat → List D → List D
  | _, [] => []
  | k, d :: r => .tup [.int (k : Int), d] :: pairsFrom (k + 1) r
theorem pairs_len : ∀ (k : Nat) (ds : List D), (pairsFrom k ds).length = ds.length
  | _, [] => rfl
  | k, d :: r => by simp [pairsFrom, pairs_len (k + 1) r]
theorem pairs_get : ∀ (k i : Nat) (ds : List D), (pairsFrom k ds)[i]? = (ds[i]?).map fun d => .tup [.int ((k + i : Nat) : Int), d]
  | k, i, [] => by simp [pairsFrom]
  | k, 0, d :: r => by simp [pairsFrom]
  | k, i + 1, d :: r => by
    simp only [pairsFrom, List.getElem?_cons_succ]
    rw [pairs_get (k + 1) i r]
    congr 1
    funext d
    congr 3
    omega
def enumF (f : Sl → Res D) : Sl → Res (List D) := fun env => f env >>= fun d => match d with
  | .lst ds => .ok (pairsFrom 0 ds)
  | .scr ds => .ok (pairsFrom 0 ds)
  | _ => .stuck
theorem di_enum (hg : Gl X "enumerate") (hm : X.mg "enumerate" = none) (h : DE X .s e f) (hs : starEach [e] X.env = [(false, eval e X.env)] := by rfl) : DI X (.Tuple elts n tpos) (.Call (.Name "enumerate" p) [e] [] pos) (enumF f) := by
  have hE : PE X e (tE X.K .s f) := by with_unfolding_all exact h
  with_unfolding_all exact (show PI X (.Tuple elts n tpos) (.Call (.Name "enumerate" p) [e] [] pos) (tI X.K (enumF f)) from by
    intro pins s σ H R I ⟨G, H0, env, ds, k, ef, q⟩
    obtain ⟨d, e1, e2⟩ := bind_inv ef
    have hA : PA X [e] (tA X.K .s fun env => f env >>= fun d => .ok [d]) := by
      have := pa_cons hE pa_nil (es := []) hs
      intro ps pins s σ H Q I ⟨G, H0, env, ds, k, ef, q⟩
      obtain ⟨d, c1, c2⟩ := bind_inv ef
      cases c2
      exact this ps pins s σ H Q I ⟨G, H0, env, d, k, c1, fun v H1 s1 r1 _ => q [v] H1 s1 (.cons r1 .nil)⟩
    refine Call_ (ld_blt I hg hm boot_enumerate (PyProof.Rows.callWith_type1 (thn (hA pos pins s σ H (fun vs H1 => ∃ v, vs = [v] ∧ Same H H1 ∧ Rep X.K (Sf G env σ) H1 v d) I ⟨G, H0, env, [d], k, by show (f env >>= _) = _; rw [e1]; rfl, fun vs H1 s1 r1 => by obtain ⟨v, rfl, r⟩ := r1.one; exact ⟨v, rfl, s1, r⟩⟩) fun us s1 ⟨vs, H1, I1, r1, v, ev, sm, rep⟩ => ?_) hs rfl))
    subst ev
    obtain ⟨u, rfl, ru⟩ := vals1 r1
    have k1 := k.grow sm
    have main : ∀ (a : Addr) (xs : List V) (es : List D) (P : Hp → Prop), u = .ref a → SqL X.K H1 a xs → Reps X.K (Sf G env σ) H1 xs es → ds = pairsFrom 0 es → P H1 → (∀ H', P H' → SqL X.K H' a xs) → (∀ env' σ' H', Frm env σ H1 env' σ' H' → P H') → wpAny (model X.prog X.w) X.A (call (.type "enumerate") [u]) (fun v s1 => wpAny (model X.prog X.w) X.A (pyIter v) (PIE X pins σ (.Tuple elts n tpos) R) X.xe s1) X.xe s1 := by
      intro a xs es P eu hq rs eds p0 pq pst
      subst eu
      obtain ⟨its, rv, pl, hz⟩ := I1.list hq
      refine call_enumerate_list pl.isList fun h' he hit hsz hk => wpAny_pyIter_enum he ?_
      have I2 : Inv X pins σ H1 { s1 with heap := h' } := I1.kept (t' := s1.toks) hk
      refine ⟨s1.heap.objs.size + 1, [s1.heap.objs.size + 1, s1.heap.objs.size], _, _, H1, rfl, I2, turn_enum a s1.heap.objs.size (s1.heap.objs.size + 1) xs (Nat.succ_ne_self _), ⟨⟨_, he⟩, hit⟩, fun b hb => ?_, ?_⟩
      · simp only [List.mem_cons, List.not_mem_nil, or_false] at hb
        rcases hb with rfl | rfl
        · exact I1.fpOk (Nat.le_succ _) (I1.hok.fresh (Nat.le_succ _))
        · exact I1.fpOk (Nat.le_refl _) (I1.hok.fresh (Nat.le_refl _))
      · refine q _ H1 P sm (fun i H' pp => ?_) p0 pst
        have hl := rs.length
        subst eds
        rw [pairs_len]
        refine ⟨fun hi => ⟨pq H' pp, by omega⟩, fun d hd x H2 y => ?_, fun hi => ⟨pq H' pp, by omega⟩⟩
        obtain ⟨p, x', hp, hx', rfl, rfl⟩ := y
        obtain ⟨d', hd', rd⟩ := rs.get' hx'
        rw [pairs_get, hd'] at hd
        cases hd
        exact .inr ⟨p, _, _, hp, rfl, rfl, rfl, .cons (by rw [Nat.zero_add]; exact .int _) (.cons rd .nil)⟩
    cases d with
    | lst es =>
      cases e2
      obtain ⟨a, xs, rfl, ha, na, rs⟩ := rep.lstE
      exact main a xs es (fun H => H a = some (.lst xs)) ru (.of ha) rs.low rfl ha (fun H' z => .of z) fun env' σ' H' fr => fr.keep a _ ha na.1
    | scr es =>
      cases e2
      obtain ⟨a, xs, rfl, ha, rs⟩ := rep.scrE
      refine main a xs es (fun H => LsK X.K H a xs) ru ha.sql rs rfl ha (fun H' z => z.sql) fun env' σ' H' fr => ?_
      rcases ha with ⟨o, eo⟩ | z
      · exact .inl ⟨o, fr.keep a _ eo fun ow => (k1.mutO ow eo).elim⟩
      · exact .inr z
    | _ => cases e2)
end
end M

set_option Elab.async false
set_option linter.all false
set_option maxRecDepth 100000
set_option maxHeartbeats 4000000
namespace M
open PySem PySem.Spec L2
open PyProof.Rows hiding St
theorem boot_sumG : bootBuiltins "sum" = some (.builtin "sum") := by decide +kernel
def sumI : List Int → Int
  | [] => 0
  | i :: r => i + sumI r
theorem sumI_app (a b : List Int) : sumI (a ++ b) = sumI a + sumI b := by
  induction a with
  | nil => simp [sumI]
  | cons i r ih => simp [sumI, ih]; omega
theorem preSum_take (is : List Int) : ∀ k, k ≤ is.length → preSum (fun j => is.getD j 0) k = sumI (is.take k)
  | 0, _ => rfl
  | k + 1, h => by
    have hk : k < is.length := by omega
    show preSum (fun j => is.getD j 0) k + is.getD k 0 = _
    rw [preSum_take is k (by omega), List.take_succ_eq_append_getElem hk, sumI_app]
    simp [sumI, hk]
section
variable {X : Cx} {K : PySem.W.Frag}
theorem call_sumL (hc : X.calm = true) : CallR X (.builtin "sum") (fun xs H Q => ∃ (p : Addr) (is : List Int), xs = [.ref p] ∧ SqL X.K H p (is.map V.int) ∧ Q (.int (sumI is)) H) := by
  intro pins s σ H xs us Q I r ⟨p, is, ex, hq, q⟩
  subst ex
  obtain ⟨u, rfl, ru⟩ := vals1 r
  cases ru
  obtain ⟨its, rv, pl, hz⟩ := I.list hq
  obtain ⟨v1, v2⟩ := vals_int rv
  have hplt : p < s.heap.objs.size := by
    obtain ⟨o, n, e, _⟩ := pl
    exact Heap.lt_size e
  have hne : p ≠ s.heap.objs.size := Nat.ne_of_lt hplt
  refine call_sum_walkAnyS (wpAny_pyIter_list pl.isList ?_)
  have W := Walks.list (prog := X.prog) (w := X.w) (A := X.A.in1) (I.ok.hd hc) s.heap.objs.size p hne its.toArray
  have hs1 : (s.heap.push { cls := .type "list_iterator", data := .fields #[.ref p, .int 0 0] }).objs.size = s.heap.objs.size + 1 := Heap.size_push ..
  refine ⟨s.heap.objs.size, _, _, _, its.toArray.size, _, _, (fun j => is.getD j 0), rfl, W.toS, ⟨⟨_, Heap.get?_push_size _ rfl, rfl, rfl⟩, pl.isList.push _⟩, fun b hb => ?_, fun i v hP => v2 i v (by simpa using hP), fun s' t' hm => ?_⟩
  · simp only [List.mem_cons, List.not_mem_nil, or_false] at hb
    show b < (s.heap.push { cls := .type "list_iterator", data := .fields #[.ref p, .int 0 0] }).objs.size
    rw [hs1]
    rcases hb with rfl | rfl
    · exact Nat.lt_succ_self _
    · exact Nat.lt_succ_of_lt hplt
  · rw [Moved.eq_with hm]
    have e : preSum (fun j => is.getD j 0) its.toArray.size = sumI is := by
      have hsz : its.toArray.size = is.length := by simpa using v1
      rw [hsz, preSum_take is _ (Nat.le_refl _), List.take_length]
    refine ⟨.int (sumI is), H, I.kept fun b o eo => ?_, ⟨t', by rw [e]⟩, q⟩
    refine hm.heap b o (fun hb => ?_) (Heap.get?_push_of_some _ eo)
    have hlt := Heap.lt_size eo
    simp only [List.mem_cons, List.not_mem_nil, or_false] at hb
    exact absurd hb (Nat.ne_of_lt hlt)
def sumLD : List D → Res D
  | [.lst ds] => match intsOf ds with
    | some is => .ok (.int (sumI is))
    | none => .stuck
  | _ => .stuck
theorem cd_sumL : CallS K (fun xs H Q => ∃ (p : Addr) (is : List Int), xs = [.ref p] ∧ SqL K H p (is.map V.int) ∧ Q (.int (sumI is)) H) sumLD := by
  intro xs H ds d Q r e q
  unfold sumLD at e
  split at e
  · split at e
    · rename_i es is hbs
      cases e
      obtain ⟨v, rfl, r1⟩ := r.one
      obtain ⟨p, ys, rfl, hp, _, ry⟩ := r1.lstE
      rw [intsOf_get hbs] at ry
      have := reps_ints ry
      subst this
      exact ⟨p, is, rfl, .of hp, q _ (sc_int _)⟩
    · cases e
  · cases e
end
open PySem.SeqAt (EqAt RcAt RcNeAt)
def GtAt (A : Around) (s : Shared) (y x : Value) (b : Bool) : Prop :=
  ∀ (prog : Program) (w : World) (E : Value → Shared → Prop) (Q : Value → Shared → Prop), Q (.bool b) s → wpAny (model prog w) A (richCompare .Gt y x) Q E s
def lexJ (e g : Nat → Bool) (z : Bool) : List Nat → Bool
  | [] => z
  | j :: r => if e j = true then lexJ e g z r else g j
open AutoSeq1 (wpAny_loadPart') in
mutual
def gtD : D → D → Bool
  | .int i, .int j => decide (j < i)
  | .str x, .str y => decide (y.cps.toList < x.cps.toList)
  | .tup a, .tup b => gtDs a b
  | _, _ => false
def gtDs : List D → List D → Bool
  | a :: as, b :: bs => if eqD a b = true then gtDs as bs else gtD a b
  | a :: as, [] => true
  | [], _ => false
end
mutual
def cmpb : D → D → Bool
  | .int _, .int _ => true
  | .str _, .str _ => true
  | .tup a, .tup b => cmpbs a b
  | _, _ => false
def cmpbs : List D → List D → Bool
  | a :: as, b :: bs => if eqD a b = true then cmpbs as bs else cmpb a b
  | _, _ => true
end
def gtAtJ (a b : List D) (j : Nat) : Bool := match a[j]?, b[j]? with
  | some x, some y => gtD x y
  | _, _ => false
section
variable {X : Cx} {pins : List (Addr × Obj)} {σ : L2.St} {H : Hp} {s : Shared}
end
section
variable {X : Cx} {K : PySem.W.Frag}
def GtC (a b : D) : Prop := D.eqb a = true ∧ D.eqb b = true ∧ a.dep ≤ 190 ∧ cmpb a b = true
instance (a b : D) : Decidable (GtC a b) := inferInstanceAs (Decidable (_ ∧ _))
def rGtD (K : PySem.W.Frag) : R2 := fun x y H Q => ∃ a b, Rep K Any H x a ∧ Rep K Any H y b ∧ GtC a b ∧ Q (.bl (gtD a b)) H
def gtR (a b : D) : Res D := must (GtC a b) (.ok (.bl (gtD a b)))
end
end M

set_option Elab.async false
set_option linter.all false
set_option maxRecDepth 100000
set_option maxHeartbeats 4000000
namespace M
open PySem PySem.Spec L2
open PyProof.Rows hiding St
def rvoObj (t : Addr) (i : Int) : Obj := { cls := .type "reversed", data := .fields #[.ref t, rawInt i] }
section
variable {prog : Program} {w : World} {A : Around} {E : Value → Shared → Prop} {s : Shared}
def IsRvo (h : Heap) (a t : Addr) (i : Int) : Prop := h.get? a = some (rvoObj t i)
end
section
variable {X : Cx} {e : Expr} {te : TE} {p p2 pos pos2 : Pos}
def revTF (f : Sl → Res D) : Sl → Res D := fun env => f env >>= fun d => match d with
  | .tup ds => .ok (.tup ds.reverse)
  | _ => .stuck
end
end M

set_option Elab.async false
set_option linter.all false
set_option maxRecDepth 100000
set_option maxHeartbeats 4000000
namespace M
open PySem PySem.Spec L2
open Classical in
noncomputable instance decD : DecidableEq D := fun a b => propDecidable (a = b)
mutual
def nb : D → Bool
  | .int _ => true
  | .str _ => true
  | .tup ds => nbs ds
  | _ => false
def nbs : List D → Bool
  | [] => true
  | d :: r => nb d && nbs r
end
theorem nbs_of : ∀ {ds : List D}, (∀ d ∈ ds, nb d = true) → nbs ds = true
  | [], _ => rfl
  | x :: r, h => by simp only [nbs, Bool.and_eq_true]; exact ⟨h x (by simp), nbs_of fun d hd => h d (by simp [hd])⟩
def EqIff (a : D) : Prop := nb a = true → ∀ b, nb b = true → (eqD a b = true ↔ a = b)
theorem eqDs_iff : ∀ {as : List D}, (∀ a ∈ as, EqIff a) → nbs as = true → ∀ bs, nbs bs = true → (eqDs as bs = true ↔ as = bs)
  | [], _, _, [], _ => by simp [eqDs]
  | [], _, _, b :: bs, _ => by simp [eqDs]
  | a :: as, _, _, [], _ => by simp [eqDs]
  | a :: as, h, ha, b :: bs, hb => by
    simp only [nbs, Bool.and_eq_true] at ha hb
    simp only [eqDs, Bool.and_eq_true, List.cons.injEq]
    rw [h a (by simp) ha.1 b hb.1, eqDs_iff (fun x hx => h x (by simp [hx])) ha.2 bs hb.2]
theorem eqD_iff (a : D) : EqIff a := by
  refine D.ind (P := EqIff) ?_ ?_ ?_ ?_ ?_ ?_ ?_ ?_ a
  · intro h; simp [nb] at h
  · intro b h; simp [nb] at h
  · intro i _ b hb
    cases b <;> first | (simp [nb] at hb; done) | simp [eqD]
  · intro x _ b hb
    cases b <;> first | (simp [nb] at hb; done) | simp [eqD]
  · intro ds ih ha b hb
    cases b with
    | tup es =>
      simp only [eqD, D.tup.injEq]
      exact eqDs_iff ih (by simpa only [nb] using ha) es (by simpa only [nb] using hb)
    | int i => simp [eqD]
    | str x => simp [eqD]
    | _ => simp [nb] at hb
  · intro ds _ h; simp [nb] at h
  · intro ds _ h; simp [nb] at h
  · exact ⟨fun ks ds _ h => by simp [nb] at h, fun ks ds _ h => by simp [nb] at h, fun c h => by simp [nb] at h, fun ks ds _ h => by simp [nb] at h, fun ks ds _ h => by simp [nb] at h⟩
def Tot (a : D) : Prop := nb a = true → ∀ b, nb b = true → cmpb a b = true → a = b ∨ gtD a b = true ∨ gtD b a = true
mutual
def tp : D → Bool
  | .tup (.str _ :: ts) => decide (ts.length ≤ 9) && tps ts
  | _ => false
def tps : List D → Bool
  | [] => true
  | d :: r => tp d && tps r
end
mutual
theorem tp_ind1 {P : D → Prop} (h2 : ∀ z ts, ts.length ≤ 9 → (∀ t ∈ ts, tp t = true ∧ P t) → P (.tup (.str z :: ts))) : ∀ t, tp t = true → P t
  | .tup (x :: ts), h => by
    cases x with
    | str z =>
      simp only [tp, Bool.and_eq_true, decide_eq_true_eq] at h
      exact h2 z ts h.1 (tp_ind2 h2 ts h.2)
    | _ => simp [tp] at h
  | .tup [], h => by simp [tp] at h
  | .int _, h => by simp [tp] at h
  | .non, h => by simp [tp] at h
  | .bl _, h => by simp [tp] at h
  | .str _, h => by simp [tp] at h
  | .lst _, h => by simp [tp] at h
  | .scr _, h => by simp [tp] at h
  | .dic _ _, h => by simp [tp] at h
  | .dit _ _, h => by simp [tp] at h
  | .exn _, h => by simp [tp] at h
  | .fdc _ _, h => by simp [tp] at h
  | .hdc _ _, h => by simp [tp] at h
theorem tp_ind2 {P : D → Prop} (h2 : ∀ z ts, ts.length ≤ 9 → (∀ t ∈ ts, tp t = true ∧ P t) → P (.tup (.str z :: ts))) : ∀ ts, tps ts = true → ∀ t ∈ ts, tp t = true ∧ P t
  | [], _, t, ht => by cases ht
  | d :: r, h, t, ht => by
    simp only [tps, Bool.and_eq_true] at h
    have a := tp_ind1 h2 d h.1
    have b := tp_ind2 h2 r h.2
    rcases List.mem_cons.mp ht with e | e
    · rw [e]; exact ⟨h.1, a⟩
    · exact b t e
end
mutual
def wgt : D → D
  | .tup (.str z :: ts) => .tup (.int ((1 + nums ts : Nat) : Int) :: .tup [.str z, .int (ts.length : Int)] :: wgts ts)
  | d => d
def wgts : List D → List D
  | [] => []
  | d :: r => wgt d :: wgts r
end
mutual
def kyt : D → D
  | .tup (.str z :: ts) => .tup (.int ((1 + nums ts : Nat) : Int) :: .str z :: .int (ts.length : Int) :: kyts ts)
  | d => d
def kyts : List D → List D
  | [] => []
  | d :: r => kyt d :: kyts r
end
theorem nums_sum (ts : List D) : sumI (ts.map fun t => ((num t : Nat) : Int)) = ((nums ts : Nat) : Int) := by
  induction ts with
  | nil => rfl
  | cons d r ih => simp only [List.map_cons, sumI, nums, ih]; push_cast; rfl
end M

set_option Elab.async false
set_option linter.all false
set_option maxRecDepth 100000
set_option maxHeartbeats 4000000
namespace M
open PySem PySem.Spec L2
open PyProof.Rows hiding St
def CX1 (P : Program) (w : World) : CXT := fun outer H s E e s' => ∃ (a C : Addr) (H' : Hp) (B : Heap) (a0 : Value), e = .ref a ∧ s'.os = s.os ∧ AllBare s'.gens ∧ Un (frs outer) [] H H' s.heap s'.heap ∧ HOk P w H' s'.heap ∧ H' a = none ∧
  Heap.FlyingW B outer a (.ref C) a0 s'.heap ∧ (∀ b, b ∉ frs outer → ((∃ o, s.heap.get? b = some o) ∨ ∃ u, H' b = some u) → B.get? b = s'.heap.get? b) ∧ E (.ref C) none H'
section
variable {P : Program} {w : World} {K : PySem.W.Frag} {mg : Str → Option Value} {base : Heap} {N : List Str} {qual : Str} {scope : Scope} {f : Addr} {cd : Value} {A : Around} {outer : List Env} {s0 : Shared} {H0 : Hp} {E : XK}
  {pins : List (Addr × Obj)} {σ : L2.St} {H : Hp} {s : Shared}
end
end M

set_option Elab.async false
set_option linter.all false
set_option maxRecDepth 100000
set_option maxHeartbeats 4000000
namespace M
open PySem PySem.Spec L2
open PyProof.Rows hiding St
abbrev NmC (K : PySem.W.Frag) (c : Str) (C : Addr) : Prop := PySem.W.nsIn K mainGlobals c = some (some (.ref C))
def XE (K : PySem.W.Frag) (c : Str) (H : Hp) : XK := fun cls _ H' => ∃ C, cls = .ref C ∧ NmC K c C ∧ Same H H'
def ThrB (X : Cx) (c : Str) (σ : L2.St) (H : Hp) : Prop := ∀ pins H1 s e s', Same H H1 → Inv X pins σ H1 s → CX1 X.prog X.w X.stack H1 s (XE X.K c H1) e s' → X.xe e s'
def ThrA (X : Cx) (c : Str) (H0 : Hp) : Prop := ∀ pins σ H (s : Shared) h e C vs, Same H0 H → NmC X.K c C → Inv X pins σ H { s with heap := h } → Heap.MadeExcOf h s.heap e (.ref C) vs → X.xe (.ref e) s
structure Thr (X : Cx) (c : Str) (H0 : Hp) : Prop where
  a : ThrA X c H0
  b : ∀ σ H, Same H0 H → ThrB X c σ H
def tEX (X : Cx) (l : Lv) (f : Sl → Res D) : TE := fun σ H Q => ∃ G H0 env, EnvOk X.K G H0 env σ H ∧
  ((∃ d, f env = .ok d ∧ ∀ v H', Same H H' → Rep X.K (l.A G env σ) H' v d → l.T H v → Q v H') ∨ ∃ c, f env = .exc c ∧ ThrB X c σ H)
def tSX (X : Cx) (g : Sl → Res Out) : TS := fun E σ H => ∃ G H0 env, EnvOk X.K G H0 env σ H ∧ ((∃ o, g env = .ok o ∧ Post X.K G H0 env σ H E o) ∨ ∃ c, g env = .exc c ∧ Thr X c H0)
@[irreducible] def DEX (X : Cx) (l : Lv) (e : Expr) (f : Sl → Res D) : Prop := PE X e (tEX X l f)
@[irreducible] def DSX (X : Cx) (st : Stmt) (g : Sl → Res Out) : Prop := PS X st (tSX X g)
@[irreducible] def DSsX (X : Cx) (st : List Stmt) (g : Sl → Res Out) : Prop := PSs X st (tSX X g)
def nx1 {α : Type} (r : Res α) : Res α := match r with
  | .ok a => .ok a
  | _ => .stuck
def calmO (g : Sl → Res Out) : Sl → Res Out := fun env => nx1 (g env)
def calmE (f : Sl → Res D) : Sl → Res D := fun env => nx1 (f env)
section
variable {X : Cx} {e c tg : Expr} {st : Stmt} {rest body orelse : List Stmt} {pos : Pos} {l : Lv} {f : Sl → Res D} {g g1 g2 : Sl → Res Out}
def ifX (t : Sl → Res Bool) (g1 g2 : Sl → Res Out) : Sl → Res Out := fun env => match t env with
  | .ok b => if b = true then g1 env else g2 env
  | _ => .stuck
end
def spX (K : PySem.W.Frag) (fr : Bool) (n : Nat) (F : List D → Res D) : Sp := fun vs H Q E => ∃ B ds, vs.length = n ∧ Reps K B H vs ds ∧
  ((∃ d, F ds = .ok d ∧ ∀ v H', Same H H' → Rep K (fun a => H a = none ∨ B a) H' v d → (fr = true → NewTop H v) → Q v H') ∨
    ∃ c, F ds = .exc c ∧ ∀ C H', NmC K c C → Same H H' → E (.ref C) none H')
structure AvX (P : Program) (w : World) (K : PySem.W.Frag) (mg : Str → Option Value) (base : Heap) (k : Nat) (x : Str) (ps : List Str) (fr : Bool) (F : List D → Res D) : Prop where
  ex : ∃ f fd, FnOk P w K mg base (CX1 P w) k f fd ps (spX K fr ps.length F) ∧ mg x = some (.ref f) ∧ PySem.W.keepIn K (.ref f) = true ∧ Binds K fd ps []
def callX (n : Nat) (F : List D → Res D) (g : Sl → Res (List D)) : Sl → Res D := fun env => match g env with
  | .ok ds => must (ds.length = n) (F ds)
  | _ => .stuck
section
variable {X : Cx} {k : Nat} {x : Str} {ps : List Str} {fr : Bool} {F : List D → Res D} {e : Expr} {es : List Expr} {p pos : Pos} {g : Sl → Res (List D)}
end
def runX (fr : Bool) (n : Nat) (g : Sl → Res Out) (ds : List D) : Res D := match g (startE n ds) with
  | .ok (.rt fr' d) => if fr = true ∧ fr' = false then .stuck else .ok d
  | .ok (.nx _) => .ok .non
  | .exc c => .exc c
  | _ => .stuck
section
variable {P : Program} {w : World} {K : PySem.W.Frag} {mg : Str → Option Value} {base : Heap}
end
def raiseO (c : Str) : Sl → Res Out := fun _ => .exc c
end M

set_option Elab.async false
set_option linter.all false
set_option maxRecDepth 100000
set_option maxHeartbeats 4000000
namespace M
open PySem PySem.Spec L2
open PyProof.Rows hiding St
def tSY (X : Cx) (g : Sl → Res Out) : TS := fun E σ H => ∃ G H0 env, EnvOk X.K G H0 env σ H ∧ ((∃ o, g env = .ok o ∧ Post X.K G H0 env σ H E o) ∨ ∃ c, g env = .exc c ∧ ThrB X c σ H)
@[irreducible] def DSY (X : Cx) (st : Stmt) (g : Sl → Res Out) : Prop := PS X st (tSY X g)
@[irreducible] def DSsY (X : Cx) (st : List Stmt) (g : Sl → Res Out) : Prop := PSs X st (tSY X g)
section
variable {X : Cx} {e c tg : Expr} {st : Stmt} {rest body orelse : List Stmt} {pos : Pos} {l : Lv} {f : Sl → Res D} {g g1 g2 : Sl → Res Out}
end
abbrev Cx.tryX (X : Cx) (E : Value → Shared → Prop) (ps : List (Addr × Obj)) : Cx := { X with xe := E, pn := X.pn ++ ps }
abbrev Cx.held (X : Cx) (e : Addr) : Cx := { X with xe := fun _ _ => False, A := X.A.mark (some (.ref e)), calm := false }
section
variable {X : Cx} {pins ps : List (Addr × Obj)} {σ : L2.St} {H : Hp} {s : Shared} {E : Value → Shared → Prop} {e : Addr}
end
end M

set_option Elab.async false
set_option linter.all false
set_option maxRecDepth 100000
set_option maxHeartbeats 4000000
namespace M
open PySem PySem.Spec L2
open PyProof.Rows hiding St
section
variable {K : PySem.W.Frag} {G : Addr → Prop} {H0 H : Hp} {env : Sl} {σ : L2.St} {j : Nat}
end
def outU (j : Nat) : Out → Out
  | .nx env => .nx (env.set j .un)
  | .bk env => .bk (env.set j .un)
  | .ct env => .ct (env.set j .un)
  | .rt fr d => .rt fr d
def tryO (cs : List Str) (g : Sl → Res Out) (j : Nat) (gs : Sl → Res Out) : Sl → Res Out := fun env => match g env with
  | .ok o => .ok o
  | .exc c => if cs.contains c = true then gs (env.set j (.shr (.exn c))) >>= fun o => .ok (outU j o) else .stuck
  | .stuck => .stuck
end M

set_option Elab.async false
set_option linter.all false
set_option maxRecDepth 100000
set_option maxHeartbeats 4000000
namespace M
open PySem PySem.Spec L2
open PyProof.Rows hiding St
section
open PySem.W PySem.Calls
end
section
variable {X : Cx}
def isxD (cs : List Str) : D → Res D
  | .exn c => if cs.contains c = true then .ok (.bl true) else .stuck
  | _ => .stuck
def isxF (cs : List Str) (f : Sl → Res D) : Sl → Res D := fun env => f env >>= isxD cs
end
section
variable {X : Cx}
theorem boot_dictG : bootBuiltins "dict" = some (.type "dict") := by decide +kernel
def dupF (i : Nat) : Sl → Res D := fun env => match env[i]? with
  | some (.own (.dic ks ds)) => .ok (.dic ks ds)
  | _ => .stuck
end
def dicEq : List Key → List D → List Key → List D → Bool
  | k :: ks, d :: ds, ks', ds' => (match valD ks' ds' k with | some e => eqD d e | none => false) && dicEq ks ds ks' ds'
  | _, _, _, _ => true
def DicC (ds ds' : List D) : Prop := D.eqbs ds = true ∧ D.eqbs ds' = true ∧ D.deps ds ≤ 190
instance (a b : List D) : Decidable (DicC a b) := inferInstanceAs (Decidable (_ ∧ _))
end M

set_option Elab.async false
set_option linter.all false
set_option maxRecDepth 100000
set_option maxHeartbeats 4000000
namespace M
open PySem PySem.Spec L2
open PyProof.Rows hiding St
section
variable {X : Cx} {pins : List (Addr × Obj)} {σ : L2.St} {H : Hp} {s : Shared}
theorem hits_of (I : Inv X pins σ H s) {A : Around} {kvs' : List (Key × V)} {vs' : List (Key × Value)} {ds' : List D} (kv' : KV kvs' vs') (r' : Reps X.K Any H (kvs'.map (·.2)) ds') (hb' : D.eqbs ds' = true) :
    ∀ {kvs : List (Key × V)} {vs : List (Key × Value)} {ds : List D}, KV kvs vs → Reps X.K Any H (kvs.map (·.2)) ds → D.eqbs ds = true → A.units + D.deps ds < cLine → PySem.W.KeqHits A s vs' vs (dicEq (kvs.map (·.1)) ds (kvs'.map (·.1)) ds') := by
  intro kvs vs ds kv
  unfold KV at kv
  induction kv generalizing ds with
  | nil => intro r _ _; cases r; exact .nil
  | @cons p q ps qs h t ih =>
    intro r hb hu
    obtain ⟨k, v⟩ := p
    obtain ⟨k2, u⟩ := q
    obtain ⟨rfl, ru⟩ := h
    cases r with
    | @cons _ _ _ d _ ds2 r1 r2 =>
      simp only [D.eqbs, Bool.and_eq_true] at hb
      simp only [D.deps] at hu
      have ihh := ih r2 hb.2 (by omega)
      have hv := kv'.val k
      obtain ⟨g1, g2⟩ := rep_val (K := X.K) (A := Any) (H := H) k r'
      show PySem.W.KeqHits A s vs' ((k, u) :: qs) ((match valD (kvs'.map (·.1)) ds' k with | some e => eqD d e | none => false) && dicEq (ps.map (·.1)) ds2 (kvs'.map (·.1)) ds')
      cases e : valD (kvs'.map (·.1)) ds' k with
      | none =>
        rw [g2 e] at hv
        have hn : valueAt vs' k = none := by
          cases z : valueAt vs' k with
          | none => rfl
          | some y => rw [z] at hv; exact hv.elim
        exact .miss hn
      | some d' =>
        obtain ⟨v', e1, r1'⟩ := g1 d' e
        rw [e1] at hv
        cases z : valueAt vs' k with
        | none => rw [z] at hv; exact hv.elim
        | some y =>
          rw [z] at hv
          have hd' : d' ∈ ds' := by
            unfold valD at e
            cases z2 : ((kvs'.map (·.1)).zip ds').find? fun p => decide (p.1 = k) with
            | none => rw [z2] at e; cases e
            | some pr => rw [z2] at e; cases e; exact (List.of_mem_zip (List.mem_of_find?_eq_some z2)).2
          exact .hit z (eqAt_all I d A v v' u y d' (by omega) r1 ru r1' hv hb.1 (eqbs_mem hb' hd')) ihh
def rDic (K : PySem.W.Frag) (neg : Bool) : R2 := fun x y H Q => ∃ a b kvs kvs' ds ds', x = .ref a ∧ y = .ref b ∧ H a = some (.dK kvs) ∧ H b = some (.dK kvs') ∧ Reps K Any H (kvs.map (·.2)) ds ∧ Reps K Any H (kvs'.map (·.2)) ds' ∧ DicC ds ds' ∧
  Q (.bl (if neg = true then !(kvs.length == kvs'.length && dicEq (kvs.map (·.1)) ds (kvs'.map (·.1)) ds') else (kvs.length == kvs'.length && dicEq (kvs.map (·.1)) ds (kvs'.map (·.1)) ds'))) H
theorem op_dicEq (hu : X.A.units + 200 < cLine) : OpR X (compareOp .Eq) (rDic X.K false) := by
  intro pins s σ H x y v u Q I rx ry ⟨a, b, kvs, kvs', ds, ds', ex, ey, ha, hb, r, r', ⟨c1, c2, c3⟩, q⟩
  subst ex ey
  cases rx
  cases ry
  obtain ⟨_, z1, vs, kv, dd⟩ := dk_of I.hok ha
  obtain ⟨_, z2, vs', kv', dd'⟩ := dk_of I.hok hb
  refine PySem.W.keq_eq (knd := mixKind X.prog X.w) z1 z2 dd dd' (by omega) (fun _ => hits_of I kv' r' c2 kv r c1 ?_) ⟨.bl _, H, I, rfl, ?_⟩
  · have : X.A.in1.units = X.A.units + 1 := rfl
    omega
  · rw [← kv.length, ← kv'.length]; exact q
theorem op_dicNe (hu : X.A.units + 200 < cLine) : OpR X (compareOp .NotEq) (rDic X.K true) := by
  intro pins s σ H x y v u Q I rx ry ⟨a, b, kvs, kvs', ds, ds', ex, ey, ha, hb, r, r', ⟨c1, c2, c3⟩, q⟩
  subst ex ey
  cases rx
  cases ry
  obtain ⟨_, z1, vs, kv, dd⟩ := dk_of I.hok ha
  obtain ⟨_, z2, vs', kv', dd'⟩ := dk_of I.hok hb
  refine PySem.W.keq_ne (knd := mixKind X.prog X.w) z1 z2 dd dd' (by omega) (fun _ => hits_of I kv' r' c2 kv r c1 ?_) ⟨.bl _, H, I, rfl, ?_⟩
  · have : X.A.in1.units = X.A.units + 1 := rfl
    omega
  · rw [← kv.length, ← kv'.length]; exact q
end
def eqDic : D → D → Res D
  | .dic ks ds, .dic ks' ds' => must (DicC ds ds') (.ok (.bl (ks.length == ks'.length && dicEq ks ds ks' ds')))
  | _, _ => .stuck
def neDic : D → D → Res D
  | .dic ks ds, .dic ks' ds' => must (DicC ds ds') (.ok (.bl (!(ks.length == ks'.length && dicEq ks ds ks' ds'))))
  | _, _ => .stuck
theorem od_dicNe {K : PySem.W.Frag} : OpS K (rDic K true) neDic := fun x y H a b d Q ra rb e q => by
  unfold neDic at e
  split at e
  · obtain ⟨h1, e2⟩ := must_inv e
    cases e2
    obtain ⟨p, kvs, rfl, hp, _, rfl, r⟩ := ra.dicE
    obtain ⟨p', kvs', rfl, hp', _, rfl, r'⟩ := rb.dicE
    refine ⟨p, p', kvs, kvs', _, _, rfl, rfl, hp, hp', r.low, r'.low, h1, ?_⟩
    have := q _ (sc_bl _)
    simpa using this
  · cases e
abbrev KF := Int × (Sl → Res D)
def trsOf (K : PySem.W.Frag) (kfs : List KF) : List (TE × TE) := kfs.map fun q => (tC (.int q.1), tE K .s q.2)
@[irreducible] def DPs (X : Cx) (pos : Pos) (keys : List (Option Expr)) (values : List Expr) (kfs : List KF) : Prop := PPs X pos keys values (trsOf X.K kfs)
section
variable {X : Cx}
def valsF (kfs : List KF) : Sl → Res (List D) := fun env => match kfs with
  | [] => .ok []
  | q :: r => q.2 env >>= fun d => valsF r env >>= fun ds => .ok (d :: ds)
def dispF (kfs : List KF) : Sl → Res D := fun env => valsF kfs env >>= fun ds => must (D.imms ds = true ∧ (kfs.map fun q => (Sum.inl q.1 : Key)).Nodup ∧ kfs.length ≤ 15) (.ok (.dic (kfs.map fun q => .inl q.1) ds))
end
end M

set_option Elab.async false
set_option linter.all false
set_option maxRecDepth 100000
set_option maxHeartbeats 4000000
namespace PySem.AutoSeq1
open PySem Builtin
end PySem.AutoSeq1
namespace M
open PySem PySem.Spec L2
open PyProof.Rows hiding St
section
variable {X : Cx}
def rRepT1 : R2 := fun x y H Q => ∃ l k xs, x = .ref l ∧ y = .int k ∧ H l = some (.tup xs) ∧ k = 1 ∧ Q (.ref l) H
def repTA : D → D → Res D
  | .tup ds, .int k => if k = 1 then .ok (.tup ds) else must (2 ≤ k ∧ k < 1000000 ∧ ds.isEmpty = false ∧ ds.length * k.toNat ≤ sizeLine) (.ok (.tup (List.replicate k.toNat ds).flatten))
  | _, _ => .stuck
def dictK : List D → Res D
  | [.dic ks ds] => .ok (.dic ks ds)
  | _ => .stuck
end
section
variable {X : Cx} {k : Nat} {x : Str} {ps : List Str} {fr : Bool} {F : List D → Res D} {e : Expr} {es : List Expr} {p pos : Pos} {g : Sl → Res (List D)}
end
end M

set_option Elab.async false
set_option linter.all false
set_option maxRecDepth 100000
set_option maxHeartbeats 4000000
namespace M
open PySem PySem.Spec L2
open PyProof.Rows hiding St
def turnX (t : D → Sl → Res Sl) (g : Sl → Res Out) : D → Sl → Res Out := fun d env => match t d env with
  | .ok env' => g env'
  | _ => .stuck
def forX (f : Sl → Res (List D)) (t : D → Sl → Res Sl) (g : Sl → Res Out) : Sl → Res Out := fun env => match f env with
  | .ok ds => forD (turnX t g) ds env
  | _ => .stuck
end M

set_option Elab.async false
set_option linter.all false
set_option maxRecDepth 100000
set_option maxHeartbeats 4000000
namespace M
open PySem PySem.Spec PySem.W PySem.Calls
open PyProof.Rows hiding St
open Builtin Builtin.ObjectAttr Builtin.Getset_descriptor
section
variable {prog : Program} {w : World} {A : Around} {E : Value → Shared → Prop} {h : Heap} {g : Array GenState} {d : Drawn} {t : Nat} {os : OsState} {a C : Addr} {o : Obj} {K : Frag}
structure ExcC (K : Frag) (C : Addr) : Prop where
  cls : (clsIn K C).isSome = true
  obj : mroIn K C (.type "object") = some true
  base : subIn K (.ref C) (.type "BaseException") = some true
  own : findIn K (.ref C) "__class__" = some (some (.builtin "object.__class__"))
  get : specialIn K (.builtin "object.__class__") "__get__" = some (some (.builtin "getset_descriptor.__get__"))
  tak : takesIn K (.builtin "object.__class__") = some true
  ga : findIn K (.ref C) "__getattribute__" = some (some (.builtin "BaseException.__getattribute__"))
  hk : findIn K (.ref C) "__getattr__" = some none
end
section
open L2
variable {X : Cx}
def isyD (tab : List (Str × Bool)) : D → Res D
  | .exn c => match tab.lookup c with
    | some b => .ok (.bl b)
    | none => .stuck
  | _ => .stuck
def isyF (tab : List (Str × Bool)) (f : Sl → Res D) : Sl → Res D := fun env => f env >>= isyD tab
end
end M

set_option Elab.async false
set_option linter.all false
set_option maxRecDepth 100000
set_option maxHeartbeats 4000000
namespace M
open PySem PySem.Spec L2
open PyProof.Rows hiding St
end M

set_option Elab.async false
set_option linter.all false
set_option maxRecDepth 100000
set_option maxHeartbeats 4000000
namespace M
open PySem PySem.Spec L2
open PyProof.Rows hiding St
section
variable {X : Cx}
def tCs (vs : List V) : TA := fun _ H Q => Q vs H
end
end M

set_option Elab.async false
set_option linter.all false
set_option maxRecDepth 100000
set_option maxHeartbeats 4000000
namespace M
open PySem PySem.Spec L2
open PyProof.Rows hiding St
def setIx (i : Nat) (fk fv : Sl → Res D) : Sl → Res Out := fun env => ownL i env >>= fun ds => fv env >>= fun d => fk env >>= fun kd => match kd with
  | .int n => match ixN ds.length n with
    | some j => .ok (.nx (env.set i (.own (.lst (ds.set j d)))))
    | none => .stuck
  | _ => .stuck
end M

set_option Elab.async false
set_option linter.all false
set_option maxRecDepth 100000
set_option maxHeartbeats 4000000
namespace M
open PySem PySem.W PyProof.Rows
open PySem.SeqAt (EqAt RcAt RcNeAt)
def ltJ : List Int → List Int → Bool
  | _, [] => false
  | [], _ :: _ => true
  | a :: x, b :: y => if a = b then ltJ x y else decide (a < b)
def ltAtJ (x y : List Int) (j : Nat) : Bool := match x[j]?, y[j]? with
  | some a, some b => decide (a < b)
  | _, _ => false
def eqIJ (x y : List Int) (j : Nat) : Bool := match x[j]?, y[j]? with
  | some a, some b => decide (a = b)
  | _, _ => false
def LtAt (A : Around) (s : Shared) (y x : Value) (b : Bool) : Prop :=
  ∀ (prog : Program) (w : World) (E : Value → Shared → Prop) (Q : Value → Shared → Prop), Q (.bool b) s → wpAny (model prog w) A (richCompare .Lt y x) Q E s
open AutoSeq1 (wpAny_loadPart') in
def IsTI (h : Heap) (v : Value) (a : List Int) : Prop := ∃ b o its n, v = .ref b ∧ h.get? b = some o ∧ o.cls = .type "tuple" ∧ o.data = .seq its n ∧ F2 (fun u i => ∃ t, u = Value.int i t) its.toList a
inductive AreTI (h : Heap) : List Value → List (List Int) → Prop where
  | nil : AreTI h [] []
  | cons {v : Value} {a : List Int} {vs : List Value} {hs : List (List Int)} : IsTI h v a → AreTI h vs hs → AreTI h (v :: vs) (a :: hs)
section
variable {prog : Program} {w : World} {A : Around} {E : Value → Shared → Prop} {s : Shared}
def Rise (hs : List (List Int)) : Prop := hs.Pairwise fun x y => ltJ x y = true
instance (hs : List (List Int)) : Decidable (Rise hs) := inferInstanceAs (Decidable (hs.Pairwise _))
end
end M
namespace M
open PySem PySem.Spec L2
open PyProof.Rows hiding St
section
variable {X : Cx} {K : PySem.W.Frag}
def TiV (H : Hp) (x : V) (a : List Int) : Prop := ∃ b, x = .ref b ∧ H b = some (.tup (a.map V.int))
def intsT : List D → Option (List Int)
  | [] => some []
  | .int i :: r => (intsT r).map (i :: ·)
  | _ => none
def rowsD : List D → Option (List (List Int))
  | [] => some []
  | .tup ds :: r => (intsT ds).bind fun a => (rowsD r).map (a :: ·)
  | _ => none
def sortedUp : List D → Res D
  | [.lst ds] => match rowsD ds with
    | some ([] :: hs) => must (Rise ([] :: hs) ∧ ds.length < 64) (.ok (.lst ds))
    | _ => .stuck
  | _ => .stuck
end
end M

set_option Elab.async false
set_option linter.all false
set_option maxRecDepth 100000
set_option maxHeartbeats 4000000
namespace M
open PySem PySem.Spec L2
open PyProof.Rows hiding St
section
variable {prog : Program} {w : World} {A : Around} {E : Value → Shared → Prop} {s : Shared} {it t : Addr} {i : Nat} {items : Array Value} {Q : Value → Shared → Prop}
theorem next_tup {x : Value} (hit : s.heap.IsTupleIter it t i) (ht : s.heap.IsTuple t items) (hx : items[i]? = some x) (hQ : ∀ h', h'.IsTupleIter it t (i + 1) → Heap.SameBut it s.heap h' → Q x { s with heap := h' }) :
    wpAny (model prog w) A (Builtin.SmallTypes.nextOf (.ref it)) Q E s := by
  obtain ⟨o, ho, hc, hd⟩ := id hit
  obtain ⟨o2, ho2, _, n2, hd2⟩ := ht
  unfold Builtin.SmallTypes.nextOf
  refine wpAny_bind (wpAny_callSpecial?_slot (name := Str.ofString "__next__") hit.typeIs F.slot_tuple_iterator_next (wpAny_call_entry F.slot_tuple_iterator_next hit.typeIs F.entry_tuple_iterator_next
    (show wpAny _ _ (field (.ref it) 0 >>= _) _ _ s from wpAny_bind (wpAny_field ho hd (x := .ref t) rfl (show wpAny _ _ (if (Value.ref t == Value.none) = true then _ else _) _ _ s from ?_))) (F.args_tuple_iterator_next_1 _)))
  rw [if_neg (show ¬ ((Value.ref t == Value.none) = true) from Bool.false_ne_true)]
  refine (show wpAny _ _ (field (.ref it) 1 >>= _) _ _ s from wpAny_bind (wpAny_field ho hd (x := .int i 0) rfl (show wpAny _ _ (seqItems? (.ref t) >>= _) _ _ s from wpAny_bind (wpAny_seqItems ho2 hd2 ?_))))
  simp only [Int.toNat_natCast, hx]
  exact wpAny_bind (wpAny_setField ho hd (by simp) (wpAny_pure ⟨x, rfl, wpAny_pure (hQ _ ⟨_, Heap.get?_update_self _ ho (Obj.isFreed_of_fields (Obj.data_mapFields hd _)), (Obj.cls_mapFields ..).trans hc, by rw [Obj.data_mapFields hd]; simp [rawInt]⟩ (Heap.SameBut.update ..))⟩))
theorem end_tup (hh : A.handled = none) (hit : s.heap.IsTupleIter it t i) (ht : s.heap.IsTuple t items) (hx : items[i]? = none)
    (hE : ∀ h' e, Heap.ExtBut it s.heap h' → (∃ o, h'.get? e = some o ∧ o.cls = .type "StopIteration") → E (.ref e) { s with heap := h' }) :
    wpAny (model prog w) A (Builtin.SmallTypes.nextOf (.ref it)) Q E s := by
  obtain ⟨o, ho, hc, hd⟩ := id hit
  obtain ⟨o2, ho2, _, n2, hd2⟩ := ht
  unfold Builtin.SmallTypes.nextOf
  refine wpAny_bind (wpAny_callSpecial?_slot (name := Str.ofString "__next__") hit.typeIs F.slot_tuple_iterator_next (wpAny_call_entry F.slot_tuple_iterator_next hit.typeIs F.entry_tuple_iterator_next
    (show wpAny _ _ (field (.ref it) 0 >>= _) _ _ s from wpAny_bind (wpAny_field ho hd (x := .ref t) rfl (show wpAny _ _ (if (Value.ref t == Value.none) = true then _ else _) _ _ s from ?_))) (F.args_tuple_iterator_next_1 _)))
  rw [if_neg (show ¬ ((Value.ref t == Value.none) = true) from Bool.false_ne_true)]
  refine (show wpAny _ _ (field (.ref it) 1 >>= _) _ _ s from wpAny_bind (wpAny_field ho hd (x := .int i 0) rfl (show wpAny _ _ (seqItems? (.ref t) >>= _) _ _ s from wpAny_bind (wpAny_seqItems ho2 hd2 ?_))))
  simp only [Int.toNat_natCast, hx]
  refine wpAny_bind (wpAny_rule (wpAny_bind (wpAny_setField ho hd (by simp) (show wpAny _ _ (newExc (.type "StopIteration") [] >>= _) _ _ _ from wpAny_bind ?_))))
  simp only [newExc, newTuple]
  refine wpAny_bind (wpAny_newObj_type (wpAny_bind (m := firstArgMember _ _) (wpAny_of_eq (a := Value.none) (by first | rfl | (simp only [firstArgMember]; rfl)) (wpAny_newObj_type ?_ (by size_fits)))) (by size_fits))
  simp only [raiseNew]
  refine wpAny_bind (wpAny_handled ?_)
  rw [show A.in1.handled = none from hh]
  exact wpAny_bind (wpAny_pure (wpAny_throw (hE _ _ (((Heap.SameBut.update ..).extBut.push _).push _) ⟨_, Heap.get?_push_size _ rfl, rfl⟩)))
end
open AutoSeq1 (wpAny_loadPart') in
section
variable {prog : Program} {w : World} {A : Around} {E : Value → Shared → Prop} {s : Shared}
end
def ItET (K : PySem.W.Frag) (a : Addr) (xs : List V) : It := ⟨fun i H => SqT K H a xs ∧ i < xs.length, fun i H v H' => ∃ p x, H p = none ∧ xs[i]? = some x ∧ v = .ref p ∧ H' = upd H p (.tup [.int (i : Int), x]), fun i H => SqT K H a xs ∧ xs.length ≤ i⟩
section
variable {X : Cx} {elts : List Expr} {n : Nat} {tpos p pos : Pos} {e : Expr} {f : Sl → Res D}
def enumT (f : Sl → Res D) : Sl → Res (List D) := fun env => f env >>= fun d => match d with
  | .tup ds => .ok (pairsFrom 0 ds)
  | _ => .stuck
end
end M

set_option Elab.async false
set_option linter.all false
set_option maxRecDepth 100000
set_option maxHeartbeats 4000000
namespace M
open PySem PySem.Spec L2
open PyProof.Rows hiding St
section
variable {X : Cx} {K : PySem.W.Frag}
def notN : D → D → Res D
  | a, .non => .ok (.bl (!a.isNon))
  | _, _ => .stuck
theorem od_notN : OpS K (fun x y H Q => y = .non ∧ Q (.bl (!decide (x = .non))) H) notN := by
  intro x y H a b d Q ra rb e q
  unfold notN at e
  split at e
  · cases e
    refine ⟨rb.nonE, ?_⟩
    have : decide (x = V.non) = a.isNon := by cases ra <;> simp [D.isNon]
    rw [this]
    exact q _ (sc_bl _)
  · cases e
def isB : D → D → Res D
  | .bl a, .bl b => .ok (.bl (a == b))
  | _, _ => .stuck
def eqA : D → D → Res D
  | .dic a b, .dic c d => eqDic (.dic a b) (.dic c d)
  | a, b => eqR a b
def rEqA (K : PySem.W.Frag) : R2 := fun x y H Q => rDic K false x y H Q ∨ rEqD K false x y H Q
end
section
variable {X : Cx} {k : Nat} {x : Str} {q0 : Str} {F : List D → Res D} {e : Expr} {p pos : Pos} {f : Sl → Res D}
def callY (F : List D → Res D) (f : Sl → Res D) : Sl → Res D := fun env => f env >>= fun d => F [d]
end
def rCat0 (K : PySem.W.Frag) : R2 := fun x y H Q => ∃ a b ys, x = .ref a ∧ y = .ref b ∧ SqT K H a [] ∧ SqT K H b ys ∧ Q (.ref b) H
theorem op_cat0 {X : Cx} : OpR X (binaryOp .Add) (rCat0 X.K) := by
  intro pins s σ H x y v u Q I rx ry h
  obtain ⟨a, b, ys, rfl, rfl, ha, hb, q⟩ := h
  cases rx
  cases ry
  obtain ⟨its, r1, p1, _⟩ := I.tuple ha
  obtain ⟨its2, r2, p2, _⟩ := I.tuple hb
  cases r1
  obtain ⟨⟨c, dd, data, sl⟩, ho, hc, n, hd⟩ := p1
  obtain ⟨⟨c2, dd2, data2, sl2⟩, ho2, hc2, n2, hd2⟩ := p2
  simp only at hc hd hc2 hd2
  subst hc hd hc2 hd2
  exact concat_meets ⟨_, ho, rfl⟩ ⟨_, ho2, rfl⟩ noFill_tuple_add seq_tuple_add PySem.F.slot_tuple_add PySem.F.entry_tuple_add (PySem.F.args_tuple_add_2 _ _) (tuple_addW0 a b #[] its2.toArray n n2 dd dd2 sl sl2 rfl) ⟨ho, ho2, ⟨.ref b, H, I, rfl, q⟩⟩
def addE : D → D → Res D
  | .tup [], .tup b => .ok (.tup b)
  | a, b => addD a b
theorem op_addE {X : Cx} : OpR X (binaryOp .Add) (fun x y H Q => rCat0 X.K x y H Q ∨ (rI0 (fun i j => .int (i + j)) x y H Q ∨ (∃ i j, x = .str i ∧ y = .str j ∧ i.length + j.length ≤ sizeLine ∧ Q (.str (i ++ j)) H) ∨ rCat x y H Q ∨ rCatT X.K x y H Q)) := op_cat0.or op_addD
theorem od_addE {K : PySem.W.Frag} : OpD K (fun x y H Q => rCat0 K x y H Q ∨ (rI0 (fun i j => .int (i + j)) x y H Q ∨ (∃ i j, x = .str i ∧ y = .str j ∧ i.length + j.length ≤ sizeLine ∧ Q (.str (i ++ j)) H) ∨ rCat x y H Q ∨ rCatT K x y H Q)) addE := by
  intro A x y H a b d Q ra rb e q
  unfold addE at e
  split at e
  · cases e
    obtain ⟨l, xs, rfl, hl, rx⟩ := ra.tupE
    obtain ⟨l', ys, rfl, hl', ry⟩ := rb.tupE
    cases rx
    refine .inl ⟨l, l', ys, rfl, rfl, .inl (.of hl), .inl (.of hl'), q _ H (Same.refl H) (.tup hl' (ry.weak orA)) fun a e o q' m => ?_⟩
    cases e; rw [hl'] at q'; cases q'; exact m
  · exact .inr (od_add A x y H _ _ d Q ra rb e q)
end M

set_option Elab.async false
set_option linter.all false
set_option maxRecDepth 100000
set_option maxHeartbeats 4000000
namespace M
open PySem PySem.Spec L2
open PyProof.Rows hiding St
inductive OutI where
  | nx (env : Sl) | rt (b : Bool) (env : Sl)
abbrev At (σ : L2.St) (i : Nat) (a : Addr) : Prop := σ[i]? = some (some (V.ref a))
def PostI (K : PySem.W.Frag) (G : Addr → Prop) (H0 : Hp) (i : Nat) (a : Addr) (env : Sl) (σ : L2.St) (H : Hp) (E : Ends) : OutI → Prop
  | .nx env' => ∀ σ' H', EnvOk K G H0 env' σ' H' → At σ' i a → Frm env σ H env' σ' H' → E.nx σ' H'
  | .rt b env' => ∀ σ' H', EnvOk K G H0 env' σ' H' → At σ' i a → Frm env σ H env' σ' H' → E.rt (.bl b) H'
def tSI (K : PySem.W.Frag) (i : Nat) (g : Sl → Res OutI) : TS := fun E σ H => ∃ G H0 env o a, EnvOk K G H0 env σ H ∧ At σ i a ∧ g env = .ok o ∧ PostI K G H0 i a env σ H E o
@[irreducible] def DSI (X : Cx) (i : Nat) (st : Stmt) (g : Sl → Res OutI) : Prop := PS X st (tSI X.K i g)
@[irreducible] def DSsI (X : Cx) (i : Nat) (st : List Stmt) (g : Sl → Res OutI) : Prop := PSs X st (tSI X.K i g)
section
variable {K : PySem.W.Frag} {G : Addr → Prop} {H0 H H' : Hp} {env env' : Sl} {σ σ' : L2.St} {i : Nat} {a : Addr} {E : Ends}
theorem outI_tr {o : OutI} (f : Frm env σ H env' σ' H') (q : PostI K G H0 i a env σ H E o) : PostI K G H0 i a env' σ' H' E o := by
  cases o with
  | nx e => exact fun σ2 H2 k2 a2 f2 => q σ2 H2 k2 a2 (f.trans f2)
  | rt b e => exact fun σ2 H2 k2 a2 f2 => q σ2 H2 k2 a2 (f.trans f2)
theorem EnvOk.anew {d d' : D} (k : EnvOk K G H0 env σ H) (hi : env[i]? = some (.own d)) (ha : At σ i a) (hs : ∀ c o, c ≠ a → H c = some o → H' c = some o) (t : Top K (Sf G env σ) H' a d') :
    EnvOk K G H0 (env.set i (.own d')) σ H' ∧ Frm env σ H (env.set i (.own d')) σ H' := by
  have hl : i < env.length := (List.getElem?_eq_some_iff.mp hi).1
  have ow : Owned env σ a := ⟨i, _, hi, ha⟩
  have same : ∀ c, Owned (env.set i (.own d')) σ c → Owned env σ c := fun c ⟨j, e, h1, h2⟩ => by
    by_cases z : i = j
    · subst z
      exact ⟨i, d, hi, h2⟩
    · exact ⟨j, e, by rw [get_set_ne z] at h1; exact h1, h2⟩
  obtain ⟨a', ha', h0a, ta⟩ := k.own i _ hi
  rw [ha] at ha'; cases ha'
  obtain ⟨o0, ho0, mo0⟩ := ta.there
  have st : Stay (Sf G env σ) H H' := fun c o e m => hs c o (by
    rintro rfl
    rw [ho0] at e; cases e
    exact (m mo0).1 ow) e
  have w : ∀ c, Sf G env σ c → Sf G (env.set i (.own d')) σ c := fun c n => ⟨fun o => n.1 (same c o), n.2⟩
  refine ⟨⟨by simp [k.len], fun c o e => ?_, k.g0, fun j e h => ?_, fun j e h => ?_, fun j j' d1 d2 b q1 q2 q3 q4 => ?_⟩, ⟨fun c o e n => ?_, fun c o => .inl (same c o), fun c e => ?_⟩⟩
  · exact hs c o (by rintro rfl; rw [h0a] at e; cases e) (k.base c o e)
  · by_cases z : i = j
    · subst z
      obtain ⟨q, _⟩ := get_set_eq h
      cases q
    · rw [get_set_ne z] at h
      obtain ⟨v, h1, h2⟩ := k.shr j e h
      exact ⟨v, h1, h2.stay st w⟩
  · by_cases z : i = j
    · subst z
      obtain ⟨q, _⟩ := get_set_eq h
      cases q
      exact ⟨a, ha, h0a, t.stay (fun _ _ e _ => e) w fun _ e => e⟩
    · rw [get_set_ne z] at h
      obtain ⟨b, h1, h0, h2⟩ := k.own j e h
      have hb : b ≠ a := by
        rintro rfl
        exact z (k.dis i j _ _ b hi h ha h1)
      exact ⟨b, h1, h0, h2.stay st w fun o e => hs b o hb e⟩
  · have real : ∀ (j : Nat) (d1 : D), (env.set i (.own d'))[j]? = some (.own d1) → ∃ d0 : D, env[j]? = some (.own d0) := fun j d1 q => by
      by_cases z : i = j
      · subst z; exact ⟨_, hi⟩
      · exact ⟨d1, by rw [get_set_ne z] at q; exact q⟩
    obtain ⟨e1, z1⟩ := real j d1 q1
    obtain ⟨e2, z2⟩ := real j' d2 q2
    exact k.dis j j' e1 e2 b z1 z2 q3 q4
  · exact hs c o (by rintro rfl; exact n ow) e
  · cases z : H c with
    | none => rfl
    | some o =>
      by_cases hc : c = a
      · subst hc
        obtain ⟨o1, h1, _⟩ := t.there
        rw [h1] at e; cases e
      · rw [hs c o hc z] at e; cases e
end
section
variable {X : Cx} {i : Nat} {e c tg : Expr} {st : Stmt} {rest body orelse : List Stmt} {pos : Pos} {l : Lv} {f : Sl → Res D} {g g1 g2 : Sl → Res OutI}
def seqI (g1 g2 : Sl → Res OutI) : Sl → Res OutI := fun env => g1 env >>= fun o => match o with
  | .nx env' => g2 env'
  | .rt b e => .ok (.rt b e)
theorem dssi_cons (h1 : DSI X i st g1) (h2 : DSsI X i rest g2) : DSsI X i (st :: rest) (seqI g1 g2) := by
 with_unfolding_all exact (PSs.imp (pss_cons h1 h2) fun E σ H ⟨G, H0, env, o, a, k, ha, ef, q⟩ => by
    obtain ⟨o1, e1, e2⟩ := bind_inv ef
    refine ⟨G, H0, env, o1, a, k, ha, e1, ?_⟩
    cases o1 with
    | nx env1 => exact fun σ' H' k' a' f' => ⟨G, H0, env1, o, a, k', a', e2, outI_tr f' q⟩
    | rt b env1 => cases e2; exact q)
theorem dssi_one (h1 : DSI X i st g1) : DSsI X i [st] g1 := by
 with_unfolding_all exact (PSs.imp (pss_one h1) fun E σ H q => q)
def nxI : Sl → Res OutI := fun env => .ok (.nx env)
theorem dssi_nil : DSsI X i [] nxI := by
 with_unfolding_all exact (PSs.imp pss_nil fun E σ H ⟨G, H0, env, o, a, k, ha, ef, q⟩ => by
    cases ef
    exact q σ H k ha (Frm.refl (Same.refl H)))
def ifI (t : Sl → Res Bool) (g1 g2 : Sl → Res OutI) : Sl → Res OutI := fun env => t env >>= fun b => if b = true then g1 env else g2 env
theorem dsi_if {t : Sl → Res Bool} (hc : DT X c t) (h1 : DSsI X i body g1) (h2 : DSsI X i orelse g2) : DSI X i (.If c body orelse pos) (ifI t g1 g2) := by
 with_unfolding_all exact (PS.imp (ps_if hc h1 h2) fun E σ H ⟨G, H0, env, o, a, k, ha, ef, q⟩ => by
    obtain ⟨b, e1, e2⟩ := bind_inv ef
    refine ⟨G, H0, env, b, k, e1, fun H' s => ?_⟩
    cases b with
    | true =>
      rw [if_pos rfl] at e2 ⊢
      exact ⟨G, H0, env, o, a, k.grow s, ha, e2, outI_tr (Frm.refl s) q⟩
    | false =>
      rw [if_neg Bool.false_ne_true] at e2 ⊢
      exact ⟨G, H0, env, o, a, k.grow s, ha, e2, outI_tr (Frm.refl s) q⟩)
def retI (f : Sl → Res D) : Sl → Res OutI := fun env => f env >>= fun d => match d with
  | .bl b => .ok (.rt b env)
  | _ => .stuck
theorem dsi_ret (h : DE X l e f) : DSI X i (.Return (some e) pos) (retI f) := by
 with_unfolding_all exact (PS.imp (ps_ret h) fun E σ H ⟨G, H0, env, o, a, k, ha, ef, q⟩ => by
    obtain ⟨d, e1, e2⟩ := bind_inv ef
    cases d with
    | bl b =>
      cases e2
      refine ⟨G, H0, env, .bl b, k, e1, fun v H' s r _ => ?_⟩
      cases (r.weak (A' := Any) Lv.weak_b).blE
      exact q σ H' (k.grow s) ha (Frm.refl s)
    | _ => cases e2)
def tGI (K : PySem.W.Frag) (i : Nat) (t : D → Sl → Res Sl) : TG := fun v σ H Q => ∃ G H0 env d env', EnvOk K G H0 env σ H ∧ Rep K (Sf G env σ) H v d ∧ t d env = .ok env' ∧ ∀ σ', EnvOk K G H0 env' σ' H → Frm env σ H env' σ' H → σ'[i]? = σ[i]? → Q σ' H
@[irreducible] def DGI (X : Cx) (i : Nat) (tg : Expr) (t : D → Sl → Res Sl) : Prop := PG X tg (tGI X.K i t)
theorem dgi_name (j : Nat) {x : Str} (hij : j ≠ i) (hN : X.N.Nodup) (hi : X.N[j]? = some x := by rfl) (hx : Loc X.env.scope x := by first | exact Or.inl rfl | exact Or.inr rfl)
    (hf : X.fn x = true ∨ X.env.scope.names.lookup x = some .local := by first | exact .inl rfl | exact .inr rfl | assumption) : DGI X i (.Name x pos) (gN j) := by
 with_unfolding_all exact (
  PG.imp (pg_name hN hi hx hf) fun v σ H Q ⟨G, H0, env, d, env', k, r, e, q⟩ => by
    cases e
    exact q _ (k.setS r) (.set (Same.refl H) fun _ _ z _ => by cases z) (get_set_ne hij))
theorem dgi_two {a b : Expr} {k : Nat} {t u : D → Sl → Res Sl} (hc : X.calm = true) (h1 : DGI X i a t) (h2 : DGI X i b u)
    (hs : (assignEach [a, b] X.env).map (·.2) = assign a X.env :: (assignEach [b] X.env).map (·.2) := by rfl) (hs2 : (assignEach [b] X.env).map (·.2) = assign b X.env :: (assignEach [] X.env).map (·.2) := by rfl)
    (hn : (assignEach [a, b] X.env).length = 2 := by rfl) (hst : (assignEach [a, b] X.env).findIdx? (·.1) = none := by rfl) : DGI X i (.Tuple [a, b] k pos) (M.g2 t u) := by
 with_unfolding_all exact (
  PG.imp (pg_tup (n := 2) hc (pgs_cons h1 (pgs_cons h2 pgs_nil hs2) hs) hn hst) fun v σ H Q ⟨G, H0, env, d, env', k, r, e, q⟩ => by
    unfold M.g2 at e
    split at e
    · obtain ⟨env1, e1, e2⟩ := bind_inv e
      obtain ⟨a, xs, rfl, ha, rs⟩ := r.tupE
      obtain ⟨v1, v2, rfl, r1, r2⟩ := rs.two
      refine ⟨a, _, rfl, .of ha, rfl, v1, [v2], rfl, G, H0, env, _, env1, k, r1, e1, fun σ1 k1 f1 z1 => ⟨v2, [], rfl, G, H0, env1, _, env', k1, f1.rep k r2, e2, fun σ2 k2 f2 z2 => ⟨rfl, q σ2 k2 (f1.trans f2) (z2.trans z1)⟩⟩⟩
    · cases e)
def forDI (t : D → Sl → Res Sl) (g : Sl → Res OutI) : List D → Sl → Res OutI
  | [], env => .ok (.nx env)
  | d :: ds, env => t d env >>= fun env1 => g env1 >>= fun o => match o with
    | .nx env' => forDI t g ds env'
    | .rt b e => .ok (.rt b e)
def forI (f : Sl → Res (List D)) (t : D → Sl → Res Sl) (g : Sl → Res OutI) : Sl → Res OutI := fun env => f env >>= fun ds => forDI t g ds env
theorem dsi_for {fi : Sl → Res (List D)} {t : D → Sl → Res Sl} (hp : PassesOwn (model X.prog X.w) X.A X.env X.xe) (hc : X.calm = true) (hi : DI X tg e fi) (hg : DGI X i tg t) (hb : DSsI X i body g)
    (hs : ∀ x, foldedSetIterable e X.env x = pure x := by intro _; rfl) : DSI X i (.For tg e body [] pos) (forI fi t g) := by
 with_unfolding_all exact (
  PS.imp (ps_for hp hc hi hg hb hs) fun E σ H ⟨G, H0, env, o, a, k, ha, ef, q⟩ => by
    obtain ⟨ds, e1, e2⟩ := bind_inv ef
    refine ⟨G, H0, env, ds, k, e1, fun J H1 P sm wk p0 pst => ?_⟩
    have k1 := k.grow sm
    have q1 : PostI X.K G H0 i a env σ H1 E o := outI_tr (Frm.refl sm) q
    refine ⟨fun j m σ' H' => m = ds.length - j ∧ j ≤ ds.length ∧ ∃ env', EnvOk X.K G H0 env' σ' H' ∧ At σ' i a ∧ Frm env σ H1 env' σ' H' ∧ forDI t g (ds.drop j) env' = .ok o, ⟨ds.length, by simp, Nat.zero_le _, env, k1, ha, Frm.refl (Same.refl H1), by simpa using e2⟩, ?_⟩
    rintro j m σ' H' ⟨rfl, hj, env', k', a', f', e'⟩
    obtain ⟨w1, w2, w3⟩ := wk j H' (pst env' σ' H' f')
    by_cases hd : j < ds.length
    · refine .inr ⟨w1 hd, ?_⟩
      rw [List.drop_eq_getElem_cons hd] at e'
      obtain ⟨env1, e5, e'⟩ := bind_inv e'
      obtain ⟨o1, e6, e4⟩ := bind_inv e'
      refine ⟨fun σ2 H2 => ds.length - (j + 1) = ds.length - (j + 1) ∧ j + 1 ≤ ds.length ∧ ∃ env2, EnvOk X.K G H0 env2 σ2 H2 ∧ At σ2 i a ∧ Frm env σ H1 env2 σ2 H2 ∧ forDI t g (ds.drop (j + 1)) env2 = .ok o, fun σ2 H2 z => ⟨ds.length - (j + 1), by omega, z⟩, fun x H2 y => ?_⟩
      obtain ⟨sm2, rd⟩ : Same H' H2 ∧ Rep X.K (Sf G env' σ') H2 x ds[j] := by
        rcases w2 _ (List.getElem?_eq_getElem hd) x H2 y with ⟨rfl, rd⟩ | ⟨p, vs, es, hp, rfl, rfl, ed, rds⟩
        · exact ⟨Same.refl _, f'.rep k1 rd⟩
        · refine ⟨Same.upd hp, ?_⟩
          rw [ed]
          exact .tup upd_same ((f'.reps k1 rds).grow (Same.upd hp))
      refine ⟨G, H0, env', ds[j], env1, k'.grow sm2, rd, e5, fun σ1 kk1 ff1 z1 => ⟨G, H0, env1, o1, a, kk1, z1.trans a', e6, ?_⟩⟩
      have fr1 := (f'.trans (Frm.refl sm2)).trans ff1
      cases o1 with
      | nx env2 => exact fun σ2 H3 kk2 aa2 ff2 => ⟨rfl, hd, env2, kk2, aa2, fr1.trans ff2, e4⟩
      | rt b env2 => cases e4; exact fun σ2 H3 kk2 aa2 ff2 => q1 σ2 H3 kk2 aa2 (fr1.trans ff2)
    · refine .inl ⟨w3 (by omega), ?_⟩
      rw [List.drop_eq_nil_of_le (by omega)] at e'
      cases e'
      exact q1 σ' H' k' a' f')
end
end M

set_option Elab.async false
set_option linter.all false
set_option maxRecDepth 100000
set_option maxHeartbeats 4000000
namespace M
open PySem PySem.Spec L2
open PyProof.Rows hiding St
def retSD (i : Nat) (fk fv fw : Sl → Res D) : Sl → Res OutI := fun env => ownK i env >>= fun q => fk env >>= fun kd => fv env >>= fun d => match keyD kd with
  | some k => must (q.1.length < sizeLine) (match valD q.1 q.2 k with
    | some d0 => fw env >>= fun w => eqR d0 w >>= fun r => match r with
      | .bl b => .ok (.rt b env)
      | _ => .stuck
    | none => fw (env.set i (.own (.dic (putKs q.1 k) (putDs q.1 q.2 k d)))) >>= fun w => eqR d w >>= fun r => match r with
      | .bl b => .ok (.rt b (env.set i (.own (.dic (putKs q.1 k) (putDs q.1 q.2 k d)))))
      | _ => .stuck)
  | none => .stuck
section
variable {X : Cx} {i : Nat} {x : Str} {e1 e2 e3 : Expr} {p apos cpos pos qpos : Pos} {l1 l3 : Lv} {fk fv fw : Sl → Res D}
theorem has_valV {kvs : List (Key × V)} {ds : List D} {K : PySem.W.Frag} {A : Addr → Prop} {H : Hp} (k : Key) (r : Reps K A H (kvs.map (·.2)) ds) : (∀ v, valV kvs k = some v → ∃ d, valD (kvs.map (·.1)) ds k = some d ∧ Rep K A H v d) ∧ (valV kvs k = none → valD (kvs.map (·.1)) ds k = none) := by
  obtain ⟨h1, h2⟩ := rep_val k r
  cases e : valD (kvs.map (·.1)) ds k with
  | none =>
    have := h2 e
    exact ⟨fun v hv => (by rw [this] at hv; cases hv), fun _ => rfl⟩
  | some d =>
    obtain ⟨v, hv, rv⟩ := h1 d e
    exact ⟨fun v' hv' => (by rw [hv] at hv'; cases hv'; exact ⟨d, rfl, rv⟩), fun hn => (by rw [hv] at hn; cases hn)⟩
theorem dsi_retSD (hu : X.A.units + 200 < cLine) (i : Nat) (hk : DE X l1 e1 fk) (hv : DE X .s e2 fv) (hw : DE X l3 e3 fw) (hN : X.N[i]? = some x := by rfl) (hvs : Vis X.env.scope x := by first | exact Or.inl rfl | exact Or.inr (Or.inl rfl) | exact Or.inr (Or.inr rfl))
    (hd : (x == ("__debug__" : Str)) = false := by decide) (hcd : (x == ("__classdict__" : Str)) = false := by decide)
    (hbase : attributeBase (.Name x p) "setdefault" X.env (eval (.Name x p) X.env) = eval (.Name x p) X.env := by rfl)
    (hfew : ((backTo cpos (starEach [e1, e2] X.env)).all (fun x => !x.1) && (backToKw cpos (keywordEach [] X.env)).all (fun x => x.1.isSome)
      && decide ([e1, e2].length + ([] : List Keyword).length + (if ([] : List Keyword).isEmpty then 0 else 1) < 30)) = true := by exact few_plain rfl rfl)
    (hline : (apos.endLine == cpos.line) = true := by rfl) (hs : starEach [e1, e2] X.env = (false, eval e1 X.env) :: starEach [e2] X.env := by exact star_plain rfl) (hplain : (backTo cpos (starEach [e2] X.env)).any (·.1) = false := by exact any_plain rfl)
    (hs2 : starEach [e2] X.env = (false, eval e2 X.env) :: starEach [] X.env := by exact star_plain rfl) (hm : behindInMarks .Eq e3 = false := by first | exact nomark _ | (with_unfolding_all rfl)) :
    DSI X i (.Return (some (.Compare (.Call (.Attribute (.Name x p) "setdefault" apos) [e1, e2] [] cpos) [.Eq] [e3] qpos)) pos) (retSD i fk fv fw) := by
 with_unfolding_all exact (
  PS.imp (ps_ret (pe_cmpR (op_eqD hu) (pe_bm PySem.F.plainAttrs_dict PySem.F.slot_dict_setdefault PySem.F.type_dict_setdefault mt_setD (pe_var (i := i) hN hvs hd hcd) (pa_cons hk (pa_cons hv pa_nil hs2) hs) hbase hfew hline hs hplain) hw hm)) fun E σ H ⟨G, H0, env, o, aa, k, haa, ef, q⟩ => by
    obtain ⟨ks, c1, ef⟩ := bind_inv ef
    obtain ⟨kd, c2, ef⟩ := bind_inv ef
    obtain ⟨d, c3, c4⟩ := bind_inv ef
    have hi := ownK_inv c1
    obtain ⟨a, kvs, ha, hx, hkk, rs⟩ := own_dict k hi
    have haeq : a = aa := by
      have := ha.symm.trans haa
      cases this; rfl
    subst haeq
    cases hkey : keyD kd with
    | none => rw [hkey] at c4; cases c4
    | some kk =>
      rw [hkey] at c4
      obtain ⟨hz, c5⟩ := must_inv c4
      refine ⟨.ref a, ha, .inr (.inr (.inl ⟨rfl, .inl ⟨kvs, hx⟩⟩)), G, H0, env, kd, k, c2, fun y H1 s1 r1 _ => ⟨G, H0, env, d, k.grow s1, c3, fun v H2 s2 r2 _ => ?_⟩⟩
      have hx2 := s2 _ _ (s1 _ _ hx)
      have hy := keyD_kV (r1.weak (A' := Any) Lv.weak_b) hkey
      subst hy
      have hl : kvs.length < sizeLine := by rw [← hkk, List.length_map] at hz; exact hz
      obtain ⟨g1, g2⟩ := has_valV (K := X.K) kk ((rs.grow s1).grow s2)
      rw [hkk] at g1 g2
      refine ⟨a, kvs, kk, v, rfl, rfl, hx2, hl, fun w hw => ?_, fun hn => ?_⟩
      · obtain ⟨d0, hd0, rd0⟩ := g1 w hw
        rw [hd0] at c5
        obtain ⟨wd, c6, c5⟩ := bind_inv c5
        obtain ⟨rr, c7, c5⟩ := bind_inv c5
        obtain ⟨hc, c8⟩ := must_inv c7
        cases c8
        cases c5
        refine ⟨G, H0, env, wd, (k.grow s1).grow s2, c6, fun y H3 s3 r3 _ => ⟨d0, wd, (rd0.grow s3).weak fun _ _ => trivial, r3.weak Lv.weak_b, hc, ?_⟩⟩
        exact q σ H3 (((k.grow s1).grow s2).grow s3) ha (Frm.refl (s1.trans (s2.trans s3)))
      · rw [g2 hn] at c5
        obtain ⟨wd, c6, c5⟩ := bind_inv c5
        obtain ⟨rr, c7, c5⟩ := bind_inv c5
        obtain ⟨hc, c8⟩ := must_inv c7
        cases c8
        cases c5
        have W := ((k.grow s1).grow s2).putD (kk := kk) hi ha hx2 hkk ((rs.grow s1).grow s2) r2
        refine ⟨G, H0, _, wd, W.1, c6, fun y H3 s3 r3 _ => ⟨d, wd, ((W.2.rep ((k.grow s1).grow s2) r2).grow s3).weak fun _ _ => trivial, r3.weak Lv.weak_b, hc, ?_⟩⟩
        exact q σ H3 (W.1.grow s3) ha (((W.2.grow s2).grow s1).trans (Frm.refl s3)))
end
abbrev FI := List D → List Key → List D → Res (Bool × List Key × List D)
def spI (K : PySem.W.Frag) (n : Nat) (F : FI) : Sp := fun vs H Q _ => ∃ (B : Addr → Prop) (ds : List D) (us : List V) (a : Addr) (ks : List Key) (es : List D) (b : Bool) (ks' : List Key) (es' : List D), vs = us ++ [V.ref a] ∧ us.length = n ∧ Reps K (fun c => B c ∧ c ≠ a) H us ds ∧ Top K (fun c => B c ∧ c ≠ a) H a (.dic ks es) ∧ F ds ks es = .ok (b, ks', es') ∧
  ∀ H', (∀ c o, c ≠ a → H c = some o → H' c = some o) → Top K (fun c => (H c = none ∨ B c) ∧ c ≠ a) H' a (.dic ks' es') → Q (.bl b) H'
structure AvI (P : Program) (w : World) (K : PySem.W.Frag) (mg : Str → Option Value) (base : Heap) (k : Nat) (x : Str) (ps : List Str) (n : Nat) (F : FI) : Prop where
  ex : ∃ f fd, FnOk P w K mg base CX0 k f fd ps (spI K n F) ∧ mg x = some (.ref f) ∧ PySem.W.keepIn K (.ref f) = true ∧ Binds K fd ps []
theorem AvI.mono {P : Program} {w : World} {K : PySem.W.Frag} {mg : Str → Option Value} {base : Heap} {j k n : Nat} {x : Str} {ps : List Str} {F : FI} (h : AvI P w K mg base j x ps n F) (hj : j ≤ k) : AvI P w K mg base k x ps n F :=
  let ⟨f, fd, a, b⟩ := h.ex
  ⟨f, fd, a.mono hj, b⟩
def callI (F : FI) (i : Nat) (f1 f2 : Sl → Res D) : Sl → Res (Bool × Sl) := fun env => f1 env >>= fun d1 => f2 env >>= fun d2 => ownK i env >>= fun q => F [d1, d2] q.1 q.2 >>= fun r => .ok (r.1, env.set i (.own (.dic r.2.1 r.2.2)))
def tCI (K : PySem.W.Frag) (i : Nat) (c : Sl → Res (Bool × Sl)) : TE := fun σ H Q => ∃ G H0 env b env', EnvOk K G H0 env σ H ∧ c env = .ok (b, env') ∧ ∀ H', EnvOk K G H0 env' σ H' → Frm env σ H env' σ H' → Q (.bl b) H'
@[irreducible] def DCI (X : Cx) (i : Nat) (e : Expr) (c : Sl → Res (Bool × Sl)) : Prop := PE X e (tCI X.K i c)
section
variable {X : Cx} {k n i : Nat} {x y : Str} {ps : List Str} {F : FI} {e1 e2 : Expr} {p py pos : Pos} {f1 f2 : Sl → Res D}
theorem AvI.call (i : Nat) (A : AvI X.prog X.w X.K X.mg X.base k x ps 2 F) (hr : Room k X.A) (h1 : DE X .s e1 f1) (h2 : DE X .s e2 f2) (hN : X.N[i]? = some y := by rfl) (hvs : Vis X.env.scope y := by first | exact Or.inl rfl | exact Or.inr (Or.inl rfl) | exact Or.inr (Or.inr rfl))
    (hd : (y == ("__debug__" : Str)) = false := by decide) (hcd : (y == ("__classdict__" : Str)) = false := by decide) (hg : Gl X x := by rfl) (hdb : (x == ("__debug__" : Str)) = false := by decide)
    (he : starEach [e1, e2, .Name y py] X.env = (false, eval e1 X.env) :: starEach [e2, .Name y py] X.env := by exact star_plain rfl) (he2 : starEach [e2, .Name y py] X.env = (false, eval e2 X.env) :: starEach [.Name y py] X.env := by exact star_plain rfl)
    (he3 : starEach [.Name y py] X.env = (false, eval (.Name y py) X.env) :: starEach [] X.env := by exact star_plain rfl)
    (hpl : (backTo pos (starEach [e2, .Name y py] X.env)).any (·.1) = false := by exact any_plain rfl) : DCI X i (.Call (.Name x p) [e1, e2, .Name y py] [] pos) (callI F i f1 f2) := by
  obtain ⟨f, fd, g1, g2, g3, g4⟩ := A.ex
  with_unfolding_all exact (
   PE.imp (pe_call g1 hr hg g2 g3 g4 .nil (E := fun _ _ _ => False) pass0 (pa_cons h1 (pa_cons h2 (pa_cons (pe_var (i := i) hN hvs hd hcd) pa_nil he3) he2) he) hdb he hpl) fun σ H Q ⟨G, H0, env, b, env', k, ef, q⟩ => by
    obtain ⟨d1, c1, ef⟩ := bind_inv ef
    obtain ⟨d2, c2, ef⟩ := bind_inv ef
    obtain ⟨ks, c3, ef⟩ := bind_inv ef
    obtain ⟨r, c4, ef⟩ := bind_inv ef
    cases ef
    have hi := ownK_inv c3
    refine ⟨G, H0, env, d1, k, c1, fun v1 H1 s1 r1 _ => ⟨G, H0, env, d2, k.grow s1, c2, fun v2 H2 s2 r2 _ => ?_⟩⟩
    have k2 := (k.grow s1).grow s2
    obtain ⟨a, ha, h0, ta⟩ := k2.own i _ hi
    have ow : Owned env σ a := ⟨i, _, hi, ha⟩
    have w : ∀ c, Sf G env σ c → Sf G env σ c ∧ c ≠ a := fun c z => ⟨z, by rintro rfl; exact z.1 ow⟩
    refine ⟨.ref a, ha, ?_⟩
    show spI X.K 2 F ([v1, v2, .ref a] ++ []) H2 Q (fun _ _ _ => False)
    rw [List.append_nil]
    refine ⟨Sf G env σ, [d1, d2], [v1, v2], a, _, _, r.1, r.2.1, r.2.2, rfl, rfl, .cons ((r1.grow s2).weak w) (.cons (r2.weak w) .nil), ta.stay (fun _ _ e _ => e) w fun _ e => e, c4, fun H' hs' t' => ?_⟩
    have W := k2.anew hi ha hs' (t'.stay (fun _ _ e _ => e) (fun c z => z.1.elim (fun z => k2.new c z) fun z => z) fun _ e => e)
    exact q H' W.1 ((W.2.grow s2).grow s1))
theorem DCI.not {e : Expr} {c : Sl → Res (Bool × Sl)} (h : DCI X i e c) (he : ∀ whole, isTrue e X.env whole = (do let v ← whole; standAt e.pos; holding [v] (truthy v)) := by intro _; rfl) : PT X (.UnaryOp .Not e pos) (tNot (tB (tCI X.K i c))) := by
  with_unfolding_all exact pt_not (pt_val h he)
def ifNI (c : Sl → Res (Bool × Sl)) (g1 g2 : Sl → Res OutI) : Sl → Res OutI := fun env => c env >>= fun r => if r.1 = true then g2 r.2 else g1 r.2
theorem dsi_ifN {e : Expr} {c : Sl → Res (Bool × Sl)} {body orelse : List Stmt} {g1 g2 : Sl → Res OutI} {npos : Pos} (h : DCI X i e c) (h1 : DSsI X i body g1) (h2 : DSsI X i orelse g2)
    (he : ∀ whole, isTrue e X.env whole = (do let v ← whole; standAt e.pos; holding [v] (truthy v)) := by intro _; rfl) : DSI X i (.If (.UnaryOp .Not e npos) body orelse pos) (ifNI c g1 g2) := by
 with_unfolding_all exact (
  PS.imp (ps_if (DCI.not (pos := npos) h he) h1 h2) fun E σ H ⟨G, H0, env, o, a, k, ha, ef, q⟩ => by
    obtain ⟨r, c1, ef⟩ := bind_inv ef
    obtain ⟨b, env'⟩ := r
    refine ⟨G, H0, env, b, env', k, c1, fun H' k' f' => ⟨b, rfl, ?_⟩⟩
    cases b with
    | true =>
      rw [if_pos rfl] at ef
      rw [if_neg (by simp)]
      exact ⟨G, H0, env', o, a, k', ha, ef, outI_tr f' q⟩
    | false =>
      rw [if_neg Bool.false_ne_true] at ef
      rw [if_pos (by simp)]
      exact ⟨G, H0, env', o, a, k', ha, ef, outI_tr f' q⟩)
def retIfI (i : Nat) (c : Sl → Res (Bool × Sl)) : Sl → Res Out := fun env => c env >>= fun r => if r.1 = true then (ownK i r.2 >>= fun q => .ok (.rt true (.dic q.1 q.2))) else .ok (.rt true .non)
theorem ds_retIfI {e : Expr} {c : Sl → Res (Bool × Sl)} {npos rpos : Pos} (h : DCI X i e c) (hN : X.N[i]? = some y := by rfl) (hvs : Vis X.env.scope y := by first | exact Or.inl rfl | exact Or.inr (Or.inl rfl) | exact Or.inr (Or.inr rfl))
    (hd : (y == ("__debug__" : Str)) = false := by decide) (hcd : (y == ("__classdict__" : Str)) = false := by decide)
    (he : ∀ whole, isTrue e X.env whole = (do let v ← whole; standAt e.pos; holding [v] (truthy v)) := by intro _; rfl) {cn : Expr} (hn : PE X cn (tC .non)) : DS X (.Return (some (.IfExp e (.Name y py) cn npos)) rpos) (retIfI i c) := by
 with_unfolding_all exact (
  PS.imp (ps_ret (pe_ifExp (pt_val (show PE X e (tCI X.K i c) from h) he) (pe_var (i := i) hN hvs hd hcd) hn)) fun E σ H ⟨G, H0, env, o, k, ef, q⟩ => by
    obtain ⟨r, c1, ef⟩ := bind_inv ef
    obtain ⟨b, env'⟩ := r
    refine ⟨G, H0, env, b, env', k, c1, fun H' k' f' => ⟨b, rfl, ?_⟩⟩
    cases b with
    | true =>
      rw [if_pos rfl] at ef ⊢
      obtain ⟨ks, c2, ef⟩ := bind_inv ef
      cases ef
      have hi := ownK_inv c2
      obtain ⟨a, h1, h0, h2⟩ := k'.own i _ hi
      refine ⟨.ref a, h1, q _ H' k'.base (h2.rep (fun c z => ⟨z.2, own_ne k' hi h1 c z⟩) (k'.g0 a h0)) fun _ b e o' q' => ?_⟩
      cases e
      rw [h0] at q'; cases q'
    | false =>
      rw [if_neg Bool.false_ne_true] at ef ⊢
      cases ef
      exact q _ H' k'.base .non fun _ b e => by cases e)
end
end M

set_option Elab.async false
set_option linter.all false
set_option maxRecDepth 100000
set_option maxHeartbeats 4000000
namespace M
open PySem PySem.Spec L2
open PyProof.Rows hiding St
def startI (n : Nat) (ds : List D) (ks : List Key) (es : List D) : Sl := ds.map .shr ++ (.own (.dic ks es) :: List.replicate (n - ds.length - 1) .un)
theorem startI_get {n : Nat} {ds : List D} {ks : List Key} {es : List D} {j : Nat} {s : Slot} (h : (startI n ds ks es)[j]? = some s) : (∃ d, ds[j]? = some d ∧ s = .shr d) ∨ (j = ds.length ∧ s = .own (.dic ks es)) ∨ s = .un := by
  unfold startI at h
  by_cases q : j < ds.length
  · rw [List.getElem?_append_left (by simpa using q), List.getElem?_map] at h
    cases e : ds[j]? with
    | none => rw [e] at h; cases h
    | some x => rw [e] at h; cases h; exact .inl ⟨x, rfl, rfl⟩
  · rw [List.getElem?_append_right (by simpa using q)] at h
    simp only [List.length_map] at h
    by_cases z : j = ds.length
    · subst z
      simp at h
      exact .inr (.inl ⟨rfl, h.symm⟩)
    · obtain ⟨m, hm⟩ : ∃ m, j - ds.length = m + 1 := ⟨j - ds.length - 1, by omega⟩
      rw [hm, List.getElem?_cons_succ, List.getElem?_replicate] at h
      split at h
      · cases h; exact .inr (.inr rfl)
      · cases h
theorem env_startI {K : PySem.W.Frag} {B : Addr → Prop} {N : List Str} {us : List V} {ds : List D} {a : Addr} {ks : List Key} {es : List D} {H : Hp} (r : Reps K (fun c => B c ∧ c ≠ a) H us ds) (t : Top K (fun c => B c ∧ c ≠ a) H a (.dic ks es)) (hN : ds.length + 1 ≤ N.length) :
    EnvOk K (fun c => H c = none ∨ c = a ∨ B c) (fun c => if c = a then none else H c) (startI N.length ds ks es) (start N (us ++ [V.ref a])) H ∧ At (start N (us ++ [V.ref a])) ds.length a := by
  have hl := r.length
  have hat : At (start N (us ++ [V.ref a])) ds.length a := by
    show (L2.start N (us ++ [V.ref a]))[ds.length]? = _
    unfold L2.start
    rw [List.getElem?_append_left (by simp; omega)]
    simp [← hl]
  have hget : ∀ (j : Nat) (v : V), us[j]? = some v → (start N (us ++ [V.ref a]))[j]? = some (some v) := fun j v h => by
    have hj := (List.getElem?_eq_some_iff.mp h).1
    unfold L2.start
    rw [List.getElem?_append_left (by simp; omega), List.getElem?_map, List.getElem?_append_left hj, h]
    rfl
  have own1 : ∀ c, Owned (startI N.length ds ks es) (start N (us ++ [V.ref a])) c → c = a := fun c ⟨j, d, h1, h2⟩ => by
    rcases startI_get h1 with ⟨_, _, z⟩ | ⟨rfl, _⟩ | z
    · cases z
    · rw [hat] at h2; cases h2; rfl
    · cases z
  have w : ∀ c, B c ∧ c ≠ a → Sf (fun c => H c = none ∨ c = a ∨ B c) (startI N.length ds ks es) (start N (us ++ [V.ref a])) c := fun c z => ⟨fun o => z.2 (own1 c o), .inr (.inr z.1)⟩
  refine ⟨⟨?_, fun c o e => ?_, fun c e => ?_, fun j d h => ?_, fun j d h => ?_, fun j j' d e b h1 h2 h3 h4 => ?_⟩, hat⟩
  · simp [L2.start, startI, hl]; omega
  · split at e
    · cases e
    · exact e
  · split at e
    · rename_i z; exact .inr (.inl z)
    · exact .inl e
  · rcases startI_get h with ⟨d', e, z⟩ | ⟨_, z⟩ | z
    · cases z
      obtain ⟨v, h1, h2⟩ := r.get e
      exact ⟨v, hget j v h1, h2.weak w⟩
    · cases z
    · cases z
  · rcases startI_get h with ⟨d', e, z⟩ | ⟨rfl, z⟩ | z
    · cases z
    · cases z
      exact ⟨a, hat, if_pos rfl, t.stay (fun _ _ e _ => e) w fun _ e => e⟩
    · cases z
  · have real : ∀ (j : Nat) (d : D), (startI N.length ds ks es)[j]? = some (.own d) → j = ds.length := fun j d h => by
      rcases startI_get h with ⟨_, _, z⟩ | ⟨z, _⟩ | z
      · cases z
      · exact z
      · cases z
    rw [real j d h1, real j' e h2]
def runI (N n : Nat) (g : Sl → Res OutI) : FI := fun ds ks es => match g (startI N ds ks es) with
  | .ok (.rt b env) => must (ds.length = n) (match env[n]? with
    | some (.own (.dic ks' es')) => .ok (b, ks', es')
    | _ => .stuck)
  | _ => .stuck
theorem runI_inv {N n : Nat} {g : Sl → Res OutI} {ds : List D} {ks : List Key} {es : List D} {b : Bool} {ks' : List Key} {es' : List D} (h : runI N n g ds ks es = .ok (b, ks', es')) : ∃ env, g (startI N ds ks es) = .ok (.rt b env) ∧ ds.length = n ∧ env[n]? = some (.own (.dic ks' es')) := by
  unfold runI at h
  split at h
  · rename_i b' env e
    obtain ⟨h1, h2⟩ := must_inv h
    split at h2
    · rename_i q1 q2 e2
      cases h2
      exact ⟨env, e, h1, e2⟩
    · cases h2
  · cases h
section
variable {P : Program} {w : World} {K : PySem.W.Frag} {mg : Str → Option Value} {base : Heap}
theorem avi_ok {x : Str} {st : Stmt} {f : Addr} {fd : FuncData} {N ps : List Str} {k n : Nat} {g : Sl → Res OutI} (Fu : Fun K x x st f fd) (hmg : mg x = some (.ref f)) (S : FnScope N ps (defScope st)) (hbi : Binds K fd ps []) (hn : ps.length = n + 1) (hN : n + 1 ≤ N.length)
    (hb : ∀ (cdv : Value) (A : Around) (outer : List Env) (s : Shared) (H : Hp) (E : XK), Room k (A.deeper (envOfC x (defScope st) s.heap.objs.size f cdv)) → DSsI (cxOf CX0 P w K mg base N x (defScope st) f cdv A outer s H E).nox n (defBody st) g) :
    AvI P w K mg base (k + 1) x ps n (runI N.length n g) := by
  refine ⟨f, fd, ?_, hmg, Fu.kp, hbi⟩
  with_unfolding_all exact (by
  refine Fu.ok S (fun vs H Q E ⟨B, ds, us, a, ks, es, b, ks', es', ev, hl, _⟩ => by rw [ev, List.length_append, hl, hn]; rfl) (fun cdv A outer s H vs Q E hr h => ?_)
  obtain ⟨B, ds, us, a, ks, es, b, ks', es', ev, hl, r, t, eF, q⟩ := h
  refine ⟨_, hb cdv A outer s H E hr, ?_⟩
  obtain ⟨env, e1, e2, e3⟩ := runI_inv eF
  subst ev
  obtain ⟨kk, hat⟩ := env_startI (N := N) r t (by omega)
  rw [e2] at hat
  refine ⟨_, _, _, _, a, kk, hat, e1, fun σ' H' k' a' f' => ?_⟩
  obtain ⟨a2, h1, _, t2⟩ := k'.own n _ e3
  rw [a'] at h1; cases h1
  refine q H' (fun c o hc e => k'.base c o (by rw [if_neg hc]; exact e)) (t2.stay (fun _ _ e _ => e) (fun c z => ?_) fun _ e => e)
  have hca : c ≠ a := by
    rintro rfl
    exact z.1 ⟨n, _, e3, a'⟩
  refine ⟨?_, hca⟩
  rcases z.2 with z | z | z
  · exact .inl z
  · exact absurd z hca
  · exact .inr z)
theorem avi_zero {x : Str} {st : Stmt} {f : Addr} {fd : FuncData} {ps : List Str} {k n : Nat} (Fu : Fun K x x st f fd) (hmg : mg x = some (.ref f)) (hbi : Binds K fd ps []) (hn : ps.length = n + 1) : AvI P w K mg base k x ps n (fun _ _ _ => .stuck) :=
  ⟨f, fd, ⟨fun vs H Q E ⟨B, ds, us, a, ks, es, b, ks', es', ev, hl, _⟩ => by rw [ev, List.length_append, hl, hn]; rfl, fun A outer s H args us vs Q E _ _ _ _ ⟨B, ds, us', a, ks, es, b, ks', es', ev, hl, r, t, e, _⟩ => by cases e⟩, hmg, Fu.kp, hbi⟩
end
end M

set_option Elab.async false
set_option linter.all false
set_option maxRecDepth 100000
set_option maxHeartbeats 4000000
namespace M
open PySem PySem.Spec L2
open PyProof.Rows hiding St
section
variable {prog : Program} {w : World} {A : Around} {E : Value → Shared → Prop} {s : Shared} {z TI TO i1 i2 l1 l2 : Addr} {k1 k2 : Nat} {xs ys : Array Value} {a b : Value}
structure ZipAt (h : Heap) (z TI TO i1 i2 l1 l2 : Addr) (k1 k2 : Nat) (f0 : Value) : Prop where
  hz : IsZip h z TI TO f0
  ti : IsPair h TI (.ref i1) (.ref i2)
  to : ∃ a b, IsPair h TO a b
  h1 : h.IsTupleIter i1 l1 k1
  h2 : h.IsTupleIter i2 l2 k2
theorem zipT_item {x y : Value} {Q : Value → Shared → Prop} (D : ZipApart z TI TO i1 i2 l1 l2) (Z : ZipAt s.heap z TI TO i1 i2 l1 l2 k1 k2 .none) (hl1 : s.heap.IsTuple l1 xs) (hl2 : s.heap.IsTuple l2 ys) (hx : xs[k1]? = some x) (hy : ys[k2]? = some y)
    (hQ : ∀ h', ZipAt h' z TI TO i1 i2 l1 l2 (k1 + 1) (k2 + 1) (rawInt s.heap.objs.size) → IsPair h' s.heap.objs.size x y →
      (∀ c o, c ≠ z → c ≠ TO → c ≠ i1 → c ≠ i2 → s.heap.get? c = some o → h'.get? c = some o) → Q (.ref s.heap.objs.size) { s with heap := h' }) :
    wpAny (model prog w) A (Builtin.«zip.__next__» ⟨[.ref z], []⟩) (fun fin s' => ∃ v, fin = .done (.ret v) ∧ Q v s') E s := by
  obtain ⟨hz, hTI, ⟨a, b, hTO⟩, h1, h2⟩ := Z
  refine (show wpAny _ _ (field (.ref z) 2 >>= _) _ _ _ from wpAny_bind (wpAny_field hz rfl (x := .bool false) rfl (show wpAny _ _ (field (.ref z) 3 >>= _) _ _ _ from wpAny_bind (wpAny_field hz rfl (x := .ref TI) rfl (wpAny_bind (wpAny_seqItems hTI rfl (show wpAny _ _ (Builtin.SmallTypes.ownedTupleIsFree (.ref z) >>= _) _ _ _ from wpAny_bind ?_)))))))
  unfold Builtin.SmallTypes.ownedTupleIsFree
  refine wpAny_bind (wpAny_field hz rfl (x := .none) rfl (wpAny_pure ?_))
  simp only [if_true]
  refine wpAny_bind (wpAny_rule (wpAny_bind (wpAny_field hz rfl (x := .ref TO) rfl (wpAny_bind (wpAny_setField_rec hz (by simp) fun g1 z1 s1 => wpAny_bind ?_)))))
  have z1' : IsZip g1 z TI TO .ellipsis := z1
  simp only [List.zipIdx_cons, List.zipIdx_nil, List.forIn_cons, List.forIn_nil]
  refine wpAny_bind (wpAny_bind (wpAny_onRaise (show wpAny _ _ (Builtin.SmallTypes.nextOf (.ref i1) >>= _) _ _ _ from wpAny_bind (next_tup (h1.extBut s1.extBut D.i1z) (hl1.extBut s1.extBut D.l1z) hx fun g2 q1 s2 => wpAny_pure ?_))))
  have to2 : IsPair g2 TO a b := s2.extBut _ _ D.TOi1 (s1.extBut _ _ D.TOz hTO)
  refine wpAny_bind (wpAny_seqItems to2 rfl (wpAny_bind (wpAny_updateSeq_pair to2 fun g3 to3 s3 => wpAny_bind (wpAny_letGo (wpAny_pure (wpAny_bind (wpAny_bind (wpAny_onRaise ?_))))))))
  have to3' : IsPair g3 TO x b := to3
  refine (show wpAny _ _ (Builtin.SmallTypes.nextOf (.ref i2) >>= _) _ _ _ from wpAny_bind (next_tup (((h2.extBut s1.extBut D.i2z).extBut s2.extBut D.i12.symm).extBut s3.extBut D.TOi2.symm) (((hl2.extBut s1.extBut D.l2z).extBut s2.extBut D.l2i1).extBut s3.extBut D.l2TO) hy fun g4 q2 s4 => wpAny_pure ?_))
  have to4 : IsPair g4 TO x b := s4.extBut _ _ D.TOi2 to3'
  refine wpAny_bind (wpAny_seqItems to4 rfl (wpAny_bind (wpAny_updateSeq_pair to4 fun g5 to5 s5 => wpAny_bind (wpAny_letGo (wpAny_pure (wpAny_pure ?_))))))
  have to5' : IsPair g5 TO x y := to5
  refine wpAny_bind (wpAny_seqItems to5' rfl (wpAny_bind (wpAny_newTuple (show wpAny _ _ (Builtin.SmallTypes.ownedTupleHandOut (.ref z) (.ref g5.objs.size) >>= _) _ _ _ from wpAny_bind ?_))))
  have hsz : g5.objs.size = s.heap.objs.size := by rw [s5.1, s4.1, s3.1, s2.1, s1.1]
  have z5 : IsZip g5 z TI TO .ellipsis := s5.extBut _ _ D.TOz.symm (s4.extBut _ _ D.i2z.symm (s3.extBut _ _ D.TOz.symm (s2.extBut _ _ D.i1z.symm z1')))
  have k5 : ∀ c o, c ≠ z → c ≠ TO → c ≠ i1 → c ≠ i2 → s.heap.get? c = some o → g5.get? c = some o := fun c o c1 c2 c3 c4 e => s5.extBut _ _ c2 (s4.extBut _ _ c4 (s3.extBut _ _ c2 (s2.extBut _ _ c3 (s1.extBut _ _ c1 e))))
  have q1' : g5.IsTupleIter i1 l1 (k1 + 1) := ((q1.extBut s3.extBut D.TOi1.symm).extBut s4.extBut D.i12).extBut s5.extBut D.TOi1.symm
  have q2' : g5.IsTupleIter i2 l2 (k2 + 1) := q2.extBut s5.extBut D.TOi2.symm
  have zlt : z < g5.objs.size := Heap.lt_size z5
  unfold Builtin.SmallTypes.ownedTupleHandOut
  have z6 : IsZip (g5.push { cls := .type "tuple", data := .seq #[x, y] }) z TI TO .ellipsis := Heap.get?_push_of_some _ z5
  refine wpAny_bind (wpAny_setField_rec z6 (by simp) fun g7 z7 s7 => ?_)
  have z7' : IsZip g7 z TI TO (rawInt g5.objs.size) := z7
  refine wpAny_setField_rec z7' (by simp) fun g8 z8 s8 => wpAny_pure ⟨_, rfl, (show Q (.ref g5.objs.size) _ from ?_)⟩
  have z8' : IsZip g8 z TI TO (rawInt g5.objs.size) := z8
  have up : ∀ c o, c ≠ z → g5.get? c = some o → g8.get? c = some o := fun c o c1 e => s8.extBut _ _ c1 (s7.extBut _ _ c1 (Heap.get?_push_of_some _ e))
  have t8 : IsPair g8 g5.objs.size x y := s8.extBut _ _ (Nat.ne_of_gt zlt) (s7.extBut _ _ (Nat.ne_of_gt zlt) (Heap.get?_push_size _ rfl))
  rw [hsz] at z8' t8 ⊢
  exact hQ g8 ⟨z8', up _ _ D.TIz (k5 _ _ D.TIz D.TITO D.TIi1 D.TIi2 hTI), ⟨_, _, up _ _ D.TOz to5'⟩, q1'.at fun o e => up _ o D.i1z e, q2'.at fun o e => up _ o D.i2z e⟩ t8 fun c o c1 c2 c3 c4 e => up c o c1 (k5 c o c1 c2 c3 c4 e)
theorem zipT_end {Q : PySem.Fin → Shared → Prop} (hh : A.handled = none) (D : ZipApart z TI TO i1 i2 l1 l2) (Z : ZipAt s.heap z TI TO i1 i2 l1 l2 k1 k2 .none) (hl1 : s.heap.IsTuple l1 xs) (hl2 : s.heap.IsTuple l2 ys) (hend : xs[k1]? = none ∨ ys[k2]? = none)
    (hE : ∀ h' e, (∀ c o, c ≠ z → c ≠ TO → c ≠ i1 → c ≠ i2 → s.heap.get? c = some o → h'.get? c = some o) → (∃ o, h'.get? e = some o ∧ o.cls = .type "StopIteration") → E (.ref e) { s with heap := h' }) :
    wpAny (model prog w) A (Builtin.«zip.__next__» ⟨[.ref z], []⟩) Q E s := by
  obtain ⟨hz, hTI, ⟨a, b, hTO⟩, h1, h2⟩ := Z
  refine (show wpAny _ _ (field (.ref z) 2 >>= _) _ _ _ from wpAny_bind (wpAny_field hz rfl (x := .bool false) rfl (show wpAny _ _ (field (.ref z) 3 >>= _) _ _ _ from wpAny_bind (wpAny_field hz rfl (x := .ref TI) rfl (wpAny_bind (wpAny_seqItems hTI rfl (show wpAny _ _ (Builtin.SmallTypes.ownedTupleIsFree (.ref z) >>= _) _ _ _ from wpAny_bind ?_)))))))
  unfold Builtin.SmallTypes.ownedTupleIsFree
  refine wpAny_bind (wpAny_field hz rfl (x := .none) rfl (wpAny_pure ?_))
  simp only [if_true]
  refine wpAny_bind (wpAny_rule (wpAny_bind (wpAny_field hz rfl (x := .ref TO) rfl (wpAny_bind (wpAny_setField_rec hz (by simp) fun g1 z1 s1 => wpAny_bind ?_)))))
  have z1' : IsZip g1 z TI TO .ellipsis := z1
  simp only [List.zipIdx_cons, List.zipIdx_nil, List.forIn_cons, List.forIn_nil]
  refine wpAny_bind (wpAny_bind (wpAny_onRaise (show wpAny _ _ (Builtin.SmallTypes.nextOf (.ref i1) >>= _) _ _ _ from ?_)))
  have ne : ∀ {h : Heap} {e : Addr} {oe : Obj}, IsZip h z TI TO .ellipsis → h.get? e = some oe → oe.cls = .type "StopIteration" → e ≠ z := fun {h e oe} hz hoe hce x => by
    subst x; rw [hz] at hoe; cases hoe; simp at hce
  cases hx : xs[k1]? with
  | none =>
    refine wpAny_bind (end_tup hh (h1.extBut s1.extBut D.i1z) (hl1.extBut s1.extBut D.l1z) hx fun g2 e s2 ⟨oe, hoe, hce⟩ => ?_)
    have z2 : IsZip g2 z TI TO .ellipsis := s2 _ _ D.i1z.symm z1'
    exact wpAny_setField_rec z2 (by simp) fun g3 _ s3 => hE g3 e (fun c o c1 _ c3 _ x => s3.extBut _ _ c1 (s2 _ _ c3 (s1.extBut _ _ c1 x))) ⟨oe, s3.extBut _ _ (ne z2 hoe hce) hoe, hce⟩
  | some x =>
    have hy : ys[k2]? = none := hend.resolve_left (by rw [hx]; simp)
    refine wpAny_bind (next_tup (h1.extBut s1.extBut D.i1z) (hl1.extBut s1.extBut D.l1z) hx fun g2 q1 s2 => wpAny_pure ?_)
    have to2 : IsPair g2 TO a b := s2.extBut _ _ D.TOi1 (s1.extBut _ _ D.TOz hTO)
    refine wpAny_bind (wpAny_seqItems to2 rfl (wpAny_bind (wpAny_updateSeq_pair to2 fun g3 to3 s3 => wpAny_bind (wpAny_letGo (wpAny_pure (wpAny_bind (wpAny_bind (wpAny_onRaise ?_))))))))
    refine (show wpAny _ _ (Builtin.SmallTypes.nextOf (.ref i2) >>= _) _ _ _ from wpAny_bind (end_tup hh (((h2.extBut s1.extBut D.i2z).extBut s2.extBut D.i12.symm).extBut s3.extBut D.TOi2.symm) (((hl2.extBut s1.extBut D.l2z).extBut s2.extBut D.l2i1).extBut s3.extBut D.l2TO) hy fun g4 e s4 ⟨oe, hoe, hce⟩ => ?_))
    have z4 : IsZip g4 z TI TO .ellipsis := s4 _ _ D.i2z.symm (s3.extBut _ _ D.TOz.symm (s2.extBut _ _ D.i1z.symm z1'))
    exact wpAny_setField_rec z4 (by simp) fun g5 _ s5 => hE g5 e (fun c o c1 c2 c3 c4 x => s5.extBut _ _ c1 (s4 _ _ c4 (s3.extBut _ _ c2 (s2.extBut _ _ c3 (s1.extBut _ _ c1 x))))) ⟨oe, s5.extBut _ _ (ne z4 hoe hce) hoe, hce⟩
theorem nextZ_item {x y : Value} {Q : Option Value → Shared → Prop} (D : ZipApart z TI TO i1 i2 l1 l2) (Z : ZipAt s.heap z TI TO i1 i2 l1 l2 k1 k2 .none) (hl1 : s.heap.IsTuple l1 xs) (hl2 : s.heap.IsTuple l2 ys) (hx : xs[k1]? = some x) (hy : ys[k2]? = some y)
    (hQ : ∀ h', ZipAt h' z TI TO i1 i2 l1 l2 (k1 + 1) (k2 + 1) (rawInt s.heap.objs.size) → IsPair h' s.heap.objs.size x y →
      (∀ c o, c ≠ z → c ≠ TO → c ≠ i1 → c ≠ i2 → s.heap.get? c = some o → h'.get? c = some o) → Q (some (.ref s.heap.objs.size)) { s with heap := h' }) : wpAny (model prog w) A (pyNext (.ref z)) Q E s := by
  have hT : s.TypeIs (.ref z) "zip" := ⟨_, Z.hz, rfl⟩
  unfold pyNext
  exact wpAny_bind (wpAny_attempt (wpAny_callSpecial?_slot (name := Str.ofString "__next__") hT F.slot_zip_next (wpAny_call_entry F.slot_zip_next hT F.entry_zip_next (zipT_item D Z hl1 hl2 hx hy fun h' a1 a2 a3 => wpAny_pure (hQ h' a1 a2 a3)) (F.args_zip_next_1 _))))
theorem nextZ_end {Q : Option Value → Shared → Prop} (hh : A.handled = none) (D : ZipApart z TI TO i1 i2 l1 l2) (Z : ZipAt s.heap z TI TO i1 i2 l1 l2 k1 k2 .none) (hl1 : s.heap.IsTuple l1 xs) (hl2 : s.heap.IsTuple l2 ys) (hend : xs[k1]? = none ∨ ys[k2]? = none)
    (hQ : ∀ h', (∀ c o, c ≠ z → c ≠ TO → c ≠ i1 → c ≠ i2 → s.heap.get? c = some o → h'.get? c = some o) → Q none { s with heap := h' }) : wpAny (model prog w) A (pyNext (.ref z)) Q E s := by
  have hT : s.TypeIs (.ref z) "zip" := ⟨_, Z.hz, rfl⟩
  unfold pyNext
  exact wpAny_bind (wpAny_attempt (wpAny_callSpecial?_slot (name := Str.ofString "__next__") hT F.slot_zip_next (wpAny_call_entry F.slot_zip_next hT F.entry_zip_next (zipT_end hh D Z hl1 hl2 hend fun h' e hk ⟨o, ho, hc⟩ => wpAny_bind (wpAny_isInstance (T := "StopIteration") (b := true) ⟨o, ho, hc⟩ isSubtype_stop (wpAny_pure (hQ _ hk)))) (F.args_zip_next_1 _))))
end
abbrev zT1 (h : Heap) (l1 : Addr) : Heap := h.push { cls := .type "tuple_iterator", data := .fields #[.ref l1, .int 0 0] }
abbrev zT2 (h : Heap) (l1 l2 : Addr) : Heap := (zT1 h l1).push { cls := .type "tuple_iterator", data := .fields #[.ref l2, .int 0 0] }
abbrev zT3 (h : Heap) (l1 l2 : Addr) : Heap := (zT2 h l1 l2).push { cls := .type "tuple", data := .seq #[.ref h.objs.size, .ref (zT1 h l1).objs.size] }
abbrev zT4 (h : Heap) (l1 l2 : Addr) : Heap := (zT3 h l1 l2).push { cls := .type "tuple", data := .seq #[.none, .none] }
abbrev zT5 (h : Heap) (l1 l2 : Addr) : Heap := (zT4 h l1 l2).push { cls := .type "zip", data := .fields #[.none, .bool false, .bool false, .ref (zT2 h l1 l2).objs.size, .ref (zT3 h l1 l2).objs.size] }
theorem zipT_new (l1 l2 : Addr) (xs ys : Array Value) : PySem.Meets (Builtin.«zip.__new__» ⟨[.type "zip", .ref l1, .ref l2], []⟩) (fun _ R s => s.heap.IsTuple l1 xs ∧ s.heap.IsTuple l2 ys ∧ R (.ok (.ret (.ref (zT4 s.heap l1 l2).objs.size))) { s with heap := zT5 s.heap l1 l2 }) :=
  .of_wp fun prog w A R s h => by
    obtain ⟨hp, g, d, tk, os⟩ := s; obtain ⟨hl1, hl2, h⟩ := h
    have hsub := sub_zip
    have hT1 : Heap.IsTuple (Shared.heap ⟨hp, g, d, tk, os⟩) l1 xs := hl1
    have hT2 : Heap.IsTuple (Shared.heap ⟨hp.push { cls := .type "tuple_iterator", data := .fields #[.ref l1, .int 0 0] }, g, d, tk, os⟩) l2 ys := Heap.IsTuple.push hl2 _
    wp_walk using wpAny_pyIter_tuple hT1, wpAny_pyIter_tuple hT2
    exact ⟨_, rfl, h⟩
section
variable {prog : Program} {w : World} {A : Around} {E : Value → Shared → Prop} {s : Shared}
theorem call_zipT {l1 l2 : Addr} {xs ys : Array Value} {Q : Value → Shared → Prop} (hl1 : s.heap.IsTuple l1 xs) (hl2 : s.heap.IsTuple l2 ys)
    (h : ∀ h', ZipAt h' (s.heap.objs.size + 4) (s.heap.objs.size + 2) (s.heap.objs.size + 3) s.heap.objs.size (s.heap.objs.size + 1) l1 l2 0 0 .none → (∀ c o, s.heap.get? c = some o → h'.get? c = some o) → Q (.ref (s.heap.objs.size + 4)) { s with heap := h' }) :
    wpAny (model prog w) A (call (.type "zip") [.ref l1, .ref l2]) Q E s := by
  refine callType_new F.called_zip (by decide) (F.typeCall_zip_2 _ _) (F.newCall_zip_2 _ _) (fun obj => F.args_object_init_3 obj _ _) F.entry_zip_new (zipT_new l1 l2 xs ys) ⟨hl1, hl2, ?_⟩
  have z1 : (zT1 s.heap l1).objs.size = s.heap.objs.size + 1 := Heap.size_push ..
  have z2 : (zT2 s.heap l1 l2).objs.size = s.heap.objs.size + 2 := by rw [Heap.size_push, z1]
  have z3 : (zT3 s.heap l1 l2).objs.size = s.heap.objs.size + 3 := by rw [Heap.size_push, z2]
  have z4 : (zT4 s.heap l1 l2).objs.size = s.heap.objs.size + 4 := by rw [Heap.size_push, z3]
  have up1 : ∀ c o, (zT3 s.heap l1 l2).get? c = some o → (zT5 s.heap l1 l2).get? c = some o := fun c o e => Heap.get?_push_of_some _ (Heap.get?_push_of_some _ e)
  have up2 : ∀ c o, (zT1 s.heap l1).get? c = some o → (zT3 s.heap l1 l2).get? c = some o := fun c o e => Heap.get?_push_of_some _ (Heap.get?_push_of_some _ e)
  have g5 : (zT5 s.heap l1 l2).get? (zT4 s.heap l1 l2).objs.size = some _ := Heap.get?_push_size _ rfl
  have g4 : (zT5 s.heap l1 l2).get? (zT3 s.heap l1 l2).objs.size = some _ := Heap.get?_push_of_some _ (Heap.get?_push_size _ rfl)
  have g3 : (zT5 s.heap l1 l2).get? (zT2 s.heap l1 l2).objs.size = some _ := up1 _ _ (Heap.get?_push_size _ rfl)
  have g2 : (zT5 s.heap l1 l2).get? (zT1 s.heap l1).objs.size = some _ := up1 _ _ (Heap.get?_push_of_some _ (Heap.get?_push_size _ rfl))
  have g1 : (zT5 s.heap l1 l2).get? s.heap.objs.size = some _ := up1 _ _ (up2 _ _ (Heap.get?_push_size _ rfl))
  show _ ∧ _
  rw [z2, z3, z4] at g5
  rw [z1, z2] at g3
  rw [z3] at g4
  rw [z1] at g2
  rw [z4]
  exact ⟨⟨_, g5, rfl⟩, h _ ⟨g5, g3, ⟨_, _, g4⟩, ⟨_, g1, rfl, rfl⟩, ⟨_, g2, rfl, rfl⟩⟩ fun c o x => up1 _ _ (up2 _ _ (Heap.get?_push_of_some _ x))⟩
end
def ItZ (K : PySem.W.Frag) (a1 a2 : Addr) (xs ys : List V) : It := ⟨fun i H => (SqT K H a1 xs ∧ SqT K H a2 ys) ∧ i < xs.length ∧ i < ys.length, fun i H v H' => ∃ p x y, H p = none ∧ xs[i]? = some x ∧ ys[i]? = some y ∧ v = .ref p ∧ H' = upd H p (.tup [x, y]), fun i H => (SqT K H a1 xs ∧ SqT K H a2 ys) ∧ (xs.length ≤ i ∨ ys.length ≤ i)⟩
section
variable {X : Cx} {pins : List (Addr × Obj)} {σ : L2.St} {H : Hp} {s : Shared}
theorem inv_turnedN {t' : Nat} {h' : Heap} {fp : List Addr} (I : Inv X pins σ H s) (k : ∀ b o, b ∉ fp → s.heap.get? b = some o → h'.get? b = some o) (f : ∀ b ∈ fp, FpOk X pins H b) : Inv X pins σ H { s with heap := h', toks := t' } := by
  have n : ∀ b u, H b = some u → b ∉ fp := fun b u e z => by have := (f b z).1; rw [this] at e; cases e
  refine I.step (g' := s.gens) (d' := s.drawn) (ch := fp) (fun b hb => ?_) (fun b o _ _ hc e _ => k b o hc e) (fun b o _ _ hc e _ => ⟨o.slots, k b o hc e⟩) (fun _ _ _ _ n => n)
    (fun b o hc e => ⟨o, k b o hc e⟩) (fun _ _ e => e) (fun _ _ _ e => e) (fun b ps e => ⟨#[], by rw [e]; simp⟩) (fun m hm => ?_) (fun b u e => ?_) I.bare
  · obtain ⟨a0, a1, _, a3, a4, a5⟩ := f b hb
    exact ⟨a3, a1, a4, a5⟩
  · obtain ⟨o, es, ep, ho, r⟩ := hm
    exact ⟨o, es, ep, k _ o (fun z => (f _ z).2.1 rfl) ho, r⟩
  · refine (I.hok b u e).stay (fun c v hc q => k c v ?_ q) (fun _ q => q) fun _ _ q => q
    rcases hc with z | z
    · rw [z]; exact n b u e
    · exact n c _ z
end
end M

set_option Elab.async false
set_option linter.all false
set_option maxRecDepth 100000
set_option maxHeartbeats 4000000
namespace M
open PySem PySem.Spec L2
open PyProof.Rows hiding St
theorem turn_zipT {P : Program} {w : World} {K : PySem.W.Frag} {elts : List Expr} {n : Nat} {pos : Pos} {z TI TO i1 i2 a1 a2 : Addr} (xs ys : List V) (D : ZipApart z TI TO i1 i2 a1 a2) :
    Turn P w K (.Tuple elts n pos) (ItZ K a1 a2 xs ys) [z, TI, TO, i1, i2] z (fun i h => ZipAt h z TI TO i1 i2 a1 a2 i i .none) where
  mem := by simp
  obj := fun i h st b hb => by
    obtain ⟨hz, ti, ⟨x, y, to⟩, ⟨o1, e1, c1, d1⟩, o2, e2, c2, d2⟩ := st
    simp only [List.mem_cons, List.not_mem_nil, or_false] at hb
    rcases hb with rfl | rfl | rfl | rfl | rfl
    · exact ⟨_, hz, fun v q => by cases q⟩
    · exact ⟨_, ti, fun v q => by cases q⟩
    · exact ⟨_, to, fun v q => by cases q⟩
    · exact ⟨o1, e1, fun v q => by rw [d1] at q; cases q⟩
    · exact ⟨o2, e2, fun v q => by rw [d2] at q; cases q⟩
  keep := fun i h h' st k => by
    obtain ⟨hz, ti, ⟨x, y, to⟩, q1, q2⟩ := st
    exact ⟨k z (by simp) _ hz, k TI (by simp) _ ti, ⟨x, y, k TO (by simp) _ to⟩, q1.at fun o e => k i1 (by simp) o e, q2.at fun o e => k i2 (by simp) o e⟩
  item := by
    intro X hP hw hK hc i pins s σ H E I hf st hg
    subst hP hw hK
    obtain ⟨⟨hq1, hq2⟩, g1, g2⟩ := hg
    obtain ⟨its1, rv1, p1, _⟩ := I.tuple hq1
    obtain ⟨its2, rv2, p2, _⟩ := I.tuple hq2
    have hx : xs[i]? = some xs[i] := List.getElem?_eq_getElem g1
    have hy : ys[i]? = some ys[i] := List.getElem?_eq_getElem g2
    obtain ⟨u, hu, ru⟩ := rv1.get hx
    obtain ⟨v, hv, rv⟩ := rv2.get hy
    refine nextZ_item D st (show s.heap.IsTuple a1 its1.toArray from p1) (show s.heap.IsTuple a2 its2.toArray from p2) (x := u) (y := v) (by simpa using hu) (by simpa using hv) fun h' Z' hT hk => ?_
    refine ⟨_, rfl, wpAny_letOwnedTupleGo_zip Z'.hz fun h'' hz'' hs'' => ?_⟩
    have lt : ∀ {c o}, s.heap.get? c = some o → c < s.heap.objs.size := fun e => Heap.lt_size e
    have flt : ∀ c ∈ [z, TI, TO, i1, i2], c < s.heap.objs.size := fun c hc => by
      obtain ⟨hz, ti, ⟨_, _, to⟩, ⟨_, e1, _⟩, _, e2, _⟩ := st
      simp only [List.mem_cons, List.not_mem_nil, or_false] at hc
      rcases hc with rfl | rfl | rfl | rfl | rfl
      · exact lt hz
      · exact lt ti
      · exact lt to
      · exact lt e1
      · exact lt e2
    have hfr : H s.heap.objs.size = none := I.hok.fresh (Nat.le_refl _)
    have I1 : Inv X pins σ (upd H s.heap.objs.size (.tup [xs[i], ys[i]])) { s with heap := s.heap.push { cls := .type "tuple", data := .seq #[u, v] } } :=
      I.laid (t' := s.toks) (fun b o e => Heap.get?_push_of_some _ e) (Nat.le_refl _) ⟨Nat.le_trans (show 2 ≤ 20 by decide) (by decide), [u, v], .cons ru (.cons rv .nil), ⟨_, Heap.get?_push_size _ rfl, rfl, _, rfl⟩⟩
    have f1 : ∀ b ∈ [z, TI, TO, i1, i2], FpOk X pins (upd H s.heap.objs.size (.tup [xs[i], ys[i]])) b := fun b hb => ⟨by rw [upd_ne (Nat.ne_of_lt (flt b hb))]; exact (hf b hb).1, (hf b hb).2⟩
    have I2 := inv_turnedN (t' := s.toks) (h' := h'') I1 (fun b o hb eo => by
      have hbz : b ≠ z := fun e => hb (by simp [e])
      refine (hs''.2 b hbz).trans ?_
      by_cases hbs : b = s.heap.objs.size
      · subst hbs
        rw [Heap.get?_push_size _ rfl] at eo
        rw [← eo]; exact hT
      · have eo' : s.heap.get? b = some o := by
          rcases Heap.get?_push_cases eo with ⟨q, _⟩ | q
          · exact absurd q hbs
          · exact q
        exact hk b o hbz (fun e => hb (by simp [e])) (fun e => hb (by simp [e])) (fun e => hb (by simp [e])) eo') f1
    obtain ⟨_, ti', ⟨q1, q2, to'⟩, w1, w2⟩ := Z'
    exact ⟨.ref s.heap.objs.size, _, I2, rfl, ⟨_, _, _, hfr, hx, hy, rfl, rfl⟩, ⟨hz'', hs''.extBut _ _ D.TIz ti', ⟨q1, q2, hs''.extBut _ _ D.TOz to'⟩, w1.extBut hs''.extBut D.i1z, w2.extBut hs''.extBut D.i2z⟩, fun b hb => (f1 b hb).1⟩
  done := by
    intro X hP hw hK hc i pins s σ H E I hf st hg
    subst hP hw hK
    obtain ⟨⟨hq1, hq2⟩, g⟩ := hg
    obtain ⟨its1, rv1, p1, _⟩ := I.tuple hq1
    obtain ⟨its2, rv2, p2, _⟩ := I.tuple hq2
    have hl1 := rv1.length
    have hl2 := rv2.length
    refine nextZ_end (I.ok.hd hc) D st (show s.heap.IsTuple a1 its1.toArray from p1) (show s.heap.IsTuple a2 its2.toArray from p2) (g.imp (fun g => by simp; omega) fun g => by simp; omega) fun h' hk => ⟨rfl, inv_turnedN (t' := s.toks) I (fun b o hb eo => hk b o (fun e => hb (by simp [e])) (fun e => hb (by simp [e])) (fun e => hb (by simp [e])) (fun e => hb (by simp [e])) eo) hf⟩
  self := fun _ _ _ _ _ st h => wpAny_pyIter_zip st.hz h
section
variable {X : Cx} {elts : List Expr} {n : Nat} {tpos p pos : Pos} {e1 e2 : Expr} {f1 f2 : Sl → Res D}
def pairsD : List D → List D → List D
  | x :: xs, y :: ys => .tup [x, y] :: pairsD xs ys
  | _, _ => []
theorem pairsD_len : ∀ xs ys : List D, (pairsD xs ys).length = min xs.length ys.length
  | [], _ => by simp [pairsD]
  | _ :: _, [] => by simp [pairsD]
  | x :: xs, y :: ys => by simp [pairsD, pairsD_len xs ys]
theorem pairsD_get : ∀ (xs ys : List D) (i : Nat) (d : D), (pairsD xs ys)[i]? = some d → ∃ x y, xs[i]? = some x ∧ ys[i]? = some y ∧ d = .tup [x, y]
  | [], _, i, d, h => by simp [pairsD] at h
  | _ :: _, [], i, d, h => by simp [pairsD] at h
  | x :: xs, y :: ys, 0, d, h => by simp [pairsD] at h; exact ⟨x, y, rfl, rfl, h.symm⟩
  | x :: xs, y :: ys, i + 1, d, h => by
    simp only [pairsD, List.getElem?_cons_succ] at h ⊢
    exact pairsD_get xs ys i d h
def zipF (f1 f2 : Sl → Res D) : Sl → Res (List D) := fun env => f1 env >>= fun d => f2 env >>= fun e => match d, e with
  | .tup xs, .tup ys => .ok (pairsD xs ys)
  | _, _ => .stuck
theorem boot_zipG : bootBuiltins "zip" = some (.type "zip") := by decide +kernel

theorem di_zip (hg : Gl X "zip") (hm : X.mg "zip" = none) (h1 : DE X .s e1 f1) (h2 : DE X .s e2 f2) (hs : starEach [e1, e2] X.env = (false, eval e1 X.env) :: starEach [e2] X.env := by exact star_plain rfl) (hs2 : starEach [e2] X.env = (false, eval e2 X.env) :: starEach [] X.env := by exact star_plain rfl)
    (hpl : (backTo pos (starEach [e2] X.env)).any (·.1) = false := by exact any_plain rfl) : DI X (.Tuple elts n tpos) (.Call (.Name "zip" p) [e1, e2] [] pos) (zipF f1 f2) := by
  have hE1 : PE X e1 (tE X.K .s f1) := by with_unfolding_all exact h1
  have hE2 : PE X e2 (tE X.K .s f2) := by with_unfolding_all exact h2
  with_unfolding_all exact (show PI X (.Tuple elts n tpos) (.Call (.Name "zip" p) [e1, e2] [] pos) (tI X.K (zipF f1 f2)) from by
    intro pins s σ H R I ⟨G, H0, env, ds, k, ef, q⟩
    obtain ⟨d1, c1, ef⟩ := bind_inv ef
    obtain ⟨d2, c2, ef⟩ := bind_inv ef
    have hA := pa_cons hE1 (pa_cons hE2 pa_nil hs2) hs
    refine Call_ (ld_blt I hg hm boot_zipG (PyProof.Rows.callWith_type1 (thn (hA pos pins s σ H (fun vs H2 => ∃ v1 v2, vs = [v1, v2] ∧ Same H H2 ∧ Rep X.K (Sf G env σ) H2 v1 d1 ∧ Rep X.K (Sf G env σ) H2 v2 d2) I ⟨G, H0, env, d1, k, c1, fun v1 H1 s1 r1 _ => ⟨G, H0, env, d2, k.grow s1, c2, fun v2 H2 s2 r2 _ => ⟨v1, v2, rfl, s1.trans s2, r1.grow s2, r2⟩⟩⟩) fun us s1 ⟨vs, H1, I1, r1, v1, v2, ev, sm, rp1, rp2⟩ => ?_) hs hpl))
    subst ev
    obtain ⟨u1, u2, rfl, ru1, ru2⟩ := vals2 r1
    have k1 := k.grow sm
    split at ef
    · rename_i es1 es2
      cases ef
      obtain ⟨a1, xs, rfl, ha1, rs1⟩ := rp1.tupE
      obtain ⟨a2, ys, rfl, ha2, rs2⟩ := rp2.tupE
      cases ru1
      cases ru2
      obtain ⟨its1, rv1, p1, _⟩ := I1.tuple (.inl (.of ha1))
      obtain ⟨its2, rv2, p2, _⟩ := I1.tuple (.inl (.of ha2))
      have lt1 : a1 < s1.heap.objs.size := by obtain ⟨o, ho, _⟩ := p1; exact Heap.lt_size ho
      have lt2 : a2 < s1.heap.objs.size := by obtain ⟨o, ho, _⟩ := p2; exact Heap.lt_size ho
      refine call_zipT (show s1.heap.IsTuple a1 its1.toArray from p1) (show s1.heap.IsTuple a2 its2.toArray from p2) fun h' Z hk => wpAny_pyIter_zip Z.hz ?_
      have I2 : Inv X pins σ H1 { s1 with heap := h' } := I1.kept (t' := s1.toks) hk
      refine ⟨s1.heap.objs.size + 4, [s1.heap.objs.size + 4, s1.heap.objs.size + 2, s1.heap.objs.size + 3, s1.heap.objs.size, s1.heap.objs.size + 1], _, _, H1, rfl, I2, turn_zipT xs ys (PyProof.Rows.zipApart_new lt1 lt2), Z, fun b hb => ?_, ?_⟩
      · have hb' : s1.heap.objs.size ≤ b := by
          simp only [List.mem_cons, List.not_mem_nil, or_false] at hb
          rcases hb with rfl | rfl | rfl | rfl | rfl <;> first | exact Nat.le_add_right _ _ | exact Nat.le_refl _
        exact I1.fpOk hb' (I1.hok.fresh hb')
      · refine q _ H1 (fun H => H a1 = some (.tup xs) ∧ H a2 = some (.tup ys)) sm (fun i H' pp => ?_) ⟨ha1, ha2⟩ fun env' σ' H' fr => ⟨fr.keep a1 _ ha1 fun ow => (k1.mutO ow ha1).elim, fr.keep a2 _ ha2 fun ow => (k1.mutO ow ha2).elim⟩
        have hl1 := rs1.length
        have hl2 := rs2.length
        have hq : SqT X.K H' a1 xs ∧ SqT X.K H' a2 ys := ⟨.inl (.of pp.1), .inl (.of pp.2)⟩
        rw [pairsD_len]
        refine ⟨fun hi => ⟨hq, by omega, by omega⟩, fun d hd x H2 y => ?_, fun hi => ⟨hq, by omega⟩⟩
        obtain ⟨p, x', y', hp, hx', hy', rfl, rfl⟩ := y
        obtain ⟨dx, dy, hdx, hdy, rfl⟩ := pairsD_get _ _ _ _ hd
        obtain ⟨d', hd', rd⟩ := rs1.get' hx'
        obtain ⟨d'', hd'', rd'⟩ := rs2.get' hy'
        rw [hdx] at hd'; cases hd'
        rw [hdy] at hd''; cases hd''
        exact .inr ⟨p, _, _, hp, rfl, rfl, rfl, .cons rd (.cons rd' .nil)⟩
    · cases ef)
end
end M

set_option Elab.async false
set_option linter.all false
set_option maxRecDepth 100000
set_option maxHeartbeats 4000000
namespace M
open PySem PySem.Spec L2
open PyProof.Rows hiding St

section
variable {X : Cx} {pins : List (Addr × Obj)} {σ : L2.St} {H : Hp} {s : Shared} {a : Addr}
def Loose (X : Cx) (a : Addr) : Prop := (∀ xs, X.H₀ a ≠ some (.tup xs)) ∧ (∀ o u, X.H₀ a ≠ some (.frz o u)) ∧ ∀ ps, X.H₀ a ≠ some (.tbl ps)
theorem Inv.loose {kvs : List (Key × V)} (I : Inv X pins σ H s) (e : H a = some (.dK kvs)) : Loose X a := by
  refine ⟨fun xs z => ?_, fun o u z => ?_, fun ps z => ?_⟩
  · rw [I.base.tups _ _ z] at e; cases e
  · rw [I.base.frzs _ _ _ z] at e; cases e
  · obtain ⟨m, q⟩ := I.base.tbls _ _ z
    rw [q] at e; cases e
theorem Inv.swap {u u' : HO} (I : Inv X pins σ H s) (e : H a = some u) (l : Loose X a) (nt : ∀ xs, u ≠ .tup xs) (no : ∀ x, u ≠ .own x) (new : ObjOk X.prog X.w H s.heap a u') : Inv X pins σ (upd H a u') s := by
  have ne : ∀ b, H b = none → b ≠ a := fun b z w => by subst w; rw [e] at z; cases z
  have ho : ∀ c b, H c = some (.own b) → upd H a u' c = some (.own b) := fun c b q => by
    rw [upd_ne]; exact q
    intro z; subst z; rw [e] at q; cases q; exact no _ rfl
  have ht : ∀ c xs, H c = some (.tup xs) → upd H a u' c = some (.tup xs) := fun c xs q => by
    rw [upd_ne]; exact q
    intro z; subst z; rw [e] at q; cases q; exact nt _ rfl
  refine ⟨I.ok, I.os, I.bare, ⟨I.base.keep, I.base.slot, fun b o q n x => ?_, I.base.there, fun b xs q => ?_, fun b o v q => ?_, fun b ps q => ?_⟩, I.loc, I.cell, ?_, fun x c q => ?_, fun p hp => ?_, fun b v q => ?_, I.len⟩
  · have z := I.base.free b o q n x
    rw [upd_ne (ne b z)]; exact z
  · exact ht b xs (I.base.tups b xs q)
  · rw [upd_ne (fun z => by subst z; exact l.2.1 _ _ q)]; exact I.base.frzs b o v q
  · rw [upd_ne (fun z => by subst z; exact l.2.2 _ q)]; exact I.base.tbls b ps q
  · rw [upd_ne (ne _ I.free)]; exact I.free
  · rw [upd_ne (ne _ (I.freeC x c q))]; exact I.freeC x c q
  · obtain ⟨p1, p2, p3⟩ := I.pin p hp
    exact ⟨p1, by rw [upd_ne (ne _ p2)]; exact p2, p3⟩
  · by_cases hb : b = a
    · subst hb; rw [upd_same] at q; cases q
      exact new.stay (fun _ _ _ z => z) (fun c z => ho c _ z) ht
    · rw [upd_ne hb] at q
      exact (I.hok b v q).stay (fun _ _ _ z => z) (fun c z => ho c _ z) ht
theorem Inv.freeze {kvs : List (Key × V)} {o : Obj} (I : Inv X pins σ H s) (e : H a = some (.dK kvs)) (ho : s.heap.get? a = some o) : Inv X pins σ (upd H a (.frz o (.dK kvs))) s :=
  Inv.swap I e (Inv.loose I e) (fun _ z => by cases z) (fun _ z => by cases z) ⟨ho, I.hok a _ e⟩
theorem Inv.thaw {kvs : List (Key × V)} {o : Obj} (I : Inv X pins σ H s) (e : H a = some (.frz o (.dK kvs))) (l : Loose X a) : Inv X pins σ (upd H a (.dK kvs)) s :=
  Inv.swap I e l (fun _ z => by cases z) (fun _ z => by cases z) (I.hok a _ e).2
end
def ItK (a : Addr) (o : Obj) (kvs : List (Key × V)) : It :=
  ⟨fun i H => H a = some (.frz o (.dK kvs)) ∧ i < kvs.length, fun i H x H' => H' = H ∧ ∃ k v, kvs[i]? = some (k, v) ∧ x = kV k, fun i H => H a = some (.frz o (.dK kvs)) ∧ kvs.length ≤ i⟩
theorem kV_rel {P : Program} {w : World} {k : Key} {u : Value} (h : (mixKind P w).is k u = true) : RelV (kV k) u := by
  rcases keyIs_shape (show keyIs k u = true from h) with ⟨i, t, rfl, rfl⟩ | ⟨x, t, rfl, rfl⟩
  · exact ⟨t, rfl⟩
  · exact ⟨t, rfl⟩
theorem KV.get {kvs : List (Key × V)} {vs : List (Key × Value)} (r : KV kvs vs) : ∀ {i : Nat} {k : Key} {v : V}, kvs[i]? = some (k, v) → ∃ u, vs[i]? = some (k, u) := by
  unfold KV at r
  induction r with
  | nil => intro i k v h; simp at h
  | @cons p q _ _ h t ih =>
    intro i k v e
    cases i with
    | zero =>
      obtain ⟨q1, q2⟩ := q
      have e' : p = (k, v) := by simpa using e
      subst e'
      have h1 : k = q1 := h.1
      subst h1
      exact ⟨q2, rfl⟩
    | succ i => simpa using ih (by simpa using e)
section
variable {P : Program} {w : World} {K : PySem.W.Frag} {tg : Expr}
theorem dict_at {h : Heap} {H : Hp} {a : Addr} {o : Obj} {kvs : List (Key × V)} {ep : Nat} (hep : ∀ es e, o.data = .dict es e → e = ep) (x : ObjOk P w H h a (.frz o (.dK kvs))) : ∃ vs, KV kvs vs ∧ h.DictAt (mixKind P w) a vs ep := by
  obtain ⟨ho, _, _, vs, r, o', es, e, ho', hx, hd, hr⟩ := x
  rw [ho] at ho'; cases ho'
  have := hep _ _ hd
  subst this
  exact ⟨vs, r, o, es, ho, hx, hd, hr⟩
theorem turn_keys (a it : Addr) (o : Obj) (kvs : List (Key × V)) (ep : Nat) (hep : ∀ es e, o.data = .dict es e → e = ep) : Turn P w K tg (ItK a o kvs) [it] it (fun i h => h.IsKeyIter it a i kvs.length ep) where
  mem := by simp
  obj := fun i h st b hb => by
    have e : b = it := by simpa using hb
    subst e
    obtain ⟨o, e, c, d⟩ := st
    exact ⟨o, e, fun v z => by rw [d] at z; cases z⟩
  keep := fun i h h' st k => st.at fun o e => k it (by simp) o e
  item := by
    intro X hP hw hK hc i pins s σ H E I hf st hg
    subst hP hw hK
    obtain ⟨hq, hi⟩ := hg
    obtain ⟨vs, rv, da⟩ := dict_at hep (I.hok a _ hq)
    have hl := KV.length rv
    obtain ⟨u, hu⟩ := KV.get rv (show kvs[i]? = some (kvs[i].1, kvs[i].2) by simp [hi])
    obtain ⟨f0, f1, f2, f3, f4, f5⟩ := hf it (by simp)
    rw [hl] at st
    refine wpAny_pyNext_dict_item st da hu fun key h' hk st' sb => ?_
    have I1 : Inv X pins σ H { s with heap := h' } := I.turned (t' := s.toks) (fun b o hb e => (sb.2 b hb).trans e) f0 f1 f3 f4 f5
    rw [← hl] at st'
    obtain ⟨o2, e, c, d⟩ := id st'
    exact ⟨key, rfl, go_of (s := { s with heap := h' }) e c d (by decide) ⟨kV kvs[i].1, H, I1, kV_rel hk, ⟨rfl, kvs[i].1, kvs[i].2, by simp [hi], rfl⟩, st', fun b hb => (hf b hb).1⟩⟩
  done := by
    intro X hP hw hK hc i pins s σ H E I hf st hg
    subst hP hw hK
    obtain ⟨hq, hi⟩ := hg
    obtain ⟨vs, rv, da⟩ := dict_at hep (I.hok a _ hq)
    have hl := KV.length rv
    obtain ⟨f0, f1, f2, f3, f4, f5⟩ := hf it (by simp)
    rw [hl] at st
    exact wpAny_pyNext_dict_end (I.ok.hd hc) st da (by simp; omega) fun h' eb => ⟨rfl, I.turned (t' := s.toks) (fun b o hb e => eb b o hb e) f0 f1 f3 f4 f5⟩
  self := fun _ _ _ _ _ st h => wpAny_pyIter_keyiter st h
end
section
variable {X : Cx} {tg : Expr}
def iKeys (tl : TE) : TI := fun σ H R => tl σ H fun x H1 => ∃ a kvs, x = .ref a ∧ H1 a = some (.dK kvs) ∧ ∀ o, R (ItK a o kvs) (upd H1 a (.frz o (.dK kvs)))
theorem pi_keys {l : Expr} {tl : TE} (hl : PE X l tl) : PI X tg l (iKeys tl) := by
  intro pins s σ H R I h
  refine thn (hl pins s σ H _ I h) fun v s1 ⟨x, H1, I1, r1, q1⟩ => ?_
  obtain ⟨a, kvs, e, hq, q⟩ := q1
  subst e
  cases r1
  obtain ⟨zl, hs, vs, rv, dd⟩ := I1.hok a _ hq
  obtain ⟨o, es, ep, ho, hx, hd, hr⟩ := id dd
  have da : s1.heap.DictAt (mixKind X.prog X.w) a vs ep := ⟨o, es, ho, hx, hd, hr⟩
  have hl := KV.length rv
  refine wpAny_pyIter_dict hs da ?_
  have I2 := Inv.freeze I1 hq ho
  refine ⟨s1.heap.objs.size, [s1.heap.objs.size], _, _, _, rfl, I2.kept (t' := s1.toks) fun b o e => Heap.get?_push_of_some _ e, turn_keys a _ o kvs ep (fun es' e' z => by rw [hd] at z; cases z; rfl), ⟨_, Heap.get?_push_size _ rfl, rfl, by rw [hl]; rfl⟩, fun b hb => ?_, q o⟩
  have e : b = s1.heap.objs.size := by simpa using hb
  subst e
  exact I2.fpOk (Nat.le_refl _) (I2.hok.fresh (Nat.le_refl _))
def thawE (a : Addr) (kvs : List (Key × V)) (E : Ends) : Ends := ⟨fun σ H => (∃ o, H a = some (.frz o (.dK kvs))) ∧ E.nx σ (upd H a (.dK kvs)), fun v H => (∃ o, H a = some (.frz o (.dK kvs))) ∧ E.rt v (upd H a (.dK kvs)), fun _ _ => False, fun _ _ => False⟩
theorem ps_thaw {st : Stmt} {t : TS} (h : PS X st t) : PS X st (fun E σ H => ∃ a kvs, H a = some (.dK kvs) ∧ t (thawE a kvs E) σ H) := by
  intro pins s σ H E I ⟨a, kvs, e, q⟩
  have l := Inv.loose I e
  refine thn (h pins s σ H _ I q) fun f s1 q1 => ?_
  cases f with
  | next => obtain ⟨σ', H', I', ⟨o, e'⟩, q'⟩ := q1; exact ⟨σ', _, Inv.thaw I' e' l, q'⟩
  | brk => obtain ⟨σ', H', I', q'⟩ := q1; exact q'.elim
  | cont => obtain ⟨σ', H', I', q'⟩ := q1; exact q'.elim
  | ret u => obtain ⟨v, σ', H', I', r, ⟨o, e'⟩, q'⟩ := q1; exact ⟨v, σ', _, Inv.thaw I' e' l, r, q'⟩
end
end M

set_option Elab.async false
set_option linter.all false
set_option maxRecDepth 100000
set_option maxHeartbeats 4000000
namespace M
open PySem PySem.Spec L2
open PyProof.Rows hiding St

def isI : Key → Bool
  | .inl _ => true
  | .inr _ => false
def allI (ks : List Key) : Bool := ks.all isI
def lendS : Slot → Slot
  | .shr (.dic ks ds) => if D.imms ds = true then .shr (.fdc ks ds) else .un
  | .own (.dic ks ds) => if D.imms ds = true then .shr (.fdc ks ds) else .un
  | .shr d => if d.imm = true then .shr d else .un
  | _ => .un
def lend (env : Sl) : Sl := env.map lendS
theorem lendS_inv {s : Slot} {d : D} (h : lendS s = .shr d) : (s = .shr d ∧ d.imm = true) ∨ (∃ ks ds, d = .fdc ks ds ∧ D.imms ds = true ∧ (s = .shr (.dic ks ds) ∨ s = .own (.dic ks ds))) := by
  unfold lendS at h
  split at h
  · split at h
    · rename_i hi; cases h; exact .inr ⟨_, _, rfl, hi, .inl rfl⟩
    · cases h
  · split at h
    · rename_i hi; cases h; exact .inr ⟨_, _, rfl, hi, .inr rfl⟩
    · cases h
  · split at h
    · rename_i hi; cases h; exact .inl ⟨rfl, hi⟩
    · cases h
  · cases h
theorem lendS_own {s : Slot} {d : D} : lendS s ≠ .own d := by
  unfold lendS
  split
  · split <;> (intro h; cases h)
  · split <;> (intro h; cases h)
  · split <;> (intro h; cases h)
  · intro h; cases h
section
variable {K : PySem.W.Frag} {G : Addr → Prop} {H0 H : Hp} {env : Sl} {σ : L2.St} {a : Addr} {kvs : List (Key × V)}
theorem lend_own {i : Nat} {d : D} : (lend env)[i]? ≠ some (.own d) := by
  intro h
  unfold lend at h
  rw [List.getElem?_map] at h
  cases e : env[i]? with
  | none => rw [e] at h; cases h
  | some s => rw [e] at h; exact lendS_own (Option.some.inj h)
theorem Rep.held {A A' : Addr → Prop} {v : V} {d : D} {o : Obj} (r : Rep K A H v d) (hi : d.imm = true) (e : H a = some (.dK kvs)) : Rep K A' (upd H a (.frz o (.dK kvs))) v d :=
  (r.imm (A' := fun _ => False) hi).stay (fun b ob q m => by
    rw [upd_ne]; exact q
    intro z; subst z; rw [e] at q; cases q; exact m trivial) fun _ z => z.elim
theorem Reps.held {A A' : Addr → Prop} {v : List V} {d : List D} {o : Obj} (r : Reps K A H v d) (hi : D.imms d = true) (e : H a = some (.dK kvs)) : Reps K A' (upd H a (.frz o (.dK kvs))) v d :=
  (r.imm (A' := fun _ => False) hi).stay (fun b ob q m => by
    rw [upd_ne]; exact q
    intro z; subst z; rw [e] at q; cases q; exact m trivial) fun _ z => z.elim
theorem EnvOk.lend (k : EnvOk K G H0 env σ H) (e : H a = some (.dK kvs)) (o : Obj) : EnvOk K (fun _ => True) (upd H a (.frz o (.dK kvs))) (lend env) σ (upd H a (.frz o (.dK kvs))) where
  len := by rw [k.len]; simp [M.lend]
  base := Same.refl _
  g0 := fun _ _ => trivial
  shr := fun i d h => by
    have hA : ∀ c, Sf (fun _ => True) (M.lend env) σ c := fun c => ⟨fun ⟨j, d', z, _⟩ => lend_own z, trivial⟩
    have h' := h
    unfold M.lend at h'
    rw [List.getElem?_map] at h'
    cases es : env[i]? with
    | none => rw [es] at h'; cases h'
    | some s =>
      rw [es] at h'
      rcases lendS_inv (Option.some.inj h') with ⟨rfl, hi⟩ | ⟨ks, ds, rfl, hi, rfl | rfl⟩
      · obtain ⟨v, e1, r⟩ := k.shr i d es
        exact ⟨v, e1, r.held hi e⟩
      · obtain ⟨v, e1, r⟩ := k.shr i _ es
        obtain ⟨p, kv, rfl, hp, _, hk, rs⟩ := r.dicE
        refine ⟨_, e1, .fdc (kvs := kv) ?_ hk rfl (rs.held hi e)⟩
        by_cases hpa : p = a
        · subst hpa; rw [e] at hp; cases hp; exact .inr ⟨o, upd_same⟩
        · exact .inl ⟨by rw [upd_ne hpa]; exact hp, hA p⟩
      · obtain ⟨p, e1, _, t⟩ := k.own i _ es
        cases t with
        | @dic kv vs _ _ hp hk hv rs =>
        refine ⟨_, e1, .fdc (kvs := kv) ?_ hk hv (rs.held hi e)⟩
        by_cases hpa : p = a
        · subst hpa; rw [e] at hp; cases hp; exact .inr ⟨o, upd_same⟩
        · exact .inl ⟨by rw [upd_ne hpa]; exact hp, hA p⟩
  own := fun i d h => absurd h lend_own
  dis := fun i j d e' a' h => absurd h lend_own
theorem thaw_same {H2 : Hp} {o : Obj} (e : H a = some (.dK kvs)) (s : Same (upd H a (.frz o (.dK kvs))) H2) : Same H (upd H2 a (.dK kvs)) := fun b u q => by
  by_cases hb : b = a
  · subst hb; rw [e] at q; cases q; exact upd_same
  · rw [upd_ne hb]; exact s b u (by rw [upd_ne hb]; exact q)
end
def tKb (K : PySem.W.Frag) (g : Sl → Res (Option Bool)) : TS := fun E σ H => ∃ G H0 env o, EnvOk K G H0 env σ H ∧ g env = .ok o ∧ match o with
  | none => ∀ H', Same H H' → E.nx σ H'
  | some b => ∀ H', Same H H' → E.rt (.bl b) H'
@[irreducible] def DB (X : Cx) (body : List Stmt) (g : Sl → Res (Option Bool)) : Prop := PSs X body (tKb X.K g)
section
variable {X : Cx} {e c : Expr} {l : Lv} {f : Sl → Res D} {pos pj pi rp cp : Pos} {g : Sl → Res (Option Bool)} {t : Sl → Res Bool}
def exprB (f : Sl → Res D) : Sl → Res (Option Bool) := fun env => f env >>= fun _ => .ok none
theorem db_expr (h : DE X l e f) (hs : swapsWith e none pos.line X.env = pure false := by rfl) : DB X [.Expr e pos] (exprB f) := by
 with_unfolding_all exact (PSs.imp (pss_one (ps_expr h hs)) fun E σ H ⟨G, H0, env, o, k, ef, q⟩ => by
  obtain ⟨d, e1, e2⟩ := bind_inv ef
  cases e2
  exact ⟨G, H0, env, d, k, e1, fun v H' s r _ => q H' s⟩)
def ifB (t : Sl → Res Bool) (b : Bool) : Sl → Res (Option Bool) := fun env => t env >>= fun r => .ok (if r = true then some b else none)
def goK (g : Sl → Res (Option Bool)) (j : Nat) : List Key → Sl → Res (Option Bool)
  | [], _ => .ok none
  | k :: ks, env => g (env.set j (.shr (kD k))) >>= fun r => match r with
    | some b => .ok (some b)
    | none => goK g j ks env
def dicAt (i : Nat) (env : Sl) : Res (List Key) := match env[i]? with
  | some (.shr (.dic ks _)) => .ok ks
  | some (.own (.dic ks _)) => .ok ks
  | _ => .stuck
def endK (j : Nat) (ks : List Key) (env : Sl) : Option Bool → Res Out
  | some b => .ok (.rt true (.bl b))
  | none => .ok (.nx (match ks.getLast? with
    | none => env
    | some k => env.set j (.shr (kD k))))
def forK (i j : Nat) (g : Sl → Res (Option Bool)) : Sl → Res Out := fun env => dicAt i env >>= fun ks => must (allI ks = true) (goK g j ks (lend env) >>= endK j ks env)
theorem dicAt_inv {K : PySem.W.Frag} {G : Addr → Prop} {H0 H : Hp} {env : Sl} {σ : L2.St} {i : Nat} {ks : List Key} (k : EnvOk K G H0 env σ H) (h : dicAt i env = .ok ks) : ∃ a kvs, σ[i]? = some (some (.ref a)) ∧ H a = some (.dK kvs) ∧ kvs.map (·.1) = ks := by
  unfold dicAt at h
  split at h
  · rename_i ks' ds es
    cases h
    obtain ⟨v, e1, r⟩ := k.shr i _ es
    obtain ⟨p, kv, rfl, hp, _, hk, rs⟩ := r.dicE
    exact ⟨p, kv, e1, hp, hk⟩
  · rename_i ks' ds es
    cases h
    obtain ⟨p, e1, _, t⟩ := k.own i _ es
    cases t with
    | dic hp hk hv rs => exact ⟨p, _, e1, hp, hk⟩
  · cases h
theorem kD_rep {K : PySem.W.Frag} {A : Addr → Prop} {H : Hp} {k : Key} (h : isI k = true) : Rep K A H (kV k) (kD k) := by
  cases k with
  | inl i => exact .int i
  | inr x => cases h
theorem ds_forK (i j : Nat) {xi xj : Str} {body : List Stmt} (hp : PassesOwn (model X.prog X.w) X.A X.env X.xe) (hc : X.calm = true) (hN : X.N.Nodup) (hb : DB X body g)
    (hi : X.N[i]? = some xi := by rfl) (hv : Vis X.env.scope xi := by first | exact Or.inl rfl | exact Or.inr (Or.inl rfl) | exact Or.inr (Or.inr rfl))
    (hd : (xi == ("__debug__" : Str)) = false := by decide) (hcd : (xi == ("__classdict__" : Str)) = false := by decide)
    (hj : X.N[j]? = some xj := by rfl) (hx : Loc X.env.scope xj := by first | exact Or.inl rfl | exact Or.inr rfl)
    (hf : X.fn xj = true ∨ X.env.scope.names.lookup xj = some .local := by first | exact .inl rfl | exact .inr rfl | assumption)
    (hs : ∀ x, foldedSetIterable (.Name xi pi) X.env x = pure x := by intro _; rfl) : DS X (.For (.Name xj pj) (.Name xi pi) body [] pos) (forK i j g) := by
 with_unfolding_all exact (
  PS.imp (ps_thaw (ps_for hp hc (pi_keys (pe_var (i := i) hi hv hd hcd)) (pg_name (i := j) hN hj hx hf) hb hs)) fun E σ H ⟨G, H0, env, out, k, ef, q⟩ => by
    obtain ⟨ks, e1, e2⟩ := bind_inv ef
    obtain ⟨hall, e3⟩ := must_inv e2
    obtain ⟨r, e4, e5⟩ := bind_inv e3
    obtain ⟨a, kvs, hσ, ha, hks⟩ := dicAt_inv k e1
    subst hks
    have hal : ∀ (n : Nat) (k : Key) (v : V), kvs[n]? = some (k, v) → isI k = true := fun n k v z => by
      unfold allI at hall
      rw [List.all_eq_true] at hall
      exact hall k (List.mem_map.mpr ⟨(k, v), List.mem_of_getElem? z, rfl⟩)
    refine ⟨a, kvs, ha, .ref a, hσ, a, kvs, rfl, ha, fun o => ?_⟩
    have kl := k.lend ha o
    refine ⟨fun n m σ' H' => m = kvs.length - n ∧ n ≤ kvs.length ∧ Same (upd H a (.frz o (.dK kvs))) H' ∧ ((n = 0 ∧ σ' = σ) ∨ ∃ kk v, n ≠ 0 ∧ kvs[n - 1]? = some (kk, v) ∧ σ' = σ.set j (some (kV kk))) ∧ goK g j ((kvs.map (·.1)).drop n) (lend env) = .ok r,
      ⟨kvs.length, by simp, Nat.zero_le _, Same.refl _, .inl ⟨rfl, rfl⟩, by simpa using e4⟩, ?_⟩
    rintro n m σ' H' ⟨rfl, hn, sm, hs', hgo⟩
    have hfz : H' a = some (.frz o (.dK kvs)) := sm a _ upd_same
    have hset : ∀ v, σ'.set j v = σ.set j v := fun v => by
      rcases hs' with ⟨_, rfl⟩ | ⟨_, _, _, _, rfl⟩
      · rfl
      · rw [List.set_set]
    by_cases hlt : n < kvs.length
    · have hget : kvs[n]? = some (kvs[n].1, kvs[n].2) := by simp [hlt]
      have hdrop : (kvs.map (·.1)).drop n = kvs[n].1 :: (kvs.map (·.1)).drop (n + 1) := by
        rw [List.drop_eq_getElem_cons (by simpa using hlt)]; simp
      rw [hdrop] at hgo
      obtain ⟨ro, g1, g2⟩ := bind_inv hgo
      refine .inr ⟨⟨hfz, hlt⟩, fun σ2 H2 => Same (upd H a (.frz o (.dK kvs))) H2 ∧ σ2 = σ.set j (some (kV kvs[n].1)) ∧ goK g j ((kvs.map (·.1)).drop (n + 1)) (lend env) = .ok r,
        fun σ2 H2 ⟨z1, z2, z3⟩ => ⟨kvs.length - (n + 1), by omega, rfl, hlt, z1, .inr ⟨kvs[n].1, kvs[n].2, by omega, by simpa using hget, z2⟩, z3⟩, fun x H2 ⟨y1, kk, v, y2, y3⟩ => ?_⟩
      subst y1 y3
      rw [hget] at y2
      cases y2
      show tKb X.K g _ (σ'.set j (some (kV kvs[n].1))) H2
      rw [hset]
      refine ⟨_, _, (lend env).set j (.shr (kD kvs[n].1)), ro, (kl.grow sm).setS (kD_rep (hal _ _ _ hget)), g1, ?_⟩
      cases ro with
      | none => exact fun H3 s3 => ⟨sm.trans s3, rfl, g2⟩
      | some b =>
        cases g2
        cases e5
        intro H3 s3
        exact ⟨⟨o, s3 _ _ hfz⟩, q (.bl b) _ (k.base.trans (thaw_same ha (sm.trans s3))) (.bl b) (fun _ z zz => by cases zz)⟩
    · have hne : n = kvs.length := by omega
      subst hne
      rw [List.drop_eq_nil_of_le (by simp)] at hgo
      cases hgo
      cases e5
      have sH := thaw_same ha sm
      refine .inl ⟨⟨hfz, Nat.le_refl _⟩, ⟨o, hfz⟩, ?_⟩
      rcases hs' with ⟨h0, rfl⟩ | ⟨kk, v, h0, hl, rfl⟩
      · have hnil : kvs = [] := List.eq_nil_of_length_eq_zero h0
        subst hnil
        exact q _ _ (k.grow sH) (Frm.refl sH)
      · have hlast : (kvs.map (·.1)).getLast? = some kk := by
          rw [List.getLast?_eq_getElem?, List.getElem?_map, List.length_map, hl]; rfl
        rw [hlast] at q
        exact q _ _ ((k.grow sH).setS (kD_rep (hal _ _ _ hl))) (.set sH fun _ _ z _ => by cases z))
end
end M

set_option Elab.async false
set_option linter.all false
set_option maxRecDepth 100000
set_option maxHeartbeats 4000000
namespace M
open PySem PySem.Spec L2
open PyProof.Rows hiding St

section
variable {X : Cx}
def getF : D → D → Res D
  | .fdc ks ds, kd => match keyD kd with
    | some k => match valD ks ds k with
      | some d => .ok d
      | none => .stuck
    | none => .stuck
  | _, _ => .stuck
def rGetF : R2 := fun x y H Q => ∃ a kvs k v, x = .ref a ∧ y = kV k ∧ Rd H a (.dK kvs) ∧ valV kvs k = some v ∧ Q v H
theorem ix_dictF (hu : X.A.units + 1 < cLine) : IxR X rGetF := by
  intro value slice pins s σ H x y v u Q I rx ry h hs
  obtain ⟨a, kvs, k, z, rfl, rfl, ha, hv, q⟩ := h
  obtain rfl : v = Value.ref a := rx
  have g : DGet H a (kV k) (some z) := by rw [← hv]; exact .inl ⟨kvs, k, ha, rfl, rfl⟩
  exact tail_any (dict_typeIs I g) PySem.F.slot_dict_getitem.lookup (d_getItem hu I g ry fun w' s' I' rw' => ⟨z, H, I', rw', q⟩) hs
theorem og_getF {A : Addr → Prop} {x y : V} {H : Hp} {a b d : D} {Q : VK} {K : PySem.W.Frag} (ra : Rep K A H x a) (rb : Rep K Any H y b) (h : getF a b = .ok d) (q : ∀ v, Rep K A H v d → Q v H) : rGetF x y H Q := by
  unfold getF at h
  split at h
  · split at h
    · rename_i k hk
      split at h
      · rename_i d' hd
        cases h
        cases ra with
        | @fdc _ _ a kvs _ _ _ ha k1 k2 r =>
          subst k1 k2
          obtain ⟨v, h1, h2⟩ := (rep_val (K := K) k r.low).1 _ hd
          exact ⟨a, kvs, k, v, rfl, keyD_kV rb hk, ha.elim (fun z => .inl z.1) .inr, h1, q v h2⟩
      · cases h
    · cases h
  · cases h
theorem de_getF {a b : Expr} {f1 f2 : Sl → Res D} {l2 : Lv} {pos : Pos} (hu : X.A.units + 1 < cLine) (ha : DE X .s a f1) (hb : DE X l2 b f2) (hs : PlainIx b := by intro _ _; rfl) : DE X .s (.Subscript a b pos) (two f1 f2 getF) := by
 with_unfolding_all exact (
  PE.imp (pe_ix (ix_dictF hu) ha hb hs) fun σ H Q ⟨G, H0, env, d, k, ef, q⟩ => by
    obtain ⟨a', e1, ef⟩ := bind_inv ef
    obtain ⟨b', e2, e3⟩ := bind_inv ef
    refine ⟨G, H0, env, a', k, e1, fun x H1 s1 r1 _ => ⟨G, H0, env, b', k.grow s1, e2, fun y H2 s2 r2 _ => ?_⟩⟩
    exact og_getF (r1.grow s2) (r2.weak Lv.weak_b) e3 fun v r3 => q v H2 (s1.trans s2) r3 trivial)
theorem call_intB : CallR X (.type "int") (fun xs H Q => ∃ b, xs = [.bl b] ∧ Q (.int (if b = true then 1 else 0)) H) := by
  intro pins s σ H xs us Q I r ⟨b, ex, q⟩
  subst ex
  obtain ⟨u, rfl, r1⟩ : ∃ u, us = [u] ∧ RelV (.bl b) u := by
    cases r with | cons h t => cases t; exact ⟨_, rfl, h⟩
  cases r1
  exact call_int_bool ⟨.int _, H, I.tok _, ⟨_, rfl⟩, q⟩
def intBD : List D → Res D
  | [.bl b] => .ok (.int (if b = true then 1 else 0))
  | _ => .stuck
theorem cd_intB {K : PySem.W.Frag} : CallD K (fun xs H Q => ∃ b, xs = [V.bl b] ∧ Q (.int (if b = true then 1 else 0)) H) intBD := by
  intro A xs H ds d Q r e q
  unfold intBD at e
  split at e
  · cases e
    obtain ⟨v, rfl, r1⟩ := r.one
    exact ⟨_, by rw [r1.blE], q _ H (Same.refl H) (.int _) (sc_top (sc_int (K := K) _))⟩
  · cases e
def clearK (i : Nat) : Sl → Res Out := fun env => ownK i env >>= fun _ => .ok (.nx (env.set i (.own (.dic [] []))))
def disp1 (fk fv : Sl → Res D) : Sl → Res D := fun env => fk env >>= fun kd => fv env >>= fun d => match keyD kd with
  | some k => must (d.imm = true) (.ok (.dic [k] [d]))
  | none => .stuck
def slS : D → Option Int → Option Int → Res D
  | .scr ds, lo, hi => .ok (.lst (cutD ds lo hi))
  | _, _, _ => .stuck
theorem de_sliceS {e : Expr} {lo hi : Option Expr} {p2 pos : Pos} {f : Sl → Res D} {fl fh : Sl → Res (Option Int)} (he : DE X .s e f) (hl : DO X lo fl) (hh : DO X hi fh) :
    DE X .t (.Subscript e (.Slice lo hi none p2) pos) (slice3 f fl fh slS) := by
 with_unfolding_all exact (
  PE.imp (pe_slice sl_list he hl hh) fun σ H Q ⟨G, H0, env, d, k, ef, q⟩ => by
    obtain ⟨a, e1, ef⟩ := bind_inv ef
    obtain ⟨lo', e2, ef⟩ := bind_inv ef
    obtain ⟨hi', e3, e4⟩ := bind_inv ef
    refine ⟨G, H0, env, a, k, e1, fun x H1 s1 r1 _ => ⟨G, H0, env, lo', k.grow s1, e2, fun H2 s2 => ⟨G, H0, env, hi', (k.grow s1).grow s2, e3, fun H3 s3 => ?_⟩⟩⟩
    have sm := s1.trans (s2.trans s3)
    cases a with
    | scr ds =>
      cases e4
      obtain ⟨b, xs, rfl, hb, rs⟩ := ((r1.grow s2).grow s3).scrE
      refine ⟨b, xs, rfl, hb.sql, fun p hp => q _ _ (sm.trans (Same.upd hp)) (.lst upd_same (k.new p (Same.free sm hp)) (((cut_rep rs).laid hp).weak fun c z => ⟨z.1, z.2⟩)) ((new_top (Same.refl H3) hp).grow sm)⟩
    | _ => cases e4)
def rCatS (K : PySem.W.Frag) : R2 := fun x y H Q => ∃ l b xs zs, x = .ref l ∧ y = .ref b ∧ SqL K H l xs ∧ SqL K H b zs ∧ xs.length + zs.length ≤ sizeLine ∧ ∀ p, H p = none → Q (.ref p) (upd H p (.lst (xs ++ zs)))
theorem op_catS : OpR X (binaryOp .Add) (rCatS X.K) := by
  intro pins s σ H x y v u Q I rx ry h
  obtain ⟨l, b, xs, zs, rfl, rfl, hH, hB, hz, q⟩ := h
  cases rx
  cases ry
  obtain ⟨its, r, ⟨⟨c1, d1, dt1, sl1⟩, n1, g1, p1, p2, p3⟩, z1⟩ := I.list hH
  obtain ⟨its2, r2, ⟨⟨c2, d2, dt2, sl2⟩, n2, g2, p4, p5, p6⟩, z2⟩ := I.list hB
  simp only at p1 p2 p3 p4 p5 p6
  subst p1 p2 p3 p4 p5 p6
  have hl := r.length
  have hl2 := r2.length
  refine concat_meets ⟨_, g1, rfl⟩ ⟨_, g2, rfl⟩ noFill_list_add seq_list_add F.slot_list_add F.entry_list_add (F.args_list_add_2 _ _) (list_addW l b its.toArray its2.toArray n1 n2 none none sl1 sl2 (by rw [List.size_toArray, List.size_toArray]; omega)) ⟨g1, g2, ?_⟩
  have ea : its.toArray ++ its2.toArray = (its ++ its2).toArray := by simp
  rw [ea]
  exact ⟨.ref _, _, I.lnew (t' := s.toks) (r.append r2) (by rw [List.length_append]; omega), rfl, q _ I.fresh⟩
def addS : D → D → Res D
  | .scr a, .lst b => must (a.length + b.length ≤ sizeLine) (.ok (.lst (a ++ b)))
  | _, _ => .stuck
theorem od_addS {K : PySem.W.Frag} : OpD K (rCatS K) addS := by
  intro A x y H a b d Q ra rb e q
  unfold addS at e
  split at e
  · obtain ⟨h3, h4⟩ := must_inv e
    cases h4
    obtain ⟨l, xs, rfl, hl, rx⟩ := ra.scrE
    obtain ⟨l', ys, rfl, hl', _, ry⟩ := rb.lstE
    refine ⟨l, l', xs, ys, rfl, rfl, hl.sql, .of hl', rx.len_app ry.low h3, fun p hp => q _ _ (Same.upd hp) ?_ (new_top (Same.refl H) hp)⟩
    exact .lst upd_same (.inl hp) (((rx.append ry.low).laid hp).weak fun c z => ⟨.inr z.1, z.2⟩)
  · cases e
def CDivW (i j : Int) : Prop := 0 < j ∧ j < 2 ^ 200
theorem op_fdivW : OpR X (binaryOp .FloorDiv) (rI CDivW fun i j => .int (i / j)) := opI fun i j _ _ _ _ _ hc q => by
  have h1 : (0 : Int) < j := hc.1
  have h2 : j < 2 ^ 200 := hc.2
  refine floordiv_int (by omega) (by rw [Int.fdiv_eq_ediv_of_nonneg i (by omega)]; exact q) (.inl (PyProof.noPylong_of_log2 ?_))
  have h3 : j.natAbs < 2 ^ 200 := by omega
  exact Nat.lt_of_lt_of_le ((Nat.log2_lt (by omega)).mpr h3) (by omega)
abbrev DivW : Int → Int → Prop := fun _ j => 0 < j ∧ j < 2 ^ 200
theorem od_fdivW {K : PySem.W.Frag} : OpS K (rI CDivW fun i j => .int (i / j)) (iOp DivW fun i j => .int (i / j)) := od_I (fun _ _ h => h) fun i j => sc_int _
abbrev divW := iOp DivW fun i j => .int (i / j)
theorem isTy_dict : IsTy "dict" := isTy_of fun K => ⟨rfl, rfl, rfl, rfl, rfl, rfl, rfl⟩
end
section
variable {prog : Program} {w : World} {A : Around} {E : Value → Shared → Prop}
variable {s : Shared}
end
section
variable {X : Cx}
def gLst (K : PySem.W.Frag) (n : Nat) (t : TGs) : TG := fun v σ H Q => ∃ a xs, v = .ref a ∧ SqL K H a xs ∧ xs.length = n ∧ t xs σ H Q
def g2L (t u : D → Sl → Res Sl) : D → Sl → Res Sl := fun d env => match d with
  | .lst [x, y] => t x env >>= fun env' => u y env'
  | _ => .stuck
end
end M

set_option Elab.async false
set_option linter.all false
set_option maxRecDepth 100000
set_option maxHeartbeats 4000000
namespace M
open PySem PySem.Spec L2
open PyProof.Rows hiding St

section
variable {X : Cx} {e : Expr}
theorem pe_hold {t : TE} (h : PE X e t) : PE X e (fun σ H Q => ∃ a kvs, H a = some (.dK kvs) ∧ ∀ o, t σ (upd H a (.frz o (.dK kvs))) fun v H' => H' a = some (.frz o (.dK kvs)) ∧ Q v (upd H' a (.dK kvs))) := by
  intro pins s σ H Q I ⟨a, kvs, e, q⟩
  have l := Inv.loose I e
  obtain ⟨_, _, vs, _, o, _, _, ho, _⟩ := I.hok a _ e
  refine thn (h pins s σ _ _ (Inv.freeze I e ho) (q o)) fun v s1 ⟨x, H1, I1, r1, e1, q1⟩ => ⟨x, _, Inv.thaw I1 e1 l, r1, q1⟩
def holdE (i : Nat) (env : Sl) : Res Sl := match env[i]? with
  | some (.shr (.dic ks ds)) => must (D.imms ds = true) (.ok ((lend env).set i (.shr (.hdc ks ds))))
  | some (.own (.dic ks ds)) => must (D.imms ds = true) (.ok ((lend env).set i (.shr (.hdc ks ds))))
  | _ => .stuck
def scal : D → Bool
  | .non => true
  | .bl _ => true
  | .int _ => true
  | _ => false
def holdF (i : Nat) (f : Sl → Res D) : Sl → Res D := fun env => holdE i env >>= fun env' => f env' >>= fun d => must (scal d = true) (.ok d)
theorem scal_sc {K : PySem.W.Frag} {A : Addr → Prop} {H : Hp} {v : V} {d : D} (r : Rep K A H v d) (h : scal d = true) : Sc K v d := by
  cases d with
  | non => rw [r.nonE]; exact sc_non
  | bl b => rw [r.blE]; exact sc_bl b
  | int i => rw [r.intE]; exact sc_int i
  | _ => cases h
theorem EnvOk.hold {K : PySem.W.Frag} {G : Addr → Prop} {H0 H : Hp} {env env' : Sl} {σ : L2.St} {i : Nat} (k : EnvOk K G H0 env σ H) (h : holdE i env = .ok env') :
    ∃ a kvs, H a = some (.dK kvs) ∧ ∀ o, EnvOk K (fun _ => True) (upd H a (.frz o (.dK kvs))) env' σ (upd H a (.frz o (.dK kvs))) := by
  have key : ∀ (a : Addr) (kvs : List (Key × V)) (ks : List Key) (ds : List D), H a = some (.dK kvs) → σ[i]? = some (some (.ref a)) → kvs.map (·.1) = ks → (∃ A, Reps K A H (kvs.map (·.2)) ds) → D.imms ds = true → ∀ o, EnvOk K (fun _ => True) (upd H a (.frz o (.dK kvs))) ((M.lend env).set i (.shr (.hdc ks ds))) σ (upd H a (.frz o (.dK kvs))) := by
    intro a kvs ks ds ha hσ hk ⟨A, rs⟩ him o
    have kl := k.lend ha o
    have := kl.setS (i := i) (v := .ref a) (d := .hdc ks ds) (.hdc ⟨o, upd_same⟩ hk rfl (rs.held him ha))
    have e : σ.set i (some (V.ref a)) = σ := by
      obtain ⟨hi, e⟩ := List.getElem?_eq_some_iff.mp hσ
      rw [← e, List.set_getElem_self]
    rw [e] at this
    exact this
  unfold holdE at h
  split at h
  · rename_i ks ds es
    obtain ⟨him, h2⟩ := must_inv h
    cases h2
    obtain ⟨v, e1, r⟩ := k.shr i _ es
    obtain ⟨p, kv, rfl, hp, _, hk, rs⟩ := r.dicE
    exact ⟨p, kv, hp, key p kv ks ds hp e1 hk ⟨_, rs⟩ him⟩
  · rename_i ks ds es
    obtain ⟨him, h2⟩ := must_inv h
    cases h2
    obtain ⟨p, e1, _, t⟩ := k.own i _ es
    cases t with
    | @dic kv vs _ _ hp hk hv rs =>
      subst hv
      exact ⟨p, kv, hp, key p kv ks ds hp e1 hk ⟨_, rs⟩ him⟩
  · cases h
theorem de_hold (i : Nat) {l l' : Lv} {f : Sl → Res D} (h : DE X l e f) : DE X l' e (holdF i f) := by
 with_unfolding_all exact (
  PE.imp (pe_hold h) fun σ H Q ⟨G, H0, env, d, k, ef, q⟩ => by
    obtain ⟨env', e1, ef⟩ := bind_inv ef
    obtain ⟨d', e2, e3⟩ := bind_inv ef
    obtain ⟨hsc, e4⟩ := must_inv e3
    cases e4
    obtain ⟨a, kvs, ha, hk⟩ := k.hold e1
    refine ⟨a, kvs, ha, fun o => ⟨_, _, env', d, hk o, e2, fun v H' s r _ => ⟨s _ _ upd_same, ?_⟩⟩⟩
    have sc := scal_sc r hsc
    exact q v _ (thaw_same ha s) (sc.1 _ _) sc.T)
end
section
variable {X : Cx} {tg e : Expr}
def iHeld (tl : TE) : TI := fun σ H R => tl σ H fun x H1 => ∃ a o kvs, x = .ref a ∧ H1 a = some (.frz o (.dK kvs)) ∧ R (ItK a o kvs) H1
theorem pi_held {tl : TE} (hl : PE X e tl) : PI X tg e (iHeld tl) := by
  intro pins s σ H R I h
  refine thn (hl pins s σ H _ I h) fun v s1 ⟨x, H1, I1, r1, q1⟩ => ?_
  obtain ⟨a, o, kvs, ex, hq, q⟩ := q1
  subst ex
  cases r1
  obtain ⟨ho, zl, hs, vs, rv, o', es, ep, ho', hx, hd, hr⟩ := I1.hok a _ hq
  rw [ho] at ho'; cases ho'
  have da : s1.heap.DictAt (mixKind X.prog X.w) a vs ep := ⟨o, es, ho, hx, hd, hr⟩
  have hl := KV.length rv
  refine wpAny_pyIter_dict hs da ?_
  refine ⟨s1.heap.objs.size, [s1.heap.objs.size], _, _, _, rfl, I1.kept (t' := s1.toks) fun b o e => Heap.get?_push_of_some _ e, turn_keys a _ o kvs ep (fun es' e' z => by rw [hd] at z; cases z; rfl), ⟨_, Heap.get?_push_size _ rfl, rfl, by rw [hl]; rfl⟩, fun b hb => ?_, q⟩
  have e : b = s1.heap.objs.size := by simpa using hb
  subst e
  exact I1.fpOk (Nat.le_refl _) (I1.hok.fresh (Nat.le_refl _))
def keysH (f : Sl → Res D) : Sl → Res (List D) := fun env => f env >>= fun d => match d with
  | .hdc ks _ => must (allI ks = true) (.ok (ks.map kD))
  | _ => .stuck
theorem keys_reps {K : PySem.W.Frag} {A : Addr → Prop} {H : Hp} : ∀ kvs : List (Key × V), allI (kvs.map (·.1)) = true → Reps K A H (kvs.map fun q => kV q.1) ((kvs.map (·.1)).map kD)
  | [], _ => .nil
  | p :: r, h => by
    unfold allI at h
    simp only [List.map_cons, List.all_cons, Bool.and_eq_true] at h
    exact .cons (kD_rep h.1) (keys_reps r h.2)
theorem di_held {f : Sl → Res D} (h : DE X .s e f) : DI X tg e (keysH f) := by
 with_unfolding_all exact (
  PI.imp (pi_held h) fun σ H R ⟨G, H0, env, ds, k, ef, q⟩ => by
    obtain ⟨d, e1, e2⟩ := bind_inv ef
    cases d with
    | hdc ks es =>
      obtain ⟨hall, e3⟩ := must_inv e2
      cases e3
      refine ⟨G, H0, env, _, k, e1, fun v H1 s1 r1 _ => ?_⟩
      cases r1 with
      | @hdc _ _ a kvs _ _ _ hz k1 k2 rs =>
        obtain ⟨o, ho⟩ := hz
        subst k1
        refine ⟨a, o, kvs, rfl, ho, q (ItK a o kvs) H1 (fun H' => H' a = some (.frz o (.dK kvs))) s1 (Walk.toD (keys_reps kvs hall) ?_) ho fun env' σ' H' fr => fr.keep a _ ho fun ow => ?_⟩
        · intro i H' hp
          have hl : (kvs.map fun q => kV q.1).length = kvs.length := List.length_map ..
          refine ⟨fun hi => ⟨hp, by rw [hl] at hi; exact hi⟩, fun hi x H2 y => ?_, fun hi => ⟨hp, by rw [hl] at hi; exact hi⟩⟩
          obtain ⟨y1, kk, v, y2, y3⟩ := y
          exact ⟨y1, by rw [List.getElem?_map, y2, y3]; rfl⟩
        · exact (k.grow s1).mutO ow ho
    | _ => cases e2)
end
def sdN (i : Nat) (fk fv fw : Sl → Res D) : Sl → Res (Bool × Sl) := fun env => ownK i env >>= fun q => fk env >>= fun kd => fv env >>= fun d => match keyD kd with
  | some k => must (q.1.length < sizeLine) (match valD q.1 q.2 k with
    | some d0 => fw env >>= fun w => neR d0 w >>= fun r => match r with
      | .bl b => .ok (b, env)
      | _ => .stuck
    | none => fw (env.set i (.own (.dic (putKs q.1 k) (putDs q.1 q.2 k d)))) >>= fun w => neR d w >>= fun r => match r with
      | .bl b => .ok (b, env.set i (.own (.dic (putKs q.1 k) (putDs q.1 q.2 k d))))
      | _ => .stuck)
  | none => .stuck
def ifSD (i : Nat) (fk fv fw : Sl → Res D) (g1 g2 : Sl → Res Out) : Sl → Res Out := fun env => sdN i fk fv fw env >>= fun r => if r.1 = true then g1 r.2 else g2 r.2
section
variable {X : Cx} {i : Nat} {x : Str} {e1 e2 e3 : Expr} {p apos cpos pos qpos : Pos} {l1 l3 : Lv} {fk fv fw : Sl → Res D} {body orelse : List Stmt} {g1 g2 : Sl → Res Out}
theorem ds_ifSD (hu : X.A.units + 200 < cLine) (i : Nat) (hk : DE X l1 e1 fk) (hv : DE X .s e2 fv) (hw : DE X l3 e3 fw) (h1 : DSs X body g1) (h2 : DSs X orelse g2) (hN : X.N[i]? = some x := by rfl) (hvs : Vis X.env.scope x := by first | exact Or.inl rfl | exact Or.inr (Or.inl rfl) | exact Or.inr (Or.inr rfl))
    (hd : (x == ("__debug__" : Str)) = false := by decide) (hcd : (x == ("__classdict__" : Str)) = false := by decide)
    (hbase : attributeBase (.Name x p) "setdefault" X.env (eval (.Name x p) X.env) = eval (.Name x p) X.env := by rfl)
    (hfew : ((backTo cpos (starEach [e1, e2] X.env)).all (fun x => !x.1) && (backToKw cpos (keywordEach [] X.env)).all (fun x => x.1.isSome)
      && decide ([e1, e2].length + ([] : List Keyword).length + (if ([] : List Keyword).isEmpty then 0 else 1) < 30)) = true := by exact few_plain rfl rfl)
    (hline : (apos.endLine == cpos.line) = true := by rfl) (hs : starEach [e1, e2] X.env = (false, eval e1 X.env) :: starEach [e2] X.env := by exact star_plain rfl) (hplain : (backTo cpos (starEach [e2] X.env)).any (·.1) = false := by exact any_plain rfl)
    (hs2 : starEach [e2] X.env = (false, eval e2 X.env) :: starEach [] X.env := by exact star_plain rfl) (hm : behindInMarks .NotEq e3 = false := by first | exact nomark _ | (with_unfolding_all rfl)) :
    DS X (.If (.Compare (.Call (.Attribute (.Name x p) "setdefault" apos) [e1, e2] [] cpos) [.NotEq] [e3] qpos) body orelse pos) (ifSD i fk fv fw g1 g2) := by
 with_unfolding_all exact (
  PS.imp (ps_if (pt_cmpR (op_neD hu) (pe_bm PySem.F.plainAttrs_dict PySem.F.slot_dict_setdefault PySem.F.type_dict_setdefault mt_setD (pe_var (i := i) hN hvs hd hcd) (pa_cons hk (pa_cons hv pa_nil hs2) hs) hbase hfew hline hs hplain) hw hm) h1 h2) fun E σ H ⟨G, H0, env, o, k, ef, q⟩ => by
    obtain ⟨⟨b, envT⟩, ef, ego⟩ := bind_inv ef
    obtain ⟨ks, c1, ef⟩ := bind_inv ef
    obtain ⟨kd, c2, ef⟩ := bind_inv ef
    obtain ⟨d, c3, c4⟩ := bind_inv ef
    have hi := ownK_inv c1
    obtain ⟨a, kvs, ha, hx, hkk, rs⟩ := own_dict k hi
    have fin : ∀ H3, EnvOk X.K G H0 envT σ H3 → Frm env σ H envT σ H3 → (if b = true then tS X.K g1 E σ H3 else tS X.K g2 E σ H3) := fun H3 k3 f3 => by
      cases b with
      | true => rw [if_pos rfl] at ego ⊢; exact ⟨G, H0, envT, o, k3, ego, out_tr f3 q⟩
      | false => rw [if_neg Bool.false_ne_true] at ego ⊢; exact ⟨G, H0, envT, o, k3, ego, out_tr f3 q⟩
    cases hkey : keyD kd with
    | none => rw [hkey] at c4; cases c4
    | some kk =>
      rw [hkey] at c4
      obtain ⟨hz, c5⟩ := must_inv c4
      refine ⟨.ref a, ha, .inr (.inr (.inl ⟨rfl, .inl ⟨kvs, hx⟩⟩)), G, H0, env, kd, k, c2, fun y H1 s1 r1 _ => ⟨G, H0, env, d, k.grow s1, c3, fun v H2 s2 r2 _ => ?_⟩⟩
      have hx2 := s2 _ _ (s1 _ _ hx)
      have hy := keyD_kV (r1.weak (A' := Any) Lv.weak_b) hkey
      subst hy
      have hl : kvs.length < sizeLine := by rw [← hkk, List.length_map] at hz; exact hz
      obtain ⟨g1', g2'⟩ := has_valV (K := X.K) kk ((rs.grow s1).grow s2)
      rw [hkk] at g1' g2'
      refine ⟨a, kvs, kk, v, rfl, rfl, hx2, hl, fun w hw => ?_, fun hn => ?_⟩
      · obtain ⟨d0, hd0, rd0⟩ := g1' w hw
        rw [hd0] at c5
        obtain ⟨wd, c6, c5⟩ := bind_inv c5
        obtain ⟨rr, c7, c5⟩ := bind_inv c5
        obtain ⟨hc, c8⟩ := must_inv c7
        cases c8
        cases c5
        refine ⟨G, H0, env, wd, (k.grow s1).grow s2, c6, fun y H3 s3 r3 _ => ⟨d0, wd, (rd0.grow s3).weak fun _ _ => trivial, r3.weak Lv.weak_b, hc, ?_⟩⟩
        exact ⟨_, rfl, fin H3 (((k.grow s1).grow s2).grow s3) (Frm.refl (s1.trans (s2.trans s3)))⟩
      · rw [g2' hn] at c5
        obtain ⟨wd, c6, c5⟩ := bind_inv c5
        obtain ⟨rr, c7, c5⟩ := bind_inv c5
        obtain ⟨hc, c8⟩ := must_inv c7
        cases c8
        cases c5
        have W := ((k.grow s1).grow s2).putD (kk := kk) hi ha hx2 hkk ((rs.grow s1).grow s2) r2
        refine ⟨G, H0, _, wd, W.1, c6, fun y H3 s3 r3 _ => ⟨d, wd, ((W.2.rep ((k.grow s1).grow s2) r2).grow s3).weak fun _ _ => trivial, r3.weak Lv.weak_b, hc, ?_⟩⟩
        exact ⟨_, rfl, fin H3 (W.1.grow s3) (((W.2.grow s2).grow s1).trans (Frm.refl s3))⟩)
end
end M

set_option Elab.async false
set_option linter.all false
set_option maxRecDepth 100000
set_option maxHeartbeats 4000000
namespace G
open PySem PySem.Spec L2 M
open PyProof.Rows hiding St
def top (i : Nat) : Stmt := PySem.Challenge.pw_endwise_k12_none_told.main.body.getD i (.Pass ⟨0, 0, 0, 0⟩)
abbrev s__law_spread : Stmt := top 17
abbrev s__law_names : Stmt := top 19
abbrev s__law_whole : Stmt := top 16
abbrev s__law_due : Stmt := top 23
abbrev s_head : Stmt := top 9
abbrev s_places : Stmt := top 8
abbrev s_fits_on : Stmt := top 14
abbrev s_fitting : Stmt := top 13
abbrev s_level_below : Stmt := top 7
abbrev s_is_great : Stmt := top 6
abbrev s_bounded : Stmt := top 10
abbrev s_fit : Stmt := top 12
abbrev s__law_right : Stmt := top 28
abbrev s__law_mixed : Stmt := top 18
abbrev s__law_term : Stmt := top 20
abbrev s__law_filled : Stmt := top 21
abbrev s__law_paths : Stmt := top 24
abbrev s__law_other : Stmt := top 27
abbrev s__law_put : Stmt := top 25
abbrev s__law_part : Stmt := top 26
abbrev s__law_count : Stmt := top 22
abbrev s_law : Stmt := top 29
def g__law_spread : Sl → Res Out :=
  (seqO (setOs 2 (two (two (cI 10) (cI 40) powI) (cI 121) addD))
  (retO (two (two (two (two (rdS 0) (rdS 2) modI) (cI 31415926535897932384626433832795) mulI) (two (two (two (two (rdS 1) (rdS 1) mulI) (two (cI 3) (rdS 1) mulI) addD) (cI 7) addD) (cI 2718281828459045235360287471) mulI) addD) (rdS 2) modI)))
def F__law_spread : List D → Res D := runF true 3 (g__law_spread)
def g__law_names : Sl → Res Out :=
  (seqO (setOs 1 (cS "abcdefghijklmnopqrstuvwxyz"))
  (seqO (asgO (app (cons1 (rdS 0) (cons1 (cI 8) nil1)) divmodD) (g2 (gN 0) (gN 4)))
  (seqO (asgO (app (cons1 (rdS 0) (cons1 (two (rdS 4) (cI 1) addD) nil1)) divmodD) (g2 (gN 0) (gN 5)))
  (seqO (setOs 2 (cS ""))
  (seqO (forO (rngF (cons1 (two (rdS 4) (cI 1) addD) nil1)) (gN 3) (seqO (asgO (app (cons1 (rdS 0) (cons1 (cI 26) nil1)) divmodD) (g2 (gN 0) (gN 6)))
    (setOs 2 (two (rdS 2) (two (rdS 1) (rdS 6) ixD) addD))))
  (retO (compO false 1 [2, 1, 5, 0] (rngF (cons1 (cI 5) nil1)) (gN 0) trueB (two (two (slice3 (rdS 1) noneI (someI (rdS 3)) slD) (two (rdS 2) (two (two (rdS 4) (two (cI 5) (rdS 0) mulI) addD) (cI 26) modI) ixD) addD) (slice3 (rdS 1) (someI (two (rdS 3) (cI 1) addD)) noneI slD) addD))))))))
def F__law_names : List D → Res D := runF true 7 (g__law_names)
def g__law_whole : Sl → Res Out :=
  (retO (toB (isiF "int" (rdS 0)) (notF (isiF "bool" (rdS 0))) true))
def F__law_whole : List D → Res D := runF true 1 (g__law_whole)
def g__law_due (f__law_whole : List D → Res D) : Sl → Res Out :=
  (seqO (setO 2 cD)
  (seqO (setO 3 (lstF (cons1 (tupF (cons1 (rdS 0) (cons1 (rdS 1) nil1))) nil1)))
  (seqO (whileD 4000 (asB (two (rdB 3) (lstF nil1) neR)) (seqO (popO 3 (g2 (gN 4) (gN 5)))
    (ifO (asB (callF 1 f__law_whole (cons1 (rdS 4) nil1))) (ifSD 2 (rdS 4) (rdS 5) (rdS 5) (retO cN) nxO) (ifO (orB (asB (callF 1 f__law_whole (cons1 (rdS 5) nil1))) (orB (asB (two (two (rdS 4) (cI 0) ixD) (two (rdS 5) (cI 0) ixD) neR)) (asB (two (app (cons1 (rdS 4) nil1) lenD) (app (cons1 (rdS 5) nil1) lenD) neR)))) (retO cN) (extendO 3 (compO false 1 [4, 5] (rng2F (cons1 (cI 1) (cons1 (app (cons1 (rdS 4) nil1) lenD) nil1))) (gN 0) trueB (tupF (cons1 (two (rdS 1) (rdS 0) ixD) (cons1 (two (rdS 2) (rdS 0) ixD) nil1)))))))))
  (retO (rdO 2)))))
def F__law_due : List D → Res D := runF true 6 (g__law_due F__law_whole)
def g_head : Sl → Res Out :=
  (retO (ifD (asB (isiF "tuple" (rdS 0))) (tupF (cons1 (two (rdS 0) (cI 0) ixD) (cons1 (two (app (cons1 (rdS 0) nil1) lenD) (cI 1) subI) nil1))) cN))
def F_head : List D → Res D := runF true 1 (g_head)
def g_places : Sl → Res Out :=
  (retO (ifD (asB (isiF "tuple" (rdS 0))) (slice3 (rdS 0) (someI (cI 1)) noneI slD) (tupF nil1)))
def F_places : List D → Res D := runF true 1 (g_places)
def g_fits_on (f_head : List D → Res D) (f_places : List D → Res D) (f_fits_on : FI) : Sl → Res OutI :=
  (seqI (ifI (notB (asB (isiF "tuple" (rdS 0)))) (retSD 2 (rdS 0) (rdS 1) (rdS 1)) nxI)
  (seqI (ifI (asB (two (callF 1 f_head (cons1 (rdS 0) nil1)) (callF 1 f_head (cons1 (rdS 1) nil1)) neR)) (retI (cB false)) nxI)
  (seqI (forI (zipF (callF 1 f_places (cons1 (rdS 0) nil1)) (callF 1 f_places (cons1 (rdS 1) nil1))) (g2 (gN 3) (gN 4)) (ifNI (callI f_fits_on 2 (rdS 3) (rdS 4)) (retI (cB false)) nxI))
  (retI (cB true)))))
def F_fits_on : Nat → FI
  | 0 => fun _ _ _ => .stuck
  | n + 1 => runI 5 2 (g_fits_on F_head F_places (F_fits_on n))
def g_fitting (f_fits_on : FI) : Sl → Res Out :=
  (seqO (setO 2 cD)
  (retIfI 2 (callI f_fits_on 2 (rdS 0) (rdS 1))))
def F_fitting : List D → Res D := runF true 3 (g_fitting (F_fits_on 64))
def g_level_below (f_places : List D → Res D) : Sl → Res Out :=
  (seqO (setO 1 (lstF nil1))
  (seqO (forO (itF (rdS 0)) (gN 2) (extendO 1 (callF 1 f_places (cons1 (rdS 2) nil1))))
  (retO (rdO 1))))
def F_level_below : List D → Res D := runF true 3 (g_level_below F_places)
def g_is_great (f_level_below : List D → Res D) : Sl → Res Out :=
  (seqO (setOs 1 (lstF (cons1 (rdS 0) nil1)))
  (seqO (setOs 2 (cI 0))
  (seqO (setOs 3 (cI 0))
  (seqO (whileD 2000 (truF (rdS 1)) (seqO (setOs 2 (two (rdS 2) (cI 1) (augI fun i j => i + j)))
    (seqO (setOs 3 (two (rdS 3) (app (cons1 (rdS 1) nil1) lenD) (augI fun i j => i + j)))
    (seqO (ifO (orB (asB (two (rdS 2) (cI 60) gtI)) (asB (two (rdS 3) (cI 1000) gtI))) (retO (cB true)) nxO)
    (setOs 1 (callF 1 f_level_below (cons1 (rdS 1) nil1)))))))
  (retO (cB false))))))
def F_is_great : List D → Res D := runF true 4 (g_is_great F_level_below)
def g_bounded (f_is_great : List D → Res D) : Sl → Res Out :=
  (seqO (ifO (asB (callF 1 f_is_great (cons1 (rdS 0) nil1))) neverO nxO)
  (retS (rdS 0)))
def F_bounded : List D → Res D := runF false 1 (g_bounded F_is_great)
def g_fit (f_fitting : List D → Res D) (f_bounded : List D → Res D) : Sl → Res Out :=
  (seqO (setO 2 (callF 2 f_fitting (cons1 (rdS 0) (cons1 (rdS 1) nil1))))
  (seqO (ifO (asB (two (rdB 2) cN notN)) (forK 2 3 (exprB (callF 1 f_bounded (cons1 (two (rdS 2) (rdS 3) getF) nil1)))) nxO)
  (retO (rdO 2))))
def F_fit : List D → Res D := runF true 4 (g_fit F_fitting F_bounded)
def g__law_right (f__law_due : List D → Res D) (f_fit : List D → Res D) (f__law_whole : List D → Res D) : Sl → Res Out :=
  (seqO (setOs 2 (callF 2 f__law_due (cons1 (rdS 0) (cons1 (rdS 1) nil1))))
  (seqO (setOs 3 (callF 2 f_fit (cons1 (rdS 0) (cons1 (rdS 1) nil1))))
  (seqO (ifO (asB (two (rdS 2) cN isN)) (retO (two (rdS 3) cN isN)) nxO)
  (seqO (ifO (orB (notB (asB (isiF "dict" (rdS 3)))) (asB (two (rdS 3) (rdS 2) neDic))) (retO (cB false)) nxO)
  (retO (holdF 3 (app (cons1 (compO false 1 [] (keysH (rdS 3)) (gN 0) trueB (callF 1 f__law_whole (cons1 (rdS 0) nil1))) nil1) allD)))))))
def F__law_right : List D → Res D := runF true 4 (g__law_right F__law_due F_fit F__law_whole)
def g__law_mixed : Sl → Res Out :=
  (seqO (setOs 2 (two (two (two (rdS 0) (cI 69621) mulI) (two (two (rdS 1) (cI 1) addD) (cI 1000003) mulI) addD) (two (two (cI 10) (cI 30) powI) (cI 57) addD) modI))
  (retO (two (two (rdS 2) (rdS 2) mulI) (two (two (cI 10) (cI 30) powI) (cI 57) addD) modI)))
def F__law_mixed : List D → Res D := runF true 3 (g__law_mixed)
def g__law_term (f__law_term : List D → Res D) (f__law_mixed : List D → Res D) : Sl → Res Out :=
  (seqO (asgO (app (cons1 (rdS 0) (cons1 (cI 5) nil1)) divmodD) (g2 (gN 0) (gN 4)))
  (seqO (ifO (orB (asB (two (rdS 4) (cI 0) eqR)) (andB (asB (two (rdS 2) (cI 0) eqR)) (asB (two (rdS 4) (cI 3) ltI)))) (retS (two (rdS 3) (two (rdS 0) (app (cons1 (rdS 3) nil1) lenD) modI) ixD)) nxO)
  (seqO (asgO (app (cons1 (rdS 0) (cons1 (cI 5) nil1)) divmodD) (g2 (gN 0) (gN 5)))
  (seqO (asgO (app (cons1 (rdS 0) (cons1 (cI 4) nil1)) divmodD) (g2 (gN 0) (gN 6)))
  (seqO (ifO (andB (asB (two (rdS 2) (cI 1) eqR)) (asB (two (two (rdS 0) (cI 8) modI) (cI 1) eqR))) (setOs 6 (two (cI 4) (two (two (rdS 0) (cI 8) divI) (cI 5) modI) addD)) nxO)
  (seqO (ifO (asB (two (rdS 2) (cI 0) eqR)) (setOs 6 (cI 0)) nxO)
  (retO (app (cons1 (two (lstF (cons1 (two (rdS 1) (rdS 5) ixD) nil1)) (compO false 1 [1, 3, 0, 2] (rngF (cons1 (rdS 6) nil1)) (gN 0) trueB (callF 4 f__law_term (cons1 (callF 2 f__law_mixed (cons1 (rdS 3) (cons1 (rdS 0) nil1))) (cons1 (rdS 1) (cons1 (two (rdS 4) (cI 1) subI) (cons1 (rdS 2) nil1)))))) addD) nil1) tupleD))))))))
def F__law_term : Nat → List D → Res D
  | 0 => fun _ => .stuck
  | n + 1 => runF false 7 (g__law_term (F__law_term n) F__law_mixed)
def g__law_filled (f__law_whole : List D → Res D) (f__law_filled : List D → Res D) : Sl → Res Out :=
  (seqO (ifO (asB (callF 1 f__law_whole (cons1 (rdS 0) nil1))) (retS (get2F (rdS 1) (rdS 0) (rdS 0))) nxO)
  (retO (app (cons1 (two (lstF (cons1 (two (rdS 0) (cI 0) ixD) nil1)) (compO false 1 [1] (itF (slice3 (rdS 0) (someI (cI 1)) noneI slD)) (gN 0) trueB (callF 2 f__law_filled (cons1 (rdS 0) (cons1 (rdS 1) nil1)))) addD) nil1) tupleD)))
def F__law_filled : Nat → List D → Res D
  | 0 => fun _ => .stuck
  | n + 1 => runF false 2 (g__law_filled F__law_whole (F__law_filled n))
def g__law_paths (f__law_whole : List D → Res D) (f__law_paths : List D → Res D) : Sl → Res Out :=
  (seqO (setO 2 (lstF (cons1 (rdS 1) nil1)))
  (seqO (ifO (notB (asB (callF 1 f__law_whole (cons1 (rdS 0) nil1)))) (forO (rngF (cons1 (two (app (cons1 (rdS 0) nil1) lenD) (cI 1) subI) nil1)) (gN 3) (extendO 2 (callF 2 f__law_paths (cons1 (two (rdS 0) (two (cI 1) (rdS 3) addE) ixD) (cons1 (two (rdS 1) (tupF (cons1 (rdS 3) nil1)) addE) nil1))))) nxO)
  (retO (rdO 2))))
def F__law_paths : Nat → List D → Res D
  | 0 => fun _ => .stuck
  | n + 1 => runF true 4 (g__law_paths F__law_whole (F__law_paths n))
def g__law_other (f__law_whole : List D → Res D) (f__law_term : List D → Res D) : Sl → Res Out :=
  (seqO (asgO (app (cons1 (rdS 0) (cons1 (cI 7) nil1)) divmodD) (g2 (gN 0) (gN 4)))
  (seqO (ifO (orB (asB (two (rdS 4) (cI 0) eqR)) (asB (callF 1 f__law_whole (cons1 (rdS 1) nil1)))) (retS (callF 4 f__law_term (cons1 (rdS 0) (cons1 (rdS 2) (cons1 (cI 2) (cons1 (rdS 3) nil1)))))) nxO)
  (seqO (ifO (asB (two (rdS 4) (cI 1) eqR)) (retO (two (tupF (cons1 (two (rdS 2) (two (rdS 0) (cI 5) modI) ixD) nil1)) (slice3 (rdS 1) (someI (cI 1)) noneI slD) addD)) nxO)
  (seqO (ifO (andB (asB (two (rdS 4) (cI 2) eqR)) (asB (two (app (cons1 (rdS 1) nil1) lenD) (cI 10) ltI))) (retO (two (rdS 1) (tupF (cons1 (two (rdS 3) (two (rdS 0) (cI 3) modI) ixD) nil1)) addD)) nxO)
  (seqO (ifO (andB (asB (two (rdS 4) (cI 3) eqR)) (asB (two (app (cons1 (rdS 1) nil1) lenD) (cI 1) gtI))) (retO (slice3 (rdS 1) noneI (someI (negF (cI 1))) slD)) nxO)
  (seqO (ifO (andB (asB (two (rdS 4) (cI 4) eqR)) (asB (two (app (cons1 (rdS 1) nil1) lenD) (cI 2) gtI))) (retO (two (two (slice3 (rdS 1) noneI (someI (cI 1)) slD) (tupF (cons1 (two (rdS 1) (cI 1) ixD) (cons1 (two (rdS 1) (cI 1) ixD) nil1))) addD) (slice3 (rdS 1) (someI (cI 3)) noneI slD) addD)) nxO)
  (seqO (ifO (asB (two (rdS 4) (cI 5) eqR)) (retS (two (rdS 3) (two (rdS 0) (cI 3) modI) ixD)) nxO)
  (retO (tupF (cons1 (two (rdS 2) (two (rdS 0) (cI 5) modI) ixD) (cons1 (rdS 1) nil1)))))))))))
def F__law_other : List D → Res D := runF false 5 (g__law_other F__law_whole (F__law_term 6))
def g__law_put (f__law_put : List D → Res D) : Sl → Res Out :=
  (seqO (ifO (asB (two (rdS 1) (tupF nil1) eqR)) (retS (rdS 2)) nxO)
  (seqO (setOs 3 (two (cI 1) (two (rdS 1) (cI 0) ixD) addD))
  (retO (two (two (slice3 (rdS 0) noneI (someI (rdS 3)) slD) (tupF (cons1 (callF 3 f__law_put (cons1 (two (rdS 0) (rdS 3) ixD) (cons1 (slice3 (rdS 1) (someI (cI 1)) noneI slD) (cons1 (rdS 2) nil1)))) nil1)) addD) (slice3 (rdS 0) (someI (two (rdS 3) (cI 1) addD)) noneI slD) addD))))
def F__law_put : Nat → List D → Res D
  | 0 => fun _ => .stuck
  | n + 1 => runF false 4 (g__law_put (F__law_put n))
def g__law_part : Sl → Res Out :=
  (seqO (forO (itF (rdS 1)) (gN 2) (setOs 0 (two (rdS 0) (two (cI 1) (rdS 2) addD) ixD)))
  (retS (rdS 0)))
def F__law_part : List D → Res D := runF false 3 (g__law_part)
def g__law_count (f__law_whole : List D → Res D) (f__law_count : List D → Res D) : Sl → Res Out :=
  (seqO (ifO (asB (callF 1 f__law_whole (cons1 (rdS 0) nil1))) (retO (cI 1)) nxO)
  (retO (two (cI 1) (app (cons1 (compO false 1 [] (itF (slice3 (rdS 0) (someI (cI 1)) noneI slD)) (gN 0) trueB (callF 1 f__law_count (cons1 (rdS 0) nil1))) nil1) sumLD) addD)))
def F__law_count : Nat → List D → Res D
  | 0 => fun _ => .stuck
  | n + 1 => runF true 1 (g__law_count F__law_whole (F__law_count n))
def g_law (f__law_spread : List D → Res D) (f__law_names : List D → Res D) (f__law_right : List D → Res D) (f__law_term : List D → Res D) (f__law_filled : List D → Res D) (f__law_paths : List D → Res D) (f__law_other : List D → Res D) (f__law_put : List D → Res D) (f__law_mixed : List D → Res D) (f__law_part : List D → Res D) (f__law_count : List D → Res D) : Sl → Res Out :=
  (seqO (setOs 1 (callF 2 f__law_spread (cons1 (two (two (rdS 0) (lstF (cons1 (cI 0) nil1)) addS) (cI 0) ixD) (cons1 (cI 0) nil1))))
  (seqO (setOs 2 (callF 1 f__law_names (cons1 (rdS 1) nil1)))
  (seqO (setOs 3 (two (two (rdS 1) (two (cI 10) (cI 20) powI) divW) (cI 1000) modI))
  (seqO (setOs 4 (lstF (cons1 (rdS 3) (cons1 (two (two (two (rdS 3) (cI 1) addD) (two (two (rdS 1) (two (cI 10) (cI 23) powI) divW) (cI 499) modI) addD) (cI 1000) modI) (cons1 (two (two (two (rdS 3) (cI 501) addD) (two (two (rdS 1) (two (cI 10) (cI 26) powI) divW) (cI 499) modI) addD) (cI 1000) modI) nil1)))))
  (seqO (forO (enumF (slice3 (rdS 0) noneI (someI (cI 40)) slS)) (g2 (gN 5) (gN 6)) (seqO (setOs 7 (callF 2 f__law_spread (cons1 (rdS 6) (cons1 (two (rdS 5) (cI 1) addD) nil1))))
    (seqO (setOs 8 (callF 4 f__law_term (cons1 (two (rdS 7) (cI 3) divW) (cons1 (rdS 2) (cons1 (cI 3) (cons1 (rdS 4) nil1))))))
    (seqO (setOs 9 (app (cons1 (callF 2 f__law_paths (cons1 (rdS 8) (cons1 (tupF nil1) nil1))) nil1) lenD))
    (seqO (setO 10 cD)
    (seqO (forO (enumF (rdS 4)) (g2 (gN 16) (gN 17)) (dputO 10 (rdS 17) (callF 4 f__law_term (cons1 (callF 2 f__law_mixed (cons1 (rdS 7) (cons1 (two (cI 7) (rdS 16) addD) nil1))) (cons1 (rdS 2) (cons1 (two (two (cI 2) (app (cons1 (two (rdS 9) (cI 13) gtI) nil1) intBD) subI) (app (cons1 (two (rdS 9) (cI 40) gtI) nil1) intBD) subI) (cons1 (rdS 4) nil1)))))))
    (seqO (setOs 11 (chk (callF 2 f__law_filled (cons1 (rdS 8) (cons1 (rdB 10) nil1)))))
    (seqO (setOs 12 (callF 2 f__law_paths (cons1 (rdS 8) (cons1 (tupF nil1) nil1))))
    (seqO (setOs 13 (two (rdS 12) (two (callF 2 f__law_mixed (cons1 (rdS 7) (cons1 (cI 11) nil1))) (app (cons1 (rdS 12) nil1) lenD) modI) ixD))
    (seqO (setOs 14 (callF 4 f__law_other (cons1 (callF 2 f__law_mixed (cons1 (rdS 7) (cons1 (cI 12) nil1))) (cons1 (callF 2 f__law_part (cons1 (rdS 11) (cons1 (rdS 13) nil1))) (cons1 (rdS 2) (cons1 (rdS 4) nil1))))))
    (seqO (setOs 15 (callF 3 f__law_put (cons1 (rdS 11) (cons1 (rdS 13) (cons1 (rdS 14) nil1)))))
    (seqO (ifO (asB (two (two (rdS 7) (cI 3) modI) (cI 1) eqR)) (setOs 15 (callF 4 f__law_term (cons1 (callF 2 f__law_mixed (cons1 (rdS 7) (cons1 (cI 13) nil1))) (cons1 (rdS 2) (cons1 (cI 3) (cons1 (rdS 4) nil1)))))) nxO)
    (seqO (ifO (asB (two (callF 1 f__law_count (cons1 (rdS 15) nil1)) (cI 1000) gtI)) ctO nxO)
    (ifO (orB (notB (asB (callF 2 f__law_right (cons1 (rdS 8) (cons1 (rdS 15) nil1))))) (notB (asB (callF 2 f__law_right (cons1 (rdS 15) (cons1 (rdS 8) nil1)))))) (retO (cB false)) nxO))))))))))))))
  (seqO (ifO (notB (asB (callF 2 f__law_right (cons1 (rdS 3) (cons1 (tupF (cons1 (two (rdS 2) (cI 0) ixD) (cons1 (rdS 3) nil1))) nil1))))) (retO (cB false)) nxO)
  (retO (callF 2 f__law_right (cons1 (tupF (cons1 (two (rdS 2) (cI 0) ixD) (cons1 (rdS 3) (cons1 (rdS 3) nil1)))) (cons1 (tupF (cons1 (two (rdS 2) (cI 0) ixD) (cons1 (rdS 3) (cons1 (two (rdS 4) (cI 1) ixD) nil1)))) nil1))))))))))
def F_law : List D → Res D := runF true 18 (g_law F__law_spread F__law_names F__law_right (F__law_term 6) (F__law_filled 64) (F__law_paths 64) F__law_other (F__law_put 64) F__law_mixed F__law_part (F__law_count 64))
end G

set_option Elab.async false
set_option linter.all false
set_option maxRecDepth 100000
set_option maxHeartbeats 4000000
namespace G
open PySem PySem.Spec L2 M
open PyProof.Rows hiding St
structure Gm (ct_MOST_LEVELS ct_MOST_PARTS : Tok) (mg : Str → Option Value) : Prop where
  b_isinstance : mg "isinstance" = none
  b_tuple : mg "tuple" = none
  b_len : mg "len" = none
  b_bool : mg "bool" = none
  b_int : mg "int" = none
  b_range : mg "range" = none
  b_sum : mg "sum" = none
  b_all : mg "all" = none
  b_divmod : mg "divmod" = none
  b_zip : mg "zip" = none
  b_dict : mg "dict" = none
  b_enumerate : mg "enumerate" = none
  c_MOST_LEVELS : mg "MOST_LEVELS" = some (.int 60 ct_MOST_LEVELS)
  c_MOST_PARTS : mg "MOST_PARTS" = some (.int 1000 ct_MOST_PARTS)
theorem sc__law_spread : FnScope ["_law_cell", "_law_k", "_law_big"] ["_law_cell", "_law_k"] (defScope s__law_spread) := ⟨rfl, rfl, rfl, by decide +kernel, rfl, by decide +kernel, by decide +kernel⟩
theorem sc__law_names : FnScope ["_law_number", "_law_letters", "_law_base", "_law_k", "_law_size", "_law_at", "_law_sign"] ["_law_number"] (defScope s__law_names) := ⟨rfl, rfl, rfl, by decide +kernel, rfl, by decide +kernel, by decide +kernel⟩
theorem sc__law_whole : FnScope ["_law_found"] ["_law_found"] (defScope s__law_whole) := ⟨rfl, rfl, rfl, by decide +kernel, rfl, by decide +kernel, by decide +kernel⟩
theorem sc__law_due : FnScope ["_law_pattern", "_law_term_here", "_law_due_here", "_law_left", "_law_one", "_law_other_here"] ["_law_pattern", "_law_term_here"] (defScope s__law_due) := ⟨rfl, rfl, rfl, by decide +kernel, rfl, by decide +kernel, by decide +kernel⟩
theorem sc_head : FnScope ["term"] ["term"] (defScope s_head) := ⟨rfl, rfl, rfl, by decide +kernel, rfl, by decide +kernel, by decide +kernel⟩
theorem sc_places : FnScope ["term"] ["term"] (defScope s_places) := ⟨rfl, rfl, rfl, by decide +kernel, rfl, by decide +kernel, by decide +kernel⟩
theorem sc_fits_on : FnScope ["pattern", "term", "filling", "place", "there"] ["pattern", "term", "filling"] (defScope s_fits_on) := ⟨rfl, rfl, rfl, by decide +kernel, rfl, by decide +kernel, by decide +kernel⟩
theorem sc_fitting : FnScope ["pattern", "term", "filling"] ["pattern", "term"] (defScope s_fitting) := ⟨rfl, rfl, rfl, by decide +kernel, rfl, by decide +kernel, by decide +kernel⟩
theorem sc_level_below : FnScope ["row", "below", "thing"] ["row"] (defScope s_level_below) := ⟨rfl, rfl, rfl, by decide +kernel, rfl, by decide +kernel, by decide +kernel⟩
theorem sc_is_great : FnScope ["thing", "row", "depth", "counted"] ["thing"] (defScope s_is_great) := ⟨rfl, rfl, rfl, by decide +kernel, rfl, by decide +kernel, by decide +kernel⟩
theorem sc_bounded : FnScope ["term"] ["term"] (defScope s_bounded) := ⟨rfl, rfl, rfl, by decide +kernel, rfl, by decide +kernel, by decide +kernel⟩
theorem sc_fit : FnScope ["pattern", "term", "filling", "blank"] ["pattern", "term"] (defScope s_fit) := ⟨rfl, rfl, rfl, by decide +kernel, rfl, by decide +kernel, by decide +kernel⟩
theorem sc__law_right : FnScope ["_law_pattern", "_law_term_here", "_law_due_here", "_law_found"] ["_law_pattern", "_law_term_here"] (defScope s__law_right) := ⟨rfl, rfl, rfl, by decide +kernel, rfl, by decide +kernel, by decide +kernel⟩
theorem sc__law_mixed : FnScope ["_law_number", "_law_k", "_law_mixed_here"] ["_law_number", "_law_k"] (defScope s__law_mixed) := ⟨rfl, rfl, rfl, by decide +kernel, rfl, by decide +kernel, by decide +kernel⟩
theorem sc__law_term : FnScope ["_law_number", "_law_names_here", "_law_deep", "_law_free", "_law_kind", "_law_which", "_law_count_here"] ["_law_number", "_law_names_here", "_law_deep", "_law_free"] (defScope s__law_term) := ⟨rfl, rfl, rfl, by decide +kernel, rfl, by decide +kernel, by decide +kernel⟩
theorem sc__law_filled : FnScope ["_law_term_here", "_law_filling"] ["_law_term_here", "_law_filling"] (defScope s__law_filled) := ⟨rfl, rfl, rfl, by decide +kernel, rfl, by decide +kernel, by decide +kernel⟩
theorem sc__law_paths : FnScope ["_law_term_here", "_law_path", "_law_found", "_law_k"] ["_law_term_here", "_law_path"] (defScope s__law_paths) := ⟨rfl, rfl, rfl, by decide +kernel, rfl, by decide +kernel, by decide +kernel⟩
theorem sc__law_other : FnScope ["_law_number", "_law_piece", "_law_names_here", "_law_free", "_law_way"] ["_law_number", "_law_piece", "_law_names_here", "_law_free"] (defScope s__law_other) := ⟨rfl, rfl, rfl, by decide +kernel, rfl, by decide +kernel, by decide +kernel⟩
theorem sc__law_put : FnScope ["_law_term_here", "_law_path", "_law_other_here", "_law_at"] ["_law_term_here", "_law_path", "_law_other_here"] (defScope s__law_put) := ⟨rfl, rfl, rfl, by decide +kernel, rfl, by decide +kernel, by decide +kernel⟩
theorem sc__law_part : FnScope ["_law_term_here", "_law_path", "_law_k"] ["_law_term_here", "_law_path"] (defScope s__law_part) := ⟨rfl, rfl, rfl, by decide +kernel, rfl, by decide +kernel, by decide +kernel⟩
theorem sc__law_count : FnScope ["_law_term_here"] ["_law_term_here"] (defScope s__law_count) := ⟨rfl, rfl, rfl, by decide +kernel, rfl, by decide +kernel, by decide +kernel⟩
theorem sc_law : FnScope ["_law_script", "_law_lead", "_law_names_here", "_law_first", "_law_free", "_law_k", "_law_cell", "_law_number", "_law_pattern", "_law_many", "_law_filling", "_law_term_here", "_law_ways", "_law_path", "_law_other_here", "_law_changed", "_law_j", "_law_blank"] ["_law_script"] (defScope s_law) := ⟨rfl, rfl, rfl, by decide +kernel, rfl, by decide +kernel, by decide +kernel⟩
section
variable {P : Program} {w : World} {K : PySem.W.Frag} {mg : Str → Option Value} {base : Heap} {f : Addr} {fd : FuncData} {k : Nat} {ct_MOST_LEVELS ct_MOST_PARTS : Tok}
theorem ok__law_spread (T : Gm ct_MOST_LEVELS ct_MOST_PARTS mg) (Fu : Fun K "_law_spread" "_law_spread" s__law_spread f fd) (hmg : mg "_law_spread" = some (.ref f)) (hbi : Binds K fd ["_law_cell", "_law_k"] []) :
    Av P w K mg base (k + 1) "_law_spread" ["_law_cell", "_law_k"] true (runF true 3 (g__law_spread)) :=
  av_ok true Fu hmg sc__law_spread hbi fun cdv A outer s H E hr =>
    (dss_cons (by exact (ds_setS 2 sc__law_spread.nd (DE.s (de_opT op_addD od_add (de_op (l := .s) op_pow od_pow (de_int (l := .b)) (de_int (l := .b))) (de_int (l := .s))))))
  (by exact (dss_one (ds_ret (de_op (l := .t) op_mod od_mod (DE.b (de_opT op_addD od_add (de_op (l := .s) op_mulB od_mul (de_op (l := .b) op_mod od_mod (DE.b (dv 0)) (DE.b (dv 2))) (de_int (l := .b))) (de_op (l := .s) op_mulB od_mul (DE.b (de_opT op_addD od_add (DE.s (de_opT op_addD od_add (de_op (l := .s) op_mulB od_mul (DE.b (dv 1)) (DE.b (dv 1))) (de_op (l := .s) op_mulB od_mul (de_int (l := .b)) (DE.b (dv 1))))) (de_int (l := .s)))) (de_int (l := .b))))) (DE.b (dv 2)))))))
theorem ok__law_names (T : Gm ct_MOST_LEVELS ct_MOST_PARTS mg) (Fu : Fun K "_law_names" "_law_names" s__law_names f fd) (hmg : mg "_law_names" = some (.ref f)) (hbi : Binds K fd ["_law_number"] []) :
    Av P w K mg base (k + 1) "_law_names" ["_law_number"] true (runF true 7 (g__law_names)) :=
  av_ok true Fu hmg sc__law_names hbi fun cdv A outer s H E hr =>
    (dss_cons (by exact (ds_setS 1 sc__law_names.nd (de_str (l := .s))))
  (by exact (dss_cons (by exact (ds_asg (DE.s (de_callN call_divmod cd_divmod rfl T.b_divmod boot_divmodG (da_cons (dv 0) (da_cons (de_int (l := .s)) da_nil)))) (dg_two rfl (dg_name 0 sc__law_names.nd) (dg_name 4 sc__law_names.nd))))
  (by exact (dss_cons (by exact (ds_asg (DE.s (de_callN call_divmod cd_divmod rfl T.b_divmod boot_divmodG (da_cons (dv 0) (da_cons (by exact (DE.s (de_opT op_addD od_add (dv 4) (de_int (l := .s))))) da_nil)))) (dg_two rfl (dg_name 0 sc__law_names.nd) (dg_name 5 sc__law_names.nd))))
  (by exact (dss_cons (by exact (ds_setS 2 sc__law_names.nd (de_str (l := .s))))
  (by exact (dss_cons (by exact (ds_for PassesOwn.never rfl (di_range1 rfl T.b_range (da_cons (by exact (DE.b (de_opT op_addD od_add (dv 4) (de_int (l := .s))))) da_nil)) (dg_name 3 sc__law_names.nd) (dss_cons (by exact (ds_asg (DE.s (de_callN call_divmod cd_divmod rfl T.b_divmod boot_divmodG (da_cons (dv 0) (da_cons (de_int (l := .s)) da_nil)))) (dg_two rfl (dg_name 0 sc__law_names.nd) (dg_name 6 sc__law_names.nd))))
    (by exact (dss_one (ds_setS 2 sc__law_names.nd (DE.s (de_opT op_addD od_add (dv 2) (de_ix (dv 1) (DE.b (dv 6)))))))))))
  (by exact (dss_one (ds_ret (de_comp false ["_law_k", "_law_base", "_law_letters", "_law_at", "_law_number", "."] 1 [2, 1, 5, 0] (comp_sc rfl rfl (show (["_law_k", "_law_base", "_law_letters", "_law_at", "_law_number", "."] : List Str).Nodup by decide +kernel) (by intro p hp; simp only [List.mem_cons, List.not_mem_nil, or_false] at hp; rcases hp with rfl | rfl | rfl | rfl <;> rfl) rfl) rfl (di_range1 rfl T.b_range (da_cons (de_int (l := .b)) da_nil)) (fun C s₂ H₂ fp => ⟨(dg_name 0 (show (["_law_k", "_law_base", "_law_letters", "_law_at", "_law_number", "."] : List Str).Nodup by decide +kernel)), dts_nil, (DE.s (de_opT op_addD od_add (DE.s (de_opT op_addD od_add (DE.s (de_slice (dv 1) do_none (do_some (DE.b (dv 3))))) (de_ix (dv 2) (de_op (l := .b) op_mod od_mod (DE.b (de_opT op_addD od_add (dv 4) (de_op (l := .s) op_mulB od_mul (de_int (l := .b)) (DE.b (dv 0))))) (de_int (l := .b)))))) (DE.s (de_slice (dv 1) (do_some (DE.b (de_opT op_addD od_add (dv 3) (de_int (l := .s))))) do_none))))⟩))))))))))))))
theorem ok__law_whole (T : Gm ct_MOST_LEVELS ct_MOST_PARTS mg) (Fu : Fun K "_law_whole" "_law_whole" s__law_whole f fd) (hmg : mg "_law_whole" = some (.ref f)) (hbi : Binds K fd ["_law_found"] []) :
    Av P w K mg base (k + 1) "_law_whole" ["_law_found"] true (runF true 1 (g__law_whole)) :=
  av_ok true Fu hmg sc__law_whole hbi fun cdv A outer s H E hr =>
    (dss_one (ds_ret (de_and (de_isi (l' := .b) "int" "int" isTy_int (DE.b (dv 0)) rfl T.b_isinstance rfl T.b_int PyProof.Rows.boot_int) (de_one (de_not (l := .t) (de_isi (l' := .b) "bool" "bool" isTy_bool (DE.b (dv 0)) rfl T.b_isinstance rfl T.b_bool PyProof.Rows.boot_bool))))))
theorem ok__law_due {f__law_whole : List D → Res D} (T : Gm ct_MOST_LEVELS ct_MOST_PARTS mg) (Fu : Fun K "_law_due" "_law_due" s__law_due f fd) (hmg : mg "_law_due" = some (.ref f)) (hbi : Binds K fd ["_law_pattern", "_law_term_here"] []) (A__law_whole : Av P w K mg base k "_law_whole" ["_law_found"] true f__law_whole) :
    Av P w K mg base (k + 1) "_law_due" ["_law_pattern", "_law_term_here"] true (runF true 6 (g__law_due f__law_whole)) :=
  av_ok true Fu hmg sc__law_due hbi fun cdv A outer s H E hr =>
    (dss_cons (by exact (ds_set 2 sc__law_due.nd de_dict0))
  (by exact (dss_cons (by exact (ds_set 3 sc__law_due.nd (de_lst (da_cons (by exact (DE.s (de_tup (da_cons (dv 0) (da_cons (dv 1) da_nil))))) da_nil))))
  (by exact (dss_cons (by exact (ds_while 4000 PassesOwn.never (dt_cmp (op_neD (Room.u200 hr)) od_ne (db 3) (DE.b (de_lst da_nil))) (dss_cons (by exact (ds_pop 3 (dg_two rfl (dg_name 4 sc__law_due.nd) (dg_name 5 sc__law_due.nd))))
    (by exact (dss_one (ds_if (dt_val (DE.b (by exact Av.callT A__law_whole hr (da_cons (dv 4) da_nil)))) (dss_one (ds_ifSD (Room.u200 hr) 2 (DE.b (dv 4)) (dv 5) (DE.b (dv 5)) (dss_one (ds_ret (de_non (l := .t)))) dss_nil)) (dss_one (ds_if (DW.dt (dw_or (dt_val (DE.b (by exact Av.callT A__law_whole hr (da_cons (dv 5) da_nil)))) (dw_or (dt_cmp (op_neD (Room.u200 hr)) od_ne (DE.b (de_ix (dv 4) (de_int (l := .b)))) (DE.b (de_ix (dv 5) (de_int (l := .b))))) (dw_or1 (dt_cmp (op_neD (Room.u200 hr)) od_ne (de_callB (l' := .b) call_lenA cd_len rfl T.b_len PySem.boot_len (da_cons (DE.b (dv 4)) da_nil)) (de_callB (l' := .b) call_lenA cd_len rfl T.b_len PySem.boot_len (da_cons (DE.b (dv 5)) da_nil))))))) (dss_one (ds_ret (de_non (l := .t)))) (dss_one (ds_extend 3 (DE.s (de_comp false ["_law_k", "_law_one", "_law_other_here", "."] 1 [4, 5] (comp_sc rfl rfl (show (["_law_k", "_law_one", "_law_other_here", "."] : List Str).Nodup by decide +kernel) (by intro p hp; simp only [List.mem_cons, List.not_mem_nil, or_false] at hp; rcases hp with rfl | rfl <;> rfl) rfl) rfl (di_range2 rfl T.b_range (da_cons (de_int (l := .b)) (da_cons (by exact (de_callB (l' := .b) call_lenA cd_len rfl T.b_len PySem.boot_len (da_cons (DE.b (dv 4)) da_nil))) da_nil))) (fun C s₂ H₂ fp => ⟨(dg_name 0 (show (["_law_k", "_law_one", "_law_other_here", "."] : List Str).Nodup by decide +kernel)), dts_nil, (DE.s (de_tup (da_cons (by exact (de_ix (dv 1) (DE.b (dv 0)))) (da_cons (by exact (de_ix (dv 2) (DE.b (dv 0)))) da_nil))))⟩)))))))))))))
  (by exact (dss_one (ds_retV 2))))))))
theorem ok_head (T : Gm ct_MOST_LEVELS ct_MOST_PARTS mg) (Fu : Fun K "head" "head" s_head f fd) (hmg : mg "head" = some (.ref f)) (hbi : Binds K fd ["term"] []) :
    Av P w K mg base (k + 1) "head" ["term"] true (runF true 1 (g_head)) :=
  av_ok true Fu hmg sc_head hbi fun cdv A outer s H E hr =>
    (dss_one (ds_ret (de_ifx (dt_val (de_isi (l' := .b) "tuple" "tuple" isTy_tuple (DE.b (dv 0)) rfl T.b_isinstance rfl T.b_tuple PyProof.Rows.boot_tuple)) (de_tup (da_cons (by exact (de_ix (dv 0) (de_int (l := .b)))) (da_cons (by exact (de_op (l := .s) op_sub od_sub (de_callB (l' := .b) call_lenA cd_len rfl T.b_len PySem.boot_len (da_cons (DE.b (dv 0)) da_nil)) (de_int (l := .b)))) da_nil))) (de_non (l := .t)))))
theorem ok_places (T : Gm ct_MOST_LEVELS ct_MOST_PARTS mg) (Fu : Fun K "places" "places" s_places f fd) (hmg : mg "places" = some (.ref f)) (hbi : Binds K fd ["term"] []) :
    Av P w K mg base (k + 1) "places" ["term"] true (runF true 1 (g_places)) :=
  av_ok true Fu hmg sc_places hbi fun cdv A outer s H E hr =>
    (dss_one (ds_ret (de_ifx (dt_val (de_isi (l' := .b) "tuple" "tuple" isTy_tuple (DE.b (dv 0)) rfl T.b_isinstance rfl T.b_tuple PyProof.Rows.boot_tuple)) (de_slice (dv 0) (do_some (de_int (l := .b))) do_none) (de_tup da_nil))))
theorem ok_fits_on {f_head : List D → Res D} {f_places : List D → Res D} {f_fits_on : FI} (T : Gm ct_MOST_LEVELS ct_MOST_PARTS mg) (Fu : Fun K "fits_on" "fits_on" s_fits_on f fd) (hmg : mg "fits_on" = some (.ref f)) (hbi : Binds K fd ["pattern", "term", "filling"] []) (A_head : Av P w K mg base k "head" ["term"] true f_head) (A_places : Av P w K mg base k "places" ["term"] true f_places) (A_fits_on : AvI P w K mg base k "fits_on" ["pattern", "term", "filling"] 2 f_fits_on) :
    AvI P w K mg base (k + 1) "fits_on" ["pattern", "term", "filling"] 2 (runI 5 2 (g_fits_on f_head f_places f_fits_on)) :=
  avi_ok Fu hmg sc_fits_on hbi rfl (by decide) fun cdv A outer s H E hr =>
    (dssi_cons (by exact (dsi_if (dt_not (dt_val (de_isi (l' := .b) "tuple" "tuple" isTy_tuple (DE.b (dv 0)) rfl T.b_isinstance rfl T.b_tuple PyProof.Rows.boot_tuple))) (dssi_one (dsi_retSD (Room.u200 hr) 2 (DE.b (dv 0)) (dv 1) (DE.b (dv 1)))) dssi_nil))
  (by exact (dssi_cons (by exact (dsi_if (dt_cmp (op_neD (Room.u200 hr)) od_ne (DE.b (by exact Av.callT A_head hr (da_cons (dv 0) da_nil))) (DE.b (by exact Av.callT A_head hr (da_cons (dv 1) da_nil)))) (dssi_one (dsi_ret (de_bl (l := .b)))) dssi_nil))
  (by exact (dssi_cons (by exact (dsi_for PassesOwn.never rfl (di_zip rfl T.b_zip (by exact (DE.s (by exact Av.callT A_places hr (da_cons (dv 0) da_nil)))) (by exact (DE.s (by exact Av.callT A_places hr (da_cons (dv 1) da_nil))))) (dgi_two rfl (dgi_name 3 (by decide) sc_fits_on.nd) (dgi_name 4 (by decide) sc_fits_on.nd)) (dssi_one (dsi_ifN (by exact AvI.call 2 A_fits_on hr (dv 3) (dv 4)) (dssi_one (dsi_ret (de_bl (l := .b)))) dssi_nil))))
  (by exact (dssi_one (dsi_ret (de_bl (l := .b))))))))))
theorem ok_fitting {f_fits_on : FI} (T : Gm ct_MOST_LEVELS ct_MOST_PARTS mg) (Fu : Fun K "fitting" "fitting" s_fitting f fd) (hmg : mg "fitting" = some (.ref f)) (hbi : Binds K fd ["pattern", "term"] []) (A_fits_on : AvI P w K mg base k "fits_on" ["pattern", "term", "filling"] 2 f_fits_on) :
    Av P w K mg base (k + 1) "fitting" ["pattern", "term"] true (runF true 3 (g_fitting f_fits_on)) :=
  av_ok true Fu hmg sc_fitting hbi fun cdv A outer s H E hr =>
    (dss_cons (by exact (ds_set 2 sc_fitting.nd de_dict0))
  (by exact (dss_one (ds_retIfI (by exact AvI.call 2 A_fits_on hr (dv 0) (dv 1)) (hn := pe_non)))))
theorem ok_level_below {f_places : List D → Res D} (T : Gm ct_MOST_LEVELS ct_MOST_PARTS mg) (Fu : Fun K "level_below" "level_below" s_level_below f fd) (hmg : mg "level_below" = some (.ref f)) (hbi : Binds K fd ["row"] []) (A_places : Av P w K mg base k "places" ["term"] true f_places) :
    Av P w K mg base (k + 1) "level_below" ["row"] true (runF true 3 (g_level_below f_places)) :=
  av_ok true Fu hmg sc_level_below hbi fun cdv A outer s H E hr =>
    (dss_cons (by exact (ds_set 1 sc_level_below.nd (de_lst da_nil)))
  (by exact (dss_cons (by exact (ds_for PassesOwn.never rfl (di_seq (dv 0)) (dg_name 2 sc_level_below.nd) (dss_one (ds_extend 1 (DE.s (by exact Av.callT A_places hr (da_cons (dv 2) da_nil)))))))
  (by exact (dss_one (ds_retV 1))))))
theorem ok_is_great {f_level_below : List D → Res D} (T : Gm ct_MOST_LEVELS ct_MOST_PARTS mg) (Fu : Fun K "is_great" "is_great" s_is_great f fd) (hmg : mg "is_great" = some (.ref f)) (hbi : Binds K fd ["thing"] []) (A_level_below : Av P w K mg base k "level_below" ["row"] true f_level_below) :
    Av P w K mg base (k + 1) "is_great" ["thing"] true (runF true 4 (g_is_great f_level_below)) :=
  av_ok true Fu hmg sc_is_great hbi fun cdv A outer s H E hr =>
    (dss_cons (by exact (ds_setS 1 sc_is_great.nd (DE.s (de_lst (da_cons (dv 0) da_nil)))))
  (by exact (dss_cons (by exact (ds_setS 2 sc_is_great.nd (de_int (l := .s))))
  (by exact (dss_cons (by exact (ds_setS 3 sc_is_great.nd (de_int (l := .s))))
  (by exact (dss_cons (by exact (ds_while 2000 PassesOwn.never (dt_tru (DE.b (dv 1))) (dss_cons (by exact (ds_aug 2 sc_is_great.nd (de_int (l := .b)) ip_add))
    (by exact (dss_cons (by exact (ds_aug 3 sc_is_great.nd (de_callB (l' := .b) call_lenA cd_len rfl T.b_len PySem.boot_len (da_cons (DE.b (dv 1)) da_nil)) ip_add))
    (by exact (dss_cons (by exact (ds_if (DW.dt (dw_or (dt_cmp op_gt od_gt (DE.b (dv 2)) (de_gint (l := .b) rfl T.c_MOST_LEVELS)) (dw_or1 (dt_cmp op_gt od_gt (DE.b (dv 3)) (de_gint (l := .b) rfl T.c_MOST_PARTS))))) (dss_one (ds_ret (de_bl (l := .t)))) dss_nil))
    (by exact (dss_one (ds_setS 1 sc_is_great.nd (DE.s (by exact Av.callT A_level_below hr (da_cons (dv 1) da_nil)))))))))))))
  (by exact (dss_one (ds_ret (de_bl (l := .t))))))))))))
theorem ok_bounded {f_is_great : List D → Res D} (T : Gm ct_MOST_LEVELS ct_MOST_PARTS mg) (Fu : Fun K "bounded" "bounded" s_bounded f fd) (hmg : mg "bounded" = some (.ref f)) (hbi : Binds K fd ["term"] []) (A_is_great : Av P w K mg base k "is_great" ["thing"] true f_is_great) :
    Av P w K mg base (k + 1) "bounded" ["term"] false (runF false 1 (g_bounded f_is_great)) :=
  av_ok false Fu hmg sc_bounded hbi fun cdv A outer s H E hr =>
    (dss_cons (by exact (ds_if (dt_val (DE.b (by exact Av.callT A_is_great hr (da_cons (dv 0) da_nil)))) dss_never dss_nil))
  (by exact (dss_one (ds_retS (dv 0)))))
theorem ok_fit {f_fitting : List D → Res D} {f_bounded : List D → Res D} (T : Gm ct_MOST_LEVELS ct_MOST_PARTS mg) (Fu : Fun K "fit" "fit" s_fit f fd) (hmg : mg "fit" = some (.ref f)) (hbi : Binds K fd ["pattern", "term"] []) (A_fitting : Av P w K mg base k "fitting" ["pattern", "term"] true f_fitting) (A_bounded : Av P w K mg base k "bounded" ["term"] false f_bounded) :
    Av P w K mg base (k + 1) "fit" ["pattern", "term"] true (runF true 4 (g_fit f_fitting f_bounded)) :=
  av_ok true Fu hmg sc_fit hbi fun cdv A outer s H E hr =>
    (dss_cons (by exact (ds_set 2 sc_fit.nd (by exact Av.callT A_fitting hr (da_cons (dv 0) (da_cons (dv 1) da_nil)))))
  (by exact (dss_cons (by exact (ds_if (dt_cmp op_notN od_notN (db 2) (de_non (l := .b))) (dss_one (ds_forK 2 3 PassesOwn.never rfl sc_fit.nd (db_expr (by exact (by exact Av.call A_bounded hr (da_cons (by exact (de_getF (hu_of hr) (dv 2) (DE.b (dv 3)))) da_nil)))))) dss_nil))
  (by exact (dss_one (ds_retV 2))))))
theorem ok__law_right {f__law_due : List D → Res D} {f_fit : List D → Res D} {f__law_whole : List D → Res D} (T : Gm ct_MOST_LEVELS ct_MOST_PARTS mg) (Fu : Fun K "_law_right" "_law_right" s__law_right f fd) (hmg : mg "_law_right" = some (.ref f)) (hbi : Binds K fd ["_law_pattern", "_law_term_here"] []) (A__law_due : Av P w K mg base k "_law_due" ["_law_pattern", "_law_term_here"] true f__law_due) (A_fit : Av P w K mg base k "fit" ["pattern", "term"] true f_fit) (A__law_whole : Av P w K mg base k "_law_whole" ["_law_found"] true f__law_whole) :
    Av P w K mg base (k + 1) "_law_right" ["_law_pattern", "_law_term_here"] true (runF true 4 (g__law_right f__law_due f_fit f__law_whole)) :=
  av_ok true Fu hmg sc__law_right hbi fun cdv A outer s H E hr =>
    (dss_cons (by exact (ds_setS 2 sc__law_right.nd (DE.s (by exact Av.callT A__law_due hr (da_cons (dv 0) (da_cons (dv 1) da_nil))))))
  (by exact (dss_cons (by exact (ds_setS 3 sc__law_right.nd (DE.s (by exact Av.callT A_fit hr (da_cons (dv 0) (da_cons (dv 1) da_nil))))))
  (by exact (dss_cons (by exact (ds_if (dt_cmp op_isN od_isN (DE.b (dv 2)) (de_non (l := .b))) (dss_one (ds_ret (de_cmp (l := .t) op_isN od_isN (DE.b (dv 3)) (de_non (l := .b))))) dss_nil))
  (by exact (dss_cons (by exact (ds_if (DW.dt (dw_or (dt_not (dt_val (de_isi (l' := .b) "dict" "dict" isTy_dict (DE.b (dv 3)) rfl T.b_isinstance rfl T.b_dict boot_dictG))) (dw_or1 (dt_cmp (op_dicNe (Room.u200 hr)) od_dicNe (DE.b (dv 3)) (DE.b (dv 2)))))) (dss_one (ds_ret (de_bl (l := .t)))) dss_nil))
  (by exact (dss_one (ds_ret (de_hold (l' := .t) 3 (by exact (de_callB (l' := .b) (call_allB rfl) cd_all rfl T.b_all PyProof.Rows.boot_all (da_cons (by exact (DE.b (de_comp false ["_law_blank", "."] 1 [] (comp_sc rfl rfl (show (["_law_blank", "."] : List Str).Nodup by decide +kernel) (by intro p hp; cases hp) rfl) rfl (di_held (dv 3)) (fun C s₂ H₂ fp => ⟨(dg_name 0 (show (["_law_blank", "."] : List Str).Nodup by decide +kernel)), dts_nil, (DE.s (by exact Av.callT A__law_whole hr (da_cons (dv 0) da_nil)))⟩)))) da_nil))))))))))))))
theorem ok__law_mixed (T : Gm ct_MOST_LEVELS ct_MOST_PARTS mg) (Fu : Fun K "_law_mixed" "_law_mixed" s__law_mixed f fd) (hmg : mg "_law_mixed" = some (.ref f)) (hbi : Binds K fd ["_law_number", "_law_k"] []) :
    Av P w K mg base (k + 1) "_law_mixed" ["_law_number", "_law_k"] true (runF true 3 (g__law_mixed)) :=
  av_ok true Fu hmg sc__law_mixed hbi fun cdv A outer s H E hr =>
    (dss_cons (by exact (ds_setS 2 sc__law_mixed.nd (de_op (l := .s) op_mod od_mod (DE.b (de_opT op_addD od_add (de_op (l := .s) op_mulB od_mul (DE.b (dv 0)) (de_int (l := .b))) (de_op (l := .s) op_mulB od_mul (DE.b (de_opT op_addD od_add (dv 1) (de_int (l := .s)))) (de_int (l := .b))))) (DE.b (de_opT op_addD od_add (de_op (l := .s) op_pow od_pow (de_int (l := .b)) (de_int (l := .b))) (de_int (l := .s)))))))
  (by exact (dss_one (ds_ret (de_op (l := .t) op_mod od_mod (de_op (l := .b) op_mulB od_mul (DE.b (dv 2)) (DE.b (dv 2))) (DE.b (de_opT op_addD od_add (de_op (l := .s) op_pow od_pow (de_int (l := .b)) (de_int (l := .b))) (de_int (l := .s)))))))))
theorem ok__law_term {f__law_term : List D → Res D} {f__law_mixed : List D → Res D} (T : Gm ct_MOST_LEVELS ct_MOST_PARTS mg) (Fu : Fun K "_law_term" "_law_term" s__law_term f fd) (hmg : mg "_law_term" = some (.ref f)) (hbi : Binds K fd ["_law_number", "_law_names_here", "_law_deep", "_law_free"] []) (A__law_term : Av P w K mg base k "_law_term" ["_law_number", "_law_names_here", "_law_deep", "_law_free"] false f__law_term) (A__law_mixed : Av P w K mg base k "_law_mixed" ["_law_number", "_law_k"] true f__law_mixed) :
    Av P w K mg base (k + 1) "_law_term" ["_law_number", "_law_names_here", "_law_deep", "_law_free"] false (runF false 7 (g__law_term f__law_term f__law_mixed)) :=
  av_ok false Fu hmg sc__law_term hbi fun cdv A outer s H E hr =>
    (dss_cons (by exact (ds_asg (DE.s (de_callN call_divmod cd_divmod rfl T.b_divmod boot_divmodG (da_cons (dv 0) (da_cons (de_int (l := .s)) da_nil)))) (dg_two rfl (dg_name 0 sc__law_term.nd) (dg_name 4 sc__law_term.nd))))
  (by exact (dss_cons (by exact (ds_if (DW.dt (dw_or (dt_cmp (op_eqD (Room.u200 hr)) od_eq (DE.b (dv 4)) (de_int (l := .b))) (dw_or1 (DW.dt (dw_and (dt_cmp (op_eqD (Room.u200 hr)) od_eq (DE.b (dv 2)) (de_int (l := .b))) (dw_and1 (dt_cmp op_lt od_lt (DE.b (dv 4)) (de_int (l := .b))))))))) (dss_one (ds_retS (de_ix (dv 3) (de_op (l := .b) op_mod od_mod (DE.b (dv 0)) (de_callB (l' := .b) call_lenA cd_len rfl T.b_len PySem.boot_len (da_cons (DE.b (dv 3)) da_nil)))))) dss_nil))
  (by exact (dss_cons (by exact (ds_asg (DE.s (de_callN call_divmod cd_divmod rfl T.b_divmod boot_divmodG (da_cons (dv 0) (da_cons (de_int (l := .s)) da_nil)))) (dg_two rfl (dg_name 0 sc__law_term.nd) (dg_name 5 sc__law_term.nd))))
  (by exact (dss_cons (by exact (ds_asg (DE.s (de_callN call_divmod cd_divmod rfl T.b_divmod boot_divmodG (da_cons (dv 0) (da_cons (de_int (l := .s)) da_nil)))) (dg_two rfl (dg_name 0 sc__law_term.nd) (dg_name 6 sc__law_term.nd))))
  (by exact (dss_cons (by exact (ds_if (DW.dt (dw_and (dt_cmp (op_eqD (Room.u200 hr)) od_eq (DE.b (dv 2)) (de_int (l := .b))) (dw_and1 (dt_cmp (op_eqD (Room.u200 hr)) od_eq (de_op (l := .b) op_mod od_mod (DE.b (dv 0)) (de_int (l := .b))) (de_int (l := .b)))))) (dss_one (ds_setS 6 sc__law_term.nd (DE.s (de_opT op_addD od_add (de_int (l := .s)) (de_op (l := .s) op_mod od_mod (de_op (l := .b) op_fdiv od_fdiv (DE.b (dv 0)) (de_int (l := .b))) (de_int (l := .b))))))) dss_nil))
  (by exact (dss_cons (by exact (ds_if (dt_cmp (op_eqD (Room.u200 hr)) od_eq (DE.b (dv 2)) (de_int (l := .b))) (dss_one (ds_setS 6 sc__law_term.nd (de_int (l := .s)))) dss_nil))
  (by exact (dss_one (ds_ret (de_callTy call_tuple_of cd_tuple rfl T.b_tuple PyProof.Rows.boot_tuple (da_cons (by exact (DE.s (de_opT op_addD od_add (DE.s (de_lst (da_cons (by exact (de_ix (dv 1) (DE.b (dv 5)))) da_nil))) (DE.s (de_comp false ["_law_k", "_law_names_here", "_law_free", "_law_number", "_law_deep", "."] 1 [1, 3, 0, 2] (comp_sc rfl rfl (show (["_law_k", "_law_names_here", "_law_free", "_law_number", "_law_deep", "."] : List Str).Nodup by decide +kernel) (by intro p hp; simp only [List.mem_cons, List.not_mem_nil, or_false] at hp; rcases hp with rfl | rfl | rfl | rfl <;> rfl) rfl) rfl (di_range1 rfl T.b_range (da_cons (DE.b (dv 6)) da_nil)) (fun C s₂ H₂ fp => ⟨(dg_name 0 (show (["_law_k", "_law_names_here", "_law_free", "_law_number", "_law_deep", "."] : List Str).Nodup by decide +kernel)), dts_nil, (by exact Av.call A__law_term hr (da_cons (by exact (DE.s (by exact Av.callT A__law_mixed hr (da_cons (dv 3) (da_cons (dv 0) da_nil))))) (da_cons (dv 1) (da_cons (by exact (de_op (l := .s) op_sub od_sub (DE.b (dv 4)) (de_int (l := .b)))) (da_cons (dv 2) da_nil)))))⟩)))))) da_nil))))))))))))))))
theorem ok__law_filled {f__law_whole : List D → Res D} {f__law_filled : List D → Res D} (T : Gm ct_MOST_LEVELS ct_MOST_PARTS mg) (Fu : Fun K "_law_filled" "_law_filled" s__law_filled f fd) (hmg : mg "_law_filled" = some (.ref f)) (hbi : Binds K fd ["_law_term_here", "_law_filling"] []) (A__law_whole : Av P w K mg base k "_law_whole" ["_law_found"] true f__law_whole) (A__law_filled : Av P w K mg base k "_law_filled" ["_law_term_here", "_law_filling"] false f__law_filled) :
    Av P w K mg base (k + 1) "_law_filled" ["_law_term_here", "_law_filling"] false (runF false 2 (g__law_filled f__law_whole f__law_filled)) :=
  av_ok false Fu hmg sc__law_filled hbi fun cdv A outer s H E hr =>
    (dss_cons (by exact (ds_if (dt_val (DE.b (by exact Av.callT A__law_whole hr (da_cons (dv 0) da_nil)))) (dss_one (ds_retS (de_get2 (hu_of hr) (dv 1) (DE.b (dv 0)) (dv 0)))) dss_nil))
  (by exact (dss_one (ds_ret (de_callTy call_tuple_of cd_tuple rfl T.b_tuple PyProof.Rows.boot_tuple (da_cons (by exact (DE.s (de_opT op_addD od_add (DE.s (de_lst (da_cons (by exact (de_ix (dv 0) (de_int (l := .b)))) da_nil))) (DE.s (de_comp false ["_law_place", "_law_filling", "."] 1 [1] (comp_sc rfl rfl (show (["_law_place", "_law_filling", "."] : List Str).Nodup by decide +kernel) (by intro p hp; simp only [List.mem_cons, List.not_mem_nil, or_false] at hp; rcases hp with rfl <;> rfl) rfl) rfl (di_seq (DE.s (de_slice (dv 0) (do_some (de_int (l := .b))) do_none))) (fun C s₂ H₂ fp => ⟨(dg_name 0 (show (["_law_place", "_law_filling", "."] : List Str).Nodup by decide +kernel)), dts_nil, (by exact Av.call A__law_filled hr (da_cons (dv 0) (da_cons (dv 1) da_nil)))⟩)))))) da_nil))))))
theorem ok__law_paths {f__law_whole : List D → Res D} {f__law_paths : List D → Res D} (T : Gm ct_MOST_LEVELS ct_MOST_PARTS mg) (Fu : Fun K "_law_paths" "_law_paths" s__law_paths f fd) (hmg : mg "_law_paths" = some (.ref f)) (hbi : Binds K fd ["_law_term_here", "_law_path"] []) (A__law_whole : Av P w K mg base k "_law_whole" ["_law_found"] true f__law_whole) (A__law_paths : Av P w K mg base k "_law_paths" ["_law_term_here", "_law_path"] true f__law_paths) :
    Av P w K mg base (k + 1) "_law_paths" ["_law_term_here", "_law_path"] true (runF true 4 (g__law_paths f__law_whole f__law_paths)) :=
  av_ok true Fu hmg sc__law_paths hbi fun cdv A outer s H E hr =>
    (dss_cons (by exact (ds_set 2 sc__law_paths.nd (de_lst (da_cons (dv 1) da_nil))))
  (by exact (dss_cons (by exact (ds_if (dt_not (dt_val (DE.b (by exact Av.callT A__law_whole hr (da_cons (dv 0) da_nil))))) (dss_one (ds_for PassesOwn.never rfl (di_range1 rfl T.b_range (da_cons (by exact (de_op (l := .b) op_sub od_sub (de_callB (l' := .b) call_lenA cd_len rfl T.b_len PySem.boot_len (da_cons (DE.b (dv 0)) da_nil)) (de_int (l := .b)))) da_nil)) (dg_name 3 sc__law_paths.nd) (dss_one (ds_extend 2 (DE.s (by exact Av.callT A__law_paths hr (da_cons (by exact (de_ix (dv 0) (DE.b (de_opT op_addE od_addE (de_int (l := .s)) (dv 3))))) (da_cons (by exact (DE.s (de_opT op_addE od_addE (dv 1) (DE.s (de_tup (da_cons (dv 3) da_nil)))))) da_nil)))))))) dss_nil))
  (by exact (dss_one (ds_retV 2))))))
theorem ok__law_other {f__law_whole : List D → Res D} {f__law_term : List D → Res D} (T : Gm ct_MOST_LEVELS ct_MOST_PARTS mg) (Fu : Fun K "_law_other" "_law_other" s__law_other f fd) (hmg : mg "_law_other" = some (.ref f)) (hbi : Binds K fd ["_law_number", "_law_piece", "_law_names_here", "_law_free"] []) (A__law_whole : Av P w K mg base k "_law_whole" ["_law_found"] true f__law_whole) (A__law_term : Av P w K mg base k "_law_term" ["_law_number", "_law_names_here", "_law_deep", "_law_free"] false f__law_term) :
    Av P w K mg base (k + 1) "_law_other" ["_law_number", "_law_piece", "_law_names_here", "_law_free"] false (runF false 5 (g__law_other f__law_whole f__law_term)) :=
  av_ok false Fu hmg sc__law_other hbi fun cdv A outer s H E hr =>
    (dss_cons (by exact (ds_asg (DE.s (de_callN call_divmod cd_divmod rfl T.b_divmod boot_divmodG (da_cons (dv 0) (da_cons (de_int (l := .s)) da_nil)))) (dg_two rfl (dg_name 0 sc__law_other.nd) (dg_name 4 sc__law_other.nd))))
  (by exact (dss_cons (by exact (ds_if (DW.dt (dw_or (dt_cmp (op_eqD (Room.u200 hr)) od_eq (DE.b (dv 4)) (de_int (l := .b))) (dw_or1 (dt_val (DE.b (by exact Av.callT A__law_whole hr (da_cons (dv 1) da_nil))))))) (dss_one (ds_retS (by exact Av.call A__law_term hr (da_cons (dv 0) (da_cons (dv 2) (da_cons (de_int (l := .s)) (da_cons (dv 3) da_nil))))))) dss_nil))
  (by exact (dss_cons (by exact (ds_if (dt_cmp (op_eqD (Room.u200 hr)) od_eq (DE.b (dv 4)) (de_int (l := .b))) (dss_one (ds_ret (de_opT op_addD od_add (DE.s (de_tup (da_cons (by exact (de_ix (dv 2) (de_op (l := .b) op_mod od_mod (DE.b (dv 0)) (de_int (l := .b))))) da_nil))) (DE.s (de_slice (dv 1) (do_some (de_int (l := .b))) do_none))))) dss_nil))
  (by exact (dss_cons (by exact (ds_if (DW.dt (dw_and (dt_cmp (op_eqD (Room.u200 hr)) od_eq (DE.b (dv 4)) (de_int (l := .b))) (dw_and1 (dt_cmp op_lt od_lt (de_callB (l' := .b) call_lenA cd_len rfl T.b_len PySem.boot_len (da_cons (DE.b (dv 1)) da_nil)) (de_int (l := .b)))))) (dss_one (ds_ret (de_opT op_addD od_add (dv 1) (DE.s (de_tup (da_cons (by exact (de_ix (dv 3) (de_op (l := .b) op_mod od_mod (DE.b (dv 0)) (de_int (l := .b))))) da_nil)))))) dss_nil))
  (by exact (dss_cons (by exact (ds_if (DW.dt (dw_and (dt_cmp (op_eqD (Room.u200 hr)) od_eq (DE.b (dv 4)) (de_int (l := .b))) (dw_and1 (dt_cmp op_gt od_gt (de_callB (l' := .b) call_lenA cd_len rfl T.b_len PySem.boot_len (da_cons (DE.b (dv 1)) da_nil)) (de_int (l := .b)))))) (dss_one (ds_ret (de_slice (dv 1) do_none (do_some (de_neg (l' := .b) (de_int (l := .b))))))) dss_nil))
  (by exact (dss_cons (by exact (ds_if (DW.dt (dw_and (dt_cmp (op_eqD (Room.u200 hr)) od_eq (DE.b (dv 4)) (de_int (l := .b))) (dw_and1 (dt_cmp op_gt od_gt (de_callB (l' := .b) call_lenA cd_len rfl T.b_len PySem.boot_len (da_cons (DE.b (dv 1)) da_nil)) (de_int (l := .b)))))) (dss_one (ds_ret (de_opT op_addD od_add (DE.s (de_opT op_addD od_add (DE.s (de_slice (dv 1) do_none (do_some (de_int (l := .b))))) (DE.s (de_tup (da_cons (by exact (de_ix (dv 1) (de_int (l := .b)))) (da_cons (by exact (de_ix (dv 1) (de_int (l := .b)))) da_nil)))))) (DE.s (de_slice (dv 1) (do_some (de_int (l := .b))) do_none))))) dss_nil))
  (by exact (dss_cons (by exact (ds_if (dt_cmp (op_eqD (Room.u200 hr)) od_eq (DE.b (dv 4)) (de_int (l := .b))) (dss_one (ds_retS (de_ix (dv 3) (de_op (l := .b) op_mod od_mod (DE.b (dv 0)) (de_int (l := .b)))))) dss_nil))
  (by exact (dss_one (ds_ret (de_tup (da_cons (by exact (de_ix (dv 2) (de_op (l := .b) op_mod od_mod (DE.b (dv 0)) (de_int (l := .b))))) (da_cons (dv 1) da_nil)))))))))))))))))))
theorem ok__law_put {f__law_put : List D → Res D} (T : Gm ct_MOST_LEVELS ct_MOST_PARTS mg) (Fu : Fun K "_law_put" "_law_put" s__law_put f fd) (hmg : mg "_law_put" = some (.ref f)) (hbi : Binds K fd ["_law_term_here", "_law_path", "_law_other_here"] []) (A__law_put : Av P w K mg base k "_law_put" ["_law_term_here", "_law_path", "_law_other_here"] false f__law_put) :
    Av P w K mg base (k + 1) "_law_put" ["_law_term_here", "_law_path", "_law_other_here"] false (runF false 4 (g__law_put f__law_put)) :=
  av_ok false Fu hmg sc__law_put hbi fun cdv A outer s H E hr =>
    (dss_cons (by exact (ds_if (dt_cmp (op_eqD (Room.u200 hr)) od_eq (DE.b (dv 1)) (DE.b (de_tup da_nil))) (dss_one (ds_retS (dv 2))) dss_nil))
  (by exact (dss_cons (by exact (ds_setS 3 sc__law_put.nd (DE.s (de_opT op_addD od_add (de_int (l := .s)) (de_ix (dv 1) (de_int (l := .b)))))))
  (by exact (dss_one (ds_ret (de_opT op_addD od_add (DE.s (de_opT op_addD od_add (DE.s (de_slice (dv 0) do_none (do_some (DE.b (dv 3))))) (DE.s (de_tup (da_cons (by exact (by exact Av.call A__law_put hr (da_cons (by exact (de_ix (dv 0) (DE.b (dv 3)))) (da_cons (by exact (DE.s (de_slice (dv 1) (do_some (de_int (l := .b))) do_none))) (da_cons (dv 2) da_nil))))) da_nil))))) (DE.s (de_slice (dv 0) (do_some (DE.b (de_opT op_addD od_add (dv 3) (de_int (l := .s))))) do_none)))))))))
theorem ok__law_part (T : Gm ct_MOST_LEVELS ct_MOST_PARTS mg) (Fu : Fun K "_law_part" "_law_part" s__law_part f fd) (hmg : mg "_law_part" = some (.ref f)) (hbi : Binds K fd ["_law_term_here", "_law_path"] []) :
    Av P w K mg base (k + 1) "_law_part" ["_law_term_here", "_law_path"] false (runF false 3 (g__law_part)) :=
  av_ok false Fu hmg sc__law_part hbi fun cdv A outer s H E hr =>
    (dss_cons (by exact (ds_for PassesOwn.never rfl (di_seq (dv 1)) (dg_name 2 sc__law_part.nd) (dss_one (ds_setS 0 sc__law_part.nd (de_ix (dv 0) (DE.b (de_opT op_addD od_add (de_int (l := .s)) (dv 2))))))))
  (by exact (dss_one (ds_retS (dv 0)))))
theorem ok__law_count {f__law_whole : List D → Res D} {f__law_count : List D → Res D} (T : Gm ct_MOST_LEVELS ct_MOST_PARTS mg) (Fu : Fun K "_law_count" "_law_count" s__law_count f fd) (hmg : mg "_law_count" = some (.ref f)) (hbi : Binds K fd ["_law_term_here"] []) (A__law_whole : Av P w K mg base k "_law_whole" ["_law_found"] true f__law_whole) (A__law_count : Av P w K mg base k "_law_count" ["_law_term_here"] true f__law_count) :
    Av P w K mg base (k + 1) "_law_count" ["_law_term_here"] true (runF true 1 (g__law_count f__law_whole f__law_count)) :=
  av_ok true Fu hmg sc__law_count hbi fun cdv A outer s H E hr =>
    (dss_cons (by exact (ds_if (dt_val (DE.b (by exact Av.callT A__law_whole hr (da_cons (dv 0) da_nil)))) (dss_one (ds_ret (de_int (l := .t)))) dss_nil))
  (by exact (dss_one (ds_ret (de_opT op_addD od_add (de_int (l := .s)) (de_callB (l' := .s) (call_sumL rfl) cd_sumL rfl T.b_sum boot_sumG (da_cons (by exact (DE.b (de_comp false ["_law_place", "."] 1 [] (comp_sc rfl rfl (show (["_law_place", "."] : List Str).Nodup by decide +kernel) (by intro p hp; cases hp) rfl) rfl (di_seq (DE.s (de_slice (dv 0) (do_some (de_int (l := .b))) do_none))) (fun C s₂ H₂ fp => ⟨(dg_name 0 (show (["_law_place", "."] : List Str).Nodup by decide +kernel)), dts_nil, (DE.s (by exact Av.callT A__law_count hr (da_cons (dv 0) da_nil)))⟩)))) da_nil)))))))
theorem ok_law {f__law_spread : List D → Res D} {f__law_names : List D → Res D} {f__law_right : List D → Res D} {f__law_term : List D → Res D} {f__law_filled : List D → Res D} {f__law_paths : List D → Res D} {f__law_other : List D → Res D} {f__law_put : List D → Res D} {f__law_mixed : List D → Res D} {f__law_part : List D → Res D} {f__law_count : List D → Res D} (T : Gm ct_MOST_LEVELS ct_MOST_PARTS mg) (Fu : Fun K "law" "law" s_law f fd) (A__law_spread : Av P w K mg base k "_law_spread" ["_law_cell", "_law_k"] true f__law_spread) (A__law_names : Av P w K mg base k "_law_names" ["_law_number"] true f__law_names) (A__law_right : Av P w K mg base k "_law_right" ["_law_pattern", "_law_term_here"] true f__law_right) (A__law_term : Av P w K mg base k "_law_term" ["_law_number", "_law_names_here", "_law_deep", "_law_free"] false f__law_term) (A__law_filled : Av P w K mg base k "_law_filled" ["_law_term_here", "_law_filling"] false f__law_filled) (A__law_paths : Av P w K mg base k "_law_paths" ["_law_term_here", "_law_path"] true f__law_paths) (A__law_other : Av P w K mg base k "_law_other" ["_law_number", "_law_piece", "_law_names_here", "_law_free"] false f__law_other) (A__law_put : Av P w K mg base k "_law_put" ["_law_term_here", "_law_path", "_law_other_here"] false f__law_put) (A__law_mixed : Av P w K mg base k "_law_mixed" ["_law_number", "_law_k"] true f__law_mixed) (A__law_part : Av P w K mg base k "_law_part" ["_law_term_here", "_law_path"] false f__law_part) (A__law_count : Av P w K mg base k "_law_count" ["_law_term_here"] true f__law_count) :
    FnOk P w K mg base CX0 (k + 1) f fd ["_law_script"] (spF K true 1 (runF true 18 (g_law f__law_spread f__law_names f__law_right f__law_term f__law_filled f__law_paths f__law_other f__law_put f__law_mixed f__law_part f__law_count))) :=
  fn_of_body true Fu sc_law fun cdv A outer s H E hr =>
    (dss_cons (by exact (ds_setS 1 sc_law.nd (DE.s (by exact Av.callT A__law_spread hr (da_cons (by exact (de_ix (DE.s (de_opT op_catS od_addS (dv 0) (DE.s (de_lst (da_cons (de_int (l := .s)) da_nil))))) (de_int (l := .b)))) (da_cons (de_int (l := .s)) da_nil))))))
  (by exact (dss_cons (by exact (ds_setS 2 sc_law.nd (DE.s (by exact Av.callT A__law_names hr (da_cons (dv 1) da_nil)))))
  (by exact (dss_cons (by exact (ds_setS 3 sc_law.nd (de_op (l := .s) op_mod od_mod (de_op (l := .b) op_fdivW od_fdivW (DE.b (dv 1)) (de_op (l := .b) op_pow od_pow (de_int (l := .b)) (de_int (l := .b)))) (de_int (l := .b)))))
  (by exact (dss_cons (by exact (ds_setS 4 sc_law.nd (DE.s (de_lst (da_cons (dv 3) (da_cons (by exact (de_op (l := .s) op_mod od_mod (DE.b (de_opT op_addD od_add (DE.s (de_opT op_addD od_add (dv 3) (de_int (l := .s)))) (de_op (l := .s) op_mod od_mod (de_op (l := .b) op_fdivW od_fdivW (DE.b (dv 1)) (de_op (l := .b) op_pow od_pow (de_int (l := .b)) (de_int (l := .b)))) (de_int (l := .b))))) (de_int (l := .b)))) (da_cons (by exact (de_op (l := .s) op_mod od_mod (DE.b (de_opT op_addD od_add (DE.s (de_opT op_addD od_add (dv 3) (de_int (l := .s)))) (de_op (l := .s) op_mod od_mod (de_op (l := .b) op_fdivW od_fdivW (DE.b (dv 1)) (de_op (l := .b) op_pow od_pow (de_int (l := .b)) (de_int (l := .b)))) (de_int (l := .b))))) (de_int (l := .b)))) da_nil)))))))
  (by exact (dss_cons (by exact (ds_for PassesOwn.never rfl (di_enum rfl T.b_enumerate (by exact (DE.s (de_sliceS (dv 0) do_none (do_some (de_int (l := .b))))))) (dg_two rfl (dg_name 5 sc_law.nd) (dg_name 6 sc_law.nd)) (dss_cons (by exact (ds_setS 7 sc_law.nd (DE.s (by exact Av.callT A__law_spread hr (da_cons (dv 6) (da_cons (by exact (DE.s (de_opT op_addD od_add (dv 5) (de_int (l := .s))))) da_nil))))))
    (by exact (dss_cons (by exact (ds_setS 8 sc_law.nd (by exact Av.call A__law_term hr (da_cons (by exact (de_op (l := .s) op_fdivW od_fdivW (DE.b (dv 7)) (de_int (l := .b)))) (da_cons (dv 2) (da_cons (de_int (l := .s)) (da_cons (dv 4) da_nil)))))))
    (by exact (dss_cons (by exact (ds_setS 9 sc_law.nd (de_callB (l' := .s) call_lenA cd_len rfl T.b_len PySem.boot_len (da_cons (by exact (DE.b (by exact Av.callT A__law_paths hr (da_cons (dv 8) (da_cons (DE.s (de_tup da_nil)) da_nil))))) da_nil))))
    (by exact (dss_cons (by exact (ds_set 10 sc_law.nd de_dict0))
    (by exact (dss_cons (by exact (ds_for PassesOwn.never rfl (di_enum rfl T.b_enumerate (dv 4)) (dg_two rfl (dg_name 16 sc_law.nd) (dg_name 17 sc_law.nd)) (dss_one (ds_dput 10 (hu_of hr) (DE.b (dv 17)) (by exact Av.call A__law_term hr (da_cons (by exact (DE.s (by exact Av.callT A__law_mixed hr (da_cons (dv 7) (da_cons (by exact (DE.s (de_opT op_addD od_add (de_int (l := .s)) (dv 16)))) da_nil))))) (da_cons (dv 2) (da_cons (by exact (de_op (l := .s) op_sub od_sub (de_op (l := .b) op_sub od_sub (de_int (l := .b)) (de_callTyB call_intB cd_intB rfl T.b_int PyProof.Rows.boot_int (da_cons (by exact (de_cmp (l := .b) op_gt od_gt (DE.b (dv 9)) (de_int (l := .b)))) da_nil))) (de_callTyB call_intB cd_intB rfl T.b_int PyProof.Rows.boot_int (da_cons (by exact (de_cmp (l := .b) op_gt od_gt (DE.b (dv 9)) (de_int (l := .b)))) da_nil)))) (da_cons (dv 4) da_nil)))))))))
    (by exact (dss_cons (by exact (ds_setS 11 sc_law.nd (DE.chk (l' := .s) (by exact Av.callA A__law_filled hr (da_cons (DE.b (dv 8)) (da_cons (db 10) da_nil))))))
    (by exact (dss_cons (by exact (ds_setS 12 sc_law.nd (DE.s (by exact Av.callT A__law_paths hr (da_cons (dv 8) (da_cons (DE.s (de_tup da_nil)) da_nil))))))
    (by exact (dss_cons (by exact (ds_setS 13 sc_law.nd (de_ix (dv 12) (de_op (l := .b) op_mod od_mod (DE.b (by exact Av.callT A__law_mixed hr (da_cons (dv 7) (da_cons (de_int (l := .s)) da_nil)))) (de_callB (l' := .b) call_lenA cd_len rfl T.b_len PySem.boot_len (da_cons (DE.b (dv 12)) da_nil))))))
    (by exact (dss_cons (by exact (ds_setS 14 sc_law.nd (by exact Av.call A__law_other hr (da_cons (by exact (DE.s (by exact Av.callT A__law_mixed hr (da_cons (dv 7) (da_cons (de_int (l := .s)) da_nil))))) (da_cons (by exact (by exact Av.call A__law_part hr (da_cons (dv 11) (da_cons (dv 13) da_nil)))) (da_cons (dv 2) (da_cons (dv 4) da_nil)))))))
    (by exact (dss_cons (by exact (ds_setS 15 sc_law.nd (by exact Av.call A__law_put hr (da_cons (dv 11) (da_cons (dv 13) (da_cons (dv 14) da_nil))))))
    (by exact (dss_cons (by exact (ds_if (dt_cmp (op_eqD (Room.u200 hr)) od_eq (de_op (l := .b) op_mod od_mod (DE.b (dv 7)) (de_int (l := .b))) (de_int (l := .b))) (dss_one (ds_setS 15 sc_law.nd (by exact Av.call A__law_term hr (da_cons (by exact (DE.s (by exact Av.callT A__law_mixed hr (da_cons (dv 7) (da_cons (de_int (l := .s)) da_nil))))) (da_cons (dv 2) (da_cons (de_int (l := .s)) (da_cons (dv 4) da_nil))))))) dss_nil))
    (by exact (dss_cons (by exact (ds_if (dt_cmp op_gt od_gt (DE.b (by exact Av.callT A__law_count hr (da_cons (dv 15) da_nil))) (de_int (l := .b))) (dss_one ds_continue) dss_nil))
    (by exact (dss_one (ds_if (DW.dt (dw_or (dt_not (dt_val (DE.b (by exact Av.callT A__law_right hr (da_cons (dv 8) (da_cons (dv 15) da_nil)))))) (dw_or1 (dt_not (dt_val (DE.b (by exact Av.callT A__law_right hr (da_cons (dv 15) (da_cons (dv 8) da_nil))))))))) (dss_one (ds_ret (de_bl (l := .t)))) dss_nil))))))))))))))))))))))))))))
  (by exact (dss_cons (by exact (ds_if (dt_not (dt_val (DE.b (by exact Av.callT A__law_right hr (da_cons (dv 3) (da_cons (by exact (DE.s (de_tup (da_cons (by exact (de_ix (dv 2) (de_int (l := .b)))) (da_cons (dv 3) da_nil))))) da_nil)))))) (dss_one (ds_ret (de_bl (l := .t)))) dss_nil))
  (by exact (dss_one (ds_ret (by exact Av.callT A__law_right hr (da_cons (by exact (DE.s (de_tup (da_cons (by exact (de_ix (dv 2) (de_int (l := .b)))) (da_cons (dv 3) (da_cons (dv 3) da_nil)))))) (da_cons (by exact (DE.s (de_tup (da_cons (by exact (de_ix (dv 2) (de_int (l := .b)))) (da_cons (dv 3) (da_cons (by exact (de_ix (dv 4) (de_int (l := .b)))) da_nil)))))) da_nil)))))))))))))))))
end
end G

set_option Elab.async false
set_option linter.all false
set_option maxRecDepth 100000
set_option maxHeartbeats 4000000
namespace G
open PySem PySem.Spec L2 M
open PyProof.Rows hiding St
theorem all_mk {l : PySem.W.OpenLaw} {w : World} {K : PySem.W.Frag} {h : Heap} {mg : Str → Option Value} {fa p0 p1 p2 p3 p4 p5 p6 p7 p8 p9 p10 p11 p12 p13 p14 p15 p16 p17 p18 p19 p20 p21 : Addr} (KX : K.In h) (G : h.Ns mainGlobals mg) (hfa : mg "law" = some (.ref fa))
    {od0 an0 od1 an1 od2 an2 od3 an3 od4 an4 od5 an5 od6 an6 od7 an7 od8 an8 od9 an9 od10 an10 od11 an11 od12 an12 od13 an13 od14 an14 od15 an15 od16 an16 od17 an17 od18 an18 od19 an19 od20 an20 od21 an21 : Option Addr} {sl0 sl1 sl2 sl3 sl4 sl5 sl6 sl7 sl8 sl9 sl10 sl11 sl12 sl13 sl14 sl15 sl16 sl17 sl18 sl19 sl20 sl21 : Array (Option Value)} {oc0 kV0 dc0 pm0 cd0 ct0 oc1 kV1 dc1 pm1 cd1 ct1 oc2 kV2 dc2 pm2 cd2 ct2 oc3 kV3 dc3 pm3 cd3 ct3 oc4 kV4 dc4 pm4 cd4 ct4 oc5 kV5 dc5 pm5 cd5 ct5 oc6 kV6 dc6 pm6 cd6 ct6 oc7 kV7 dc7 pm7 cd7 ct7 oc8 kV8 dc8 pm8 cd8 ct8 oc9 kV9 dc9 pm9 cd9 ct9 oc10 kV10 dc10 pm10 cd10 ct10 oc11 kV11 dc11 pm11 cd11 ct11 oc12 kV12 dc12 pm12 cd12 ct12 oc13 kV13 dc13 pm13 cd13 ct13 oc14 kV14 dc14 pm14 cd14 ct14 oc15 kV15 dc15 pm15 cd15 ct15 oc16 kV16 dc16 pm16 cd16 ct16 oc17 kV17 dc17 pm17 cd17 ct17 oc18 kV18 dc18 pm18 cd18 ct18 oc19 kV19 dc19 pm19 cd19 ct19 oc20 kV20 dc20 pm20 cd20 ct20 oc21 kV21 dc21 pm21 cd21 ct21 : Value} {ct_MOST_LEVELS ct_MOST_PARTS : Tok}
    (a0 : PySem.W.nsIn K mainGlobals "_law_spread" = some (some (.ref p0))) (l0 : K.lookup p0 = some ⟨oc0, od0, .func (PySem.W.fnOf "_law_spread" "_law_spread" (defArgs s__law_spread) (defBody s__law_spread) (defScope s__law_spread) .none kV0 dc0 pm0 an0 cd0 ct0), sl0⟩) (c0 : PySem.W.codeIn K cd0 "_law_spread" = true) (k0 : PySem.W.keepIn K (.ref p0) = true)
    (a1 : PySem.W.nsIn K mainGlobals "_law_names" = some (some (.ref p1))) (l1 : K.lookup p1 = some ⟨oc1, od1, .func (PySem.W.fnOf "_law_names" "_law_names" (defArgs s__law_names) (defBody s__law_names) (defScope s__law_names) .none kV1 dc1 pm1 an1 cd1 ct1), sl1⟩) (c1 : PySem.W.codeIn K cd1 "_law_names" = true) (k1 : PySem.W.keepIn K (.ref p1) = true)
    (a2 : PySem.W.nsIn K mainGlobals "_law_whole" = some (some (.ref p2))) (l2 : K.lookup p2 = some ⟨oc2, od2, .func (PySem.W.fnOf "_law_whole" "_law_whole" (defArgs s__law_whole) (defBody s__law_whole) (defScope s__law_whole) .none kV2 dc2 pm2 an2 cd2 ct2), sl2⟩) (c2 : PySem.W.codeIn K cd2 "_law_whole" = true) (k2 : PySem.W.keepIn K (.ref p2) = true)
    (a3 : PySem.W.nsIn K mainGlobals "_law_due" = some (some (.ref p3))) (l3 : K.lookup p3 = some ⟨oc3, od3, .func (PySem.W.fnOf "_law_due" "_law_due" (defArgs s__law_due) (defBody s__law_due) (defScope s__law_due) .none kV3 dc3 pm3 an3 cd3 ct3), sl3⟩) (c3 : PySem.W.codeIn K cd3 "_law_due" = true) (k3 : PySem.W.keepIn K (.ref p3) = true)
    (a4 : PySem.W.nsIn K mainGlobals "head" = some (some (.ref p4))) (l4 : K.lookup p4 = some ⟨oc4, od4, .func (PySem.W.fnOf "head" "head" (defArgs s_head) (defBody s_head) (defScope s_head) .none kV4 dc4 pm4 an4 cd4 ct4), sl4⟩) (c4 : PySem.W.codeIn K cd4 "head" = true) (k4 : PySem.W.keepIn K (.ref p4) = true)
    (a5 : PySem.W.nsIn K mainGlobals "places" = some (some (.ref p5))) (l5 : K.lookup p5 = some ⟨oc5, od5, .func (PySem.W.fnOf "places" "places" (defArgs s_places) (defBody s_places) (defScope s_places) .none kV5 dc5 pm5 an5 cd5 ct5), sl5⟩) (c5 : PySem.W.codeIn K cd5 "places" = true) (k5 : PySem.W.keepIn K (.ref p5) = true)
    (a6 : PySem.W.nsIn K mainGlobals "fits_on" = some (some (.ref p6))) (l6 : K.lookup p6 = some ⟨oc6, od6, .func (PySem.W.fnOf "fits_on" "fits_on" (defArgs s_fits_on) (defBody s_fits_on) (defScope s_fits_on) .none kV6 dc6 pm6 an6 cd6 ct6), sl6⟩) (c6 : PySem.W.codeIn K cd6 "fits_on" = true) (k6 : PySem.W.keepIn K (.ref p6) = true)
    (a7 : PySem.W.nsIn K mainGlobals "fitting" = some (some (.ref p7))) (l7 : K.lookup p7 = some ⟨oc7, od7, .func (PySem.W.fnOf "fitting" "fitting" (defArgs s_fitting) (defBody s_fitting) (defScope s_fitting) .none kV7 dc7 pm7 an7 cd7 ct7), sl7⟩) (c7 : PySem.W.codeIn K cd7 "fitting" = true) (k7 : PySem.W.keepIn K (.ref p7) = true)
    (a8 : PySem.W.nsIn K mainGlobals "level_below" = some (some (.ref p8))) (l8 : K.lookup p8 = some ⟨oc8, od8, .func (PySem.W.fnOf "level_below" "level_below" (defArgs s_level_below) (defBody s_level_below) (defScope s_level_below) .none kV8 dc8 pm8 an8 cd8 ct8), sl8⟩) (c8 : PySem.W.codeIn K cd8 "level_below" = true) (k8 : PySem.W.keepIn K (.ref p8) = true)
    (a9 : PySem.W.nsIn K mainGlobals "is_great" = some (some (.ref p9))) (l9 : K.lookup p9 = some ⟨oc9, od9, .func (PySem.W.fnOf "is_great" "is_great" (defArgs s_is_great) (defBody s_is_great) (defScope s_is_great) .none kV9 dc9 pm9 an9 cd9 ct9), sl9⟩) (c9 : PySem.W.codeIn K cd9 "is_great" = true) (k9 : PySem.W.keepIn K (.ref p9) = true)
    (a10 : PySem.W.nsIn K mainGlobals "bounded" = some (some (.ref p10))) (l10 : K.lookup p10 = some ⟨oc10, od10, .func (PySem.W.fnOf "bounded" "bounded" (defArgs s_bounded) (defBody s_bounded) (defScope s_bounded) .none kV10 dc10 pm10 an10 cd10 ct10), sl10⟩) (c10 : PySem.W.codeIn K cd10 "bounded" = true) (k10 : PySem.W.keepIn K (.ref p10) = true)
    (a11 : PySem.W.nsIn K mainGlobals "fit" = some (some (.ref p11))) (l11 : K.lookup p11 = some ⟨oc11, od11, .func (PySem.W.fnOf "fit" "fit" (defArgs s_fit) (defBody s_fit) (defScope s_fit) .none kV11 dc11 pm11 an11 cd11 ct11), sl11⟩) (c11 : PySem.W.codeIn K cd11 "fit" = true) (k11 : PySem.W.keepIn K (.ref p11) = true)
    (a12 : PySem.W.nsIn K mainGlobals "_law_right" = some (some (.ref p12))) (l12 : K.lookup p12 = some ⟨oc12, od12, .func (PySem.W.fnOf "_law_right" "_law_right" (defArgs s__law_right) (defBody s__law_right) (defScope s__law_right) .none kV12 dc12 pm12 an12 cd12 ct12), sl12⟩) (c12 : PySem.W.codeIn K cd12 "_law_right" = true) (k12 : PySem.W.keepIn K (.ref p12) = true)
    (a13 : PySem.W.nsIn K mainGlobals "_law_mixed" = some (some (.ref p13))) (l13 : K.lookup p13 = some ⟨oc13, od13, .func (PySem.W.fnOf "_law_mixed" "_law_mixed" (defArgs s__law_mixed) (defBody s__law_mixed) (defScope s__law_mixed) .none kV13 dc13 pm13 an13 cd13 ct13), sl13⟩) (c13 : PySem.W.codeIn K cd13 "_law_mixed" = true) (k13 : PySem.W.keepIn K (.ref p13) = true)
    (a14 : PySem.W.nsIn K mainGlobals "_law_term" = some (some (.ref p14))) (l14 : K.lookup p14 = some ⟨oc14, od14, .func (PySem.W.fnOf "_law_term" "_law_term" (defArgs s__law_term) (defBody s__law_term) (defScope s__law_term) .none kV14 dc14 pm14 an14 cd14 ct14), sl14⟩) (c14 : PySem.W.codeIn K cd14 "_law_term" = true) (k14 : PySem.W.keepIn K (.ref p14) = true)
    (a15 : PySem.W.nsIn K mainGlobals "_law_filled" = some (some (.ref p15))) (l15 : K.lookup p15 = some ⟨oc15, od15, .func (PySem.W.fnOf "_law_filled" "_law_filled" (defArgs s__law_filled) (defBody s__law_filled) (defScope s__law_filled) .none kV15 dc15 pm15 an15 cd15 ct15), sl15⟩) (c15 : PySem.W.codeIn K cd15 "_law_filled" = true) (k15 : PySem.W.keepIn K (.ref p15) = true)
    (a16 : PySem.W.nsIn K mainGlobals "_law_paths" = some (some (.ref p16))) (l16 : K.lookup p16 = some ⟨oc16, od16, .func (PySem.W.fnOf "_law_paths" "_law_paths" (defArgs s__law_paths) (defBody s__law_paths) (defScope s__law_paths) .none kV16 dc16 pm16 an16 cd16 ct16), sl16⟩) (c16 : PySem.W.codeIn K cd16 "_law_paths" = true) (k16 : PySem.W.keepIn K (.ref p16) = true)
    (a17 : PySem.W.nsIn K mainGlobals "_law_other" = some (some (.ref p17))) (l17 : K.lookup p17 = some ⟨oc17, od17, .func (PySem.W.fnOf "_law_other" "_law_other" (defArgs s__law_other) (defBody s__law_other) (defScope s__law_other) .none kV17 dc17 pm17 an17 cd17 ct17), sl17⟩) (c17 : PySem.W.codeIn K cd17 "_law_other" = true) (k17 : PySem.W.keepIn K (.ref p17) = true)
    (a18 : PySem.W.nsIn K mainGlobals "_law_put" = some (some (.ref p18))) (l18 : K.lookup p18 = some ⟨oc18, od18, .func (PySem.W.fnOf "_law_put" "_law_put" (defArgs s__law_put) (defBody s__law_put) (defScope s__law_put) .none kV18 dc18 pm18 an18 cd18 ct18), sl18⟩) (c18 : PySem.W.codeIn K cd18 "_law_put" = true) (k18 : PySem.W.keepIn K (.ref p18) = true)
    (a19 : PySem.W.nsIn K mainGlobals "_law_part" = some (some (.ref p19))) (l19 : K.lookup p19 = some ⟨oc19, od19, .func (PySem.W.fnOf "_law_part" "_law_part" (defArgs s__law_part) (defBody s__law_part) (defScope s__law_part) .none kV19 dc19 pm19 an19 cd19 ct19), sl19⟩) (c19 : PySem.W.codeIn K cd19 "_law_part" = true) (k19 : PySem.W.keepIn K (.ref p19) = true)
    (a20 : PySem.W.nsIn K mainGlobals "_law_count" = some (some (.ref p20))) (l20 : K.lookup p20 = some ⟨oc20, od20, .func (PySem.W.fnOf "_law_count" "_law_count" (defArgs s__law_count) (defBody s__law_count) (defScope s__law_count) .none kV20 dc20 pm20 an20 cd20 ct20), sl20⟩) (c20 : PySem.W.codeIn K cd20 "_law_count" = true) (k20 : PySem.W.keepIn K (.ref p20) = true)
    (a21 : PySem.W.nsIn K mainGlobals "law" = some (some (.ref p21))) (l21 : K.lookup p21 = some ⟨oc21, od21, .func (PySem.W.fnOf "law" "law" (defArgs s_law) (defBody s_law) (defScope s_law) .none kV21 dc21 pm21 an21 cd21 ct21), sl21⟩) (c21 : PySem.W.codeIn K cd21 "law" = true) (k21 : PySem.W.keepIn K (.ref p21) = true)
    (z0 : PySem.W.nsIn K mainGlobals "isinstance" = some none)
    (z1 : PySem.W.nsIn K mainGlobals "tuple" = some none)
    (z2 : PySem.W.nsIn K mainGlobals "len" = some none)
    (z3 : PySem.W.nsIn K mainGlobals "bool" = some none)
    (z4 : PySem.W.nsIn K mainGlobals "int" = some none)
    (z5 : PySem.W.nsIn K mainGlobals "range" = some none)
    (z6 : PySem.W.nsIn K mainGlobals "sum" = some none)
    (z7 : PySem.W.nsIn K mainGlobals "all" = some none)
    (z8 : PySem.W.nsIn K mainGlobals "divmod" = some none)
    (z9 : PySem.W.nsIn K mainGlobals "zip" = some none)
    (z10 : PySem.W.nsIn K mainGlobals "dict" = some none)
    (z11 : PySem.W.nsIn K mainGlobals "enumerate" = some none)
    (y_MOST_LEVELS : PySem.W.nsIn K mainGlobals "MOST_LEVELS" = some (some (.int 60 ct_MOST_LEVELS)))
    (y_MOST_PARTS : PySem.W.nsIn K mainGlobals "MOST_PARTS" = some (some (.int 1000 ct_MOST_PARTS)))
    : ∃ fd : FuncData, (∀ (s : Shared) (v : Value), BindsTo s fd ⟨[v], []⟩ [("_law_script", v)]) ∧ ∀ base : Heap, K.In base → base.Ns mainGlobals mg → FnOk l.prog w K mg base CX0 69 fa fd ["_law_script"] (spF K true 1 F_law) := by
  have e := hfa.symm.trans (PySem.W.mg_of KX G a21)
  cases e
  have T : Gm ct_MOST_LEVELS ct_MOST_PARTS mg := ⟨PySem.W.mg_none_of KX G z0, PySem.W.mg_none_of KX G z1, PySem.W.mg_none_of KX G z2, PySem.W.mg_none_of KX G z3, PySem.W.mg_none_of KX G z4, PySem.W.mg_none_of KX G z5, PySem.W.mg_none_of KX G z6, PySem.W.mg_none_of KX G z7, PySem.W.mg_none_of KX G z8, PySem.W.mg_none_of KX G z9, PySem.W.mg_none_of KX G z10, PySem.W.mg_none_of KX G z11, PySem.W.mg_of KX G y_MOST_LEVELS, PySem.W.mg_of KX G y_MOST_PARTS⟩
  have U0 := fun_mk (st := s__law_spread) l0 c0 k0
  have b0 := U0.binds (ps := ["_law_cell", "_law_k"]) fun _ _ _ _ _ _ us hl => match us, hl with | [_, _], _ => rfl
  have U1 := fun_mk (st := s__law_names) l1 c1 k1
  have b1 := U1.binds (ps := ["_law_number"]) fun _ _ _ _ _ _ us hl => match us, hl with | [_], _ => rfl
  have U2 := fun_mk (st := s__law_whole) l2 c2 k2
  have b2 := U2.binds (ps := ["_law_found"]) fun _ _ _ _ _ _ us hl => match us, hl with | [_], _ => rfl
  have U3 := fun_mk (st := s__law_due) l3 c3 k3
  have b3 := U3.binds (ps := ["_law_pattern", "_law_term_here"]) fun _ _ _ _ _ _ us hl => match us, hl with | [_, _], _ => rfl
  have U4 := fun_mk (st := s_head) l4 c4 k4
  have b4 := U4.binds (ps := ["term"]) fun _ _ _ _ _ _ us hl => match us, hl with | [_], _ => rfl
  have U5 := fun_mk (st := s_places) l5 c5 k5
  have b5 := U5.binds (ps := ["term"]) fun _ _ _ _ _ _ us hl => match us, hl with | [_], _ => rfl
  have U6 := fun_mk (st := s_fits_on) l6 c6 k6
  have b6 := U6.binds (ps := ["pattern", "term", "filling"]) fun _ _ _ _ _ _ us hl => match us, hl with | [_, _, _], _ => rfl
  have U7 := fun_mk (st := s_fitting) l7 c7 k7
  have b7 := U7.binds (ps := ["pattern", "term"]) fun _ _ _ _ _ _ us hl => match us, hl with | [_, _], _ => rfl
  have U8 := fun_mk (st := s_level_below) l8 c8 k8
  have b8 := U8.binds (ps := ["row"]) fun _ _ _ _ _ _ us hl => match us, hl with | [_], _ => rfl
  have U9 := fun_mk (st := s_is_great) l9 c9 k9
  have b9 := U9.binds (ps := ["thing"]) fun _ _ _ _ _ _ us hl => match us, hl with | [_], _ => rfl
  have U10 := fun_mk (st := s_bounded) l10 c10 k10
  have b10 := U10.binds (ps := ["term"]) fun _ _ _ _ _ _ us hl => match us, hl with | [_], _ => rfl
  have U11 := fun_mk (st := s_fit) l11 c11 k11
  have b11 := U11.binds (ps := ["pattern", "term"]) fun _ _ _ _ _ _ us hl => match us, hl with | [_, _], _ => rfl
  have U12 := fun_mk (st := s__law_right) l12 c12 k12
  have b12 := U12.binds (ps := ["_law_pattern", "_law_term_here"]) fun _ _ _ _ _ _ us hl => match us, hl with | [_, _], _ => rfl
  have U13 := fun_mk (st := s__law_mixed) l13 c13 k13
  have b13 := U13.binds (ps := ["_law_number", "_law_k"]) fun _ _ _ _ _ _ us hl => match us, hl with | [_, _], _ => rfl
  have U14 := fun_mk (st := s__law_term) l14 c14 k14
  have b14 := U14.binds (ps := ["_law_number", "_law_names_here", "_law_deep", "_law_free"]) fun _ _ _ _ _ _ us hl => match us, hl with | [_, _, _, _], _ => rfl
  have U15 := fun_mk (st := s__law_filled) l15 c15 k15
  have b15 := U15.binds (ps := ["_law_term_here", "_law_filling"]) fun _ _ _ _ _ _ us hl => match us, hl with | [_, _], _ => rfl
  have U16 := fun_mk (st := s__law_paths) l16 c16 k16
  have b16 := U16.binds (ps := ["_law_term_here", "_law_path"]) fun _ _ _ _ _ _ us hl => match us, hl with | [_, _], _ => rfl
  have U17 := fun_mk (st := s__law_other) l17 c17 k17
  have b17 := U17.binds (ps := ["_law_number", "_law_piece", "_law_names_here", "_law_free"]) fun _ _ _ _ _ _ us hl => match us, hl with | [_, _, _, _], _ => rfl
  have U18 := fun_mk (st := s__law_put) l18 c18 k18
  have b18 := U18.binds (ps := ["_law_term_here", "_law_path", "_law_other_here"]) fun _ _ _ _ _ _ us hl => match us, hl with | [_, _, _], _ => rfl
  have U19 := fun_mk (st := s__law_part) l19 c19 k19
  have b19 := U19.binds (ps := ["_law_term_here", "_law_path"]) fun _ _ _ _ _ _ us hl => match us, hl with | [_, _], _ => rfl
  have U20 := fun_mk (st := s__law_count) l20 c20 k20
  have b20 := U20.binds (ps := ["_law_term_here"]) fun _ _ _ _ _ _ us hl => match us, hl with | [_], _ => rfl
  have U21 := fun_mk (st := s_law) l21 c21 k21
  have b21 := U21.binds (ps := ["_law_script"]) fun _ _ _ _ _ _ us hl => match us, hl with | [_], _ => rfl
  refine ⟨PySem.W.fnOf "law" "law" (defArgs s_law) (defBody s_law) (defScope s_law) .none kV21 dc21 pm21 an21 cd21 ct21, fun s v => .of_eq rfl, fun base _ _ => ?_⟩
  have V0 : Av l.prog w K mg base 1 "_law_spread" ["_law_cell", "_law_k"] true F__law_spread := ok__law_spread (k := 0) T U0 (PySem.W.mg_of KX G a0) b0 
  have V1 : Av l.prog w K mg base 1 "_law_names" ["_law_number"] true F__law_names := ok__law_names (k := 0) T U1 (PySem.W.mg_of KX G a1) b1 
  have V2 : Av l.prog w K mg base 1 "_law_whole" ["_law_found"] true F__law_whole := ok__law_whole (k := 0) T U2 (PySem.W.mg_of KX G a2) b2 
  have V3 : Av l.prog w K mg base 2 "_law_due" ["_law_pattern", "_law_term_here"] true F__law_due := ok__law_due (k := 1) T U3 (PySem.W.mg_of KX G a3) b3 (V2.mono (by decide))
  have V4 : Av l.prog w K mg base 1 "head" ["term"] true F_head := ok_head (k := 0) T U4 (PySem.W.mg_of KX G a4) b4 
  have V5 : Av l.prog w K mg base 1 "places" ["term"] true F_places := ok_places (k := 0) T U5 (PySem.W.mg_of KX G a5) b5 
  have V6 : ∀ n, AvI l.prog w K mg base (1 + n) "fits_on" ["pattern", "term", "filling"] 2 (F_fits_on n) := by
    intro n
    induction n with
    | zero => exact avi_zero U6 (PySem.W.mg_of KX G a6) b6 rfl
    | succ n ih => exact ok_fits_on (k := 1 + n) T U6 (PySem.W.mg_of KX G a6) b6 (V4.mono (by omega)) (V5.mono (by omega)) ih
  have V7 : Av l.prog w K mg base 66 "fitting" ["pattern", "term"] true F_fitting := ok_fitting (k := 65) T U7 (PySem.W.mg_of KX G a7) b7 ((V6 64).mono (by decide))
  have V8 : Av l.prog w K mg base 2 "level_below" ["row"] true F_level_below := ok_level_below (k := 1) T U8 (PySem.W.mg_of KX G a8) b8 (V5.mono (by decide))
  have V9 : Av l.prog w K mg base 3 "is_great" ["thing"] true F_is_great := ok_is_great (k := 2) T U9 (PySem.W.mg_of KX G a9) b9 (V8.mono (by decide))
  have V10 : Av l.prog w K mg base 4 "bounded" ["term"] false F_bounded := ok_bounded (k := 3) T U10 (PySem.W.mg_of KX G a10) b10 (V9.mono (by decide))
  have V11 : Av l.prog w K mg base 67 "fit" ["pattern", "term"] true F_fit := ok_fit (k := 66) T U11 (PySem.W.mg_of KX G a11) b11 (V7.mono (by decide)) (V10.mono (by decide))
  have V12 : Av l.prog w K mg base 68 "_law_right" ["_law_pattern", "_law_term_here"] true F__law_right := ok__law_right (k := 67) T U12 (PySem.W.mg_of KX G a12) b12 (V3.mono (by decide)) (V11.mono (by decide)) (V2.mono (by decide))
  have V13 : Av l.prog w K mg base 1 "_law_mixed" ["_law_number", "_law_k"] true F__law_mixed := ok__law_mixed (k := 0) T U13 (PySem.W.mg_of KX G a13) b13 
  have V14 : ∀ n, Av l.prog w K mg base (1 + n) "_law_term" ["_law_number", "_law_names_here", "_law_deep", "_law_free"] false (F__law_term n) := by
    intro n
    induction n with
    | zero => exact av_zero false U14 (PySem.W.mg_of KX G a14) b14
    | succ n ih => exact ok__law_term (k := 1 + n) T U14 (PySem.W.mg_of KX G a14) b14 ih (V13.mono (by omega))
  have V15 : ∀ n, Av l.prog w K mg base (1 + n) "_law_filled" ["_law_term_here", "_law_filling"] false (F__law_filled n) := by
    intro n
    induction n with
    | zero => exact av_zero false U15 (PySem.W.mg_of KX G a15) b15
    | succ n ih => exact ok__law_filled (k := 1 + n) T U15 (PySem.W.mg_of KX G a15) b15 (V2.mono (by omega)) ih
  have V16 : ∀ n, Av l.prog w K mg base (1 + n) "_law_paths" ["_law_term_here", "_law_path"] true (F__law_paths n) := by
    intro n
    induction n with
    | zero => exact av_zero true U16 (PySem.W.mg_of KX G a16) b16
    | succ n ih => exact ok__law_paths (k := 1 + n) T U16 (PySem.W.mg_of KX G a16) b16 (V2.mono (by omega)) ih
  have V17 : Av l.prog w K mg base 8 "_law_other" ["_law_number", "_law_piece", "_law_names_here", "_law_free"] false F__law_other := ok__law_other (k := 7) T U17 (PySem.W.mg_of KX G a17) b17 (V2.mono (by decide)) ((V14 6).mono (by decide))
  have V18 : ∀ n, Av l.prog w K mg base (0 + n) "_law_put" ["_law_term_here", "_law_path", "_law_other_here"] false (F__law_put n) := by
    intro n
    induction n with
    | zero => exact av_zero false U18 (PySem.W.mg_of KX G a18) b18
    | succ n ih => exact ok__law_put (k := 0 + n) T U18 (PySem.W.mg_of KX G a18) b18 ih
  have V19 : Av l.prog w K mg base 1 "_law_part" ["_law_term_here", "_law_path"] false F__law_part := ok__law_part (k := 0) T U19 (PySem.W.mg_of KX G a19) b19 
  have V20 : ∀ n, Av l.prog w K mg base (1 + n) "_law_count" ["_law_term_here"] true (F__law_count n) := by
    intro n
    induction n with
    | zero => exact av_zero true U20 (PySem.W.mg_of KX G a20) b20
    | succ n ih => exact ok__law_count (k := 1 + n) T U20 (PySem.W.mg_of KX G a20) b20 (V2.mono (by omega)) ih
  exact ok_law (k := 68) T U21 (V0.mono (by decide)) (V1.mono (by decide)) (V12.mono (by decide)) ((V14 6).mono (by decide)) ((V15 64).mono (by decide)) ((V16 64).mono (by decide)) (V17.mono (by decide)) ((V18 64).mono (by decide)) (V13.mono (by decide)) (V19.mono (by decide)) ((V20 64).mono (by decide))
end G

set_option Elab.async false
set_option linter.all false
set_option maxRecDepth 100000
set_option maxHeartbeats 4000000
namespace G
open PySem PySem.Spec L2 M
open Builtin.Int (intBits)
def abc : Str := "abcdefghijklmnopqrstuvwxyz"
theorem cut1 (x : D) (r : List D) : cutD (x :: r) (some 1) none = r := by
  have h1 : HT.sIx (x :: r).length 0 (some 1) = 1 := by
    have := HT.sIx_nat (x :: r).length 0 1
    simp only [List.length_cons] at this ⊢
    exact this.trans (by omega)
  unfold cutD
  rw [h1, HT.sIx_none]
  simp
theorem places1 {d : D} (h : noScr d = true) : F_places [d] = .ok (.tup (kids d)) := by
  cases d with
  | tup ds =>
    cases ds with
    | nil => rfl
    | cons x r =>
      show Res.ok (D.tup (cutD (x :: r) (some 1) none)) = _
      rw [cut1]; rfl
  | _ => first | rfl | cases h
theorem level_below1 {row : List D} (h : fines row = true) (hl : row.length ≤ 1000) : F_level_below [.lst row] = .ok (.lst (below row)) := by
  have key := forD_fold (body := turnD (gN 2) (extendO 1 (callF 1 F_places (cons1 (rdS 2) nil1)))) (fun (a : List D × Slot) => [.shr (.lst row), .own (.lst a.1), a.2]) (fun a d => (a.1 ++ kids d, .shr d)) (fun ds a => fines ds = true ∧ a.1.length + (below ds).length ≤ 10000) (fun d ds a ⟨h1, h2⟩ => by
    simp only [fines, Bool.and_eq_true] at h1
    have e : below (d :: ds) = kids d ++ below ds := rfl
    rw [e, List.length_append] at h2
    refine ⟨?_, h1.2, by simp only [List.length_append]; omega⟩
    show extendO 1 (callF 1 F_places (cons1 (rdS 2) nil1)) [.shr (.lst row), .own (.lst a.1), .shr d] = _
    show (Res.ok a.1 >>= fun ds => F_places [d] >>= _) = _
    rw [places1 (fine_scr h1.1)]
    exact must_pos (c := a.1.length + (kids d).length ≤ sizeLine) (Nat.le_trans (by omega : _ ≤ 10000) (by decide))) row ([], .un) ⟨h, by have := below_len h; simp only [List.length_nil]; omega⟩
  have hfold : ∀ (ds : List D) (a : List D × Slot), (ds.foldl (fun (a : List D × Slot) d => (a.1 ++ kids d, Slot.shr d)) a).1 = a.1 ++ below ds := by
    intro ds
    induction ds with
    | nil => intro a; simp [below]
    | cons d ds ih => intro a; rw [List.foldl_cons, ih]; simp [below]
  have e1 : g_level_below F_places (startE 3 [.lst row]) = .ok (.rt true (.lst (below row))) := by
    unfold g_level_below
    have h1 : startE 3 [.lst row] = [.shr (.lst row), .un, .un] := rfl
    rw [h1]
    show (forD (turnD (gN 2) (extendO 1 (callF 1 F_places (cons1 (rdS 2) nil1)))) row [.shr (.lst row), .own (.lst []), .un] >>= _) = _
    rw [key]
    show Res.ok (Out.rt true (D.lst (row.foldl (fun (a : List D × Slot) d => (a.1 ++ kids d, Slot.shr d)) ([], .un)).1)) = _
    rw [hfold]; simp
  exact ev_run e1
def greatG : Sl → Res Out := (seqO (setOs 2 (two (rdS 2) (cI 1) (augI fun i j => i + j)))
    (seqO (setOs 3 (two (rdS 3) (app (cons1 (rdS 1) nil1) lenD) (augI fun i j => i + j)))
    (seqO (ifO (orB (asB (two (rdS 2) (cI 60) gtI)) (asB (two (rdS 3) (cI 1000) gtI))) (retO (cB true)) nxO)
    (setOs 1 (callF 1 F_level_below (cons1 (rdS 1) nil1))))))
theorem great_step {d : D} {row : List D} {dp ct : Nat} (h : fines row = true) : greatG [.shr d, .shr (.lst row), .shr (.int dp), .shr (.int ct)] = if 60 < dp + 1 ∨ 1000 < ct + row.length then .ok (.rt true (.bl true)) else .ok (.nx [.shr d, .shr (.lst (below row)), .shr (.int ((dp + 1 : Nat) : Int)), .shr (.int ((ct + row.length : Nat) : Int))]) := by
  have e0 : greatG [.shr d, .shr (.lst row), .shr (.int dp), .shr (.int ct)] = ((if decide ((60 : Int) < (dp : Int) + 1) = true then Res.ok true else Res.ok (decide ((1000 : Int) < (ct : Int) + row.length))) >>= fun b => (if b = true then Res.ok (Out.rt true (.bl true)) else Res.ok (.nx [.shr d, .shr (.lst row), .shr (.int ((dp : Int) + 1)), .shr (.int ((ct : Int) + row.length))]))) >>= outK (setOs 1 (callF 1 F_level_below (cons1 (rdS 1) nil1))) := by
    unfold greatG
    rw [ev_seq, ev_setOs]
    show (seqO _ _) _ = _
    rw [ev_seq]; rfl
  rw [e0]
  by_cases h1 : 60 < dp + 1
  · rw [if_pos (by simp; omega), if_pos (.inl h1)]; rfl
  · rw [if_neg (by simp; omega)]
    by_cases h2 : 1000 < ct + row.length
    · rw [if_pos (.inr h2)]
      have : decide ((1000 : Int) < (ct : Int) + row.length) = true := by simp; omega
      rw [this]; rfl
    · rw [if_neg (by omega)]
      have : decide ((1000 : Int) < (ct : Int) + row.length) = false := by simp; omega
      rw [this]
      show (F_level_below [.lst row] >>= _) = _
      rw [level_below1 h (by omega)]
      show Res.ok (Out.nx [.shr d, .shr (.lst (below row)), .shr (.int ((dp : Int) + 1)), .shr (.int ((ct : Int) + row.length))]) = _
      simp
theorem great_loop (d : D) : ∀ (n : Nat) (row : List D) (dp ct : Nat), fines row = true → dp ≤ 60 → ct ≤ 1000 → 62 ≤ dp + n →
    ((60 < dp + hgts row ∨ 1000 < ct + nums row) → whileD n (truF (rdS 1)) greatG [.shr d, .shr (.lst row), .shr (.int dp), .shr (.int ct)] = .ok (.rt true (.bl true))) ∧
    (¬ (60 < dp + hgts row ∨ 1000 < ct + nums row) → ∃ env, whileD n (truF (rdS 1)) greatG [.shr d, .shr (.lst row), .shr (.int dp), .shr (.int ct)] = .ok (.nx env))
  | 0, _, dp, ct, _, h1, _, h2 => by omega
  | n + 1, row, dp, ct, hf, h1, h2, h3 => by
    cases row with
    | nil =>
      simp only [hgts, nums]
      exact ⟨fun h => by omega, fun _ => ⟨_, whileD_end rfl⟩⟩
    | cons x r =>
      have hs := great_step (d := d) (dp := dp) (ct := ct) hf
      have hb := hgts_below (x :: r) (by simp)
      have hn := nums_below (x :: r)
      by_cases hg : 60 < dp + 1 ∨ 1000 < ct + (x :: r).length
      · rw [if_pos hg] at hs
        exact ⟨fun _ => whileD_rt rfl hs, fun h => absurd (show 60 < dp + hgts (x :: r) ∨ 1000 < ct + nums (x :: r) by omega) h⟩
      · rw [if_neg hg] at hs
        have ih := great_loop d n (below (x :: r)) (dp + 1) (ct + (x :: r).length) (fines_below hf) (by omega) (by omega) (by omega)
        rw [whileD_go rfl hs, hb, hn]
        constructor
        · intro h; exact ih.1 (by omega)
        · intro h; exact ih.2 (by omega)
def isGr (d : D) : Bool := decide (60 < hgt d ∨ 1000 < num d)
theorem great1 {d : D} (h : fine d = true) : F_is_great [d] = .ok (.bl (isGr d)) := by
  have hl := great_loop d 2000 [d] 0 0 (by simp [fines, h]) (by omega) (by omega) (by omega)
  have e1 : hgts [d] = hgt d := by simp [hgts]
  have e2 : nums [d] = num d := by simp [nums]
  rw [e1, e2] at hl
  simp only [Nat.zero_add] at hl
  have e0 : g_is_great F_level_below (startE 4 [d]) = (whileD 2000 (truF (rdS 1)) greatG [.shr d, .shr (.lst [d]), .shr (.int ((0 : Nat) : Int)), .shr (.int ((0 : Nat) : Int))] >>= outK (retO (cB false))) := by
    unfold g_is_great
    rw [ev_seq]
    show (seqO _ _) _ = _
    rw [ev_seq]
    rfl
  by_cases hg : 60 < hgt d ∨ 1000 < num d
  · have : isGr d = true := by simp [isGr, hg]
    rw [this]
    refine ev_run (o := .rt true (.bl true)) ?_
    rw [e0, hl.1 hg]; rfl
  · have : isGr d = false := by simp [isGr]; omega
    rw [this]
    obtain ⟨env, he⟩ := hl.2 hg
    refine ev_run (o := .rt true (.bl false)) ?_
    rw [e0, he]; rfl

theorem compD_ex {cs : List Slot} {fe : Sl → Res D} (R : D → Prop) (P : D → Prop) (hf : ∀ d acc, P d → ∃ t, fe (.shr d :: (cs ++ [.own (.lst acc)])) = .ok t ∧ R t) :
    ∀ (ds : List D) (x : Slot) (acc : List D), (∀ d ∈ ds, P d) → acc.length + ds.length ≤ sizeLine → (∀ t ∈ acc, R t) →
      ∃ (y : Slot) (ts : List D), compD (1 + cs.length) (gN 0) trueB fe ds (x :: (cs ++ [.own (.lst acc)])) = .ok (y :: (cs ++ [.own (.lst ts)])) ∧ ts.length = acc.length + ds.length ∧ ∀ t ∈ ts, R t
  | [], x, acc, _, _, hr => ⟨x, acc, rfl, by simp, hr⟩
  | d :: ds, x, acc, hP, hl, hr => by
    simp only [List.length_cons] at hl
    obtain ⟨t, ht, hR⟩ := hf d acc (hP d (by simp))
    obtain ⟨y, ts, h1, h2, h3⟩ := compD_ex R P hf ds (.shr d) (acc ++ [t]) (fun e he => hP e (by simp [he])) (by simp only [List.length_append, List.length_cons, List.length_nil]; omega) (fun u hu => by
      rcases List.mem_append.mp hu with h | h
      · exact hr u h
      · simp only [List.mem_cons, List.not_mem_nil, or_false] at h
        rw [h]; exact hR)
    refine ⟨y, ts, ?_, by rw [h2]; simp only [List.length_append, List.length_cons, List.length_nil]; omega, h3⟩
    have e1 : ownL (1 + cs.length) (.shr d :: (cs ++ [.own (.lst acc)])) = .ok acc := by
      unfold ownL
      rw [show (1 + cs.length) = cs.length + 1 by omega, List.getElem?_cons_succ, List.getElem?_append_right (Nat.le_refl _)]
      simp
    have e2 : (Slot.shr d :: (cs ++ [Slot.own (.lst acc)])).set (1 + cs.length) (.own (.lst (acc ++ [t]))) = .shr d :: (cs ++ [.own (.lst (acc ++ [t]))]) := by
      rw [show (1 + cs.length) = cs.length + 1 by omega, List.set_cons_succ, List.set_append_right _ _ (Nat.le_refl _)]
      simp
    show (fe (.shr d :: (cs ++ [.own (.lst acc)])) >>= _) = _
    rw [ht]
    show (ownL (1 + cs.length) (.shr d :: (cs ++ [.own (.lst acc)])) >>= _) = _
    rw [e1]
    show must _ _ = _
    rw [must_pos (by omega)]
    show compD _ _ _ _ ds ((Slot.shr d :: (cs ++ [Slot.own (.lst acc)])).set (1 + cs.length) (.own (.lst (acc ++ [t])))) = _
    rw [e2, h1]
theorem comp_ex {js : List Nat} {fi : Sl → Res (List D)} {fe : Sl → Res D} {env : Sl} {ds : List D} {cs : List Slot} (R : D → Prop) (P : D → Prop) (hc : js.map (capS false env) = cs) (hi : fi env = .ok ds) (hP : ∀ d ∈ ds, P d) (hl : ds.length ≤ sizeLine)
    (hf : ∀ d acc, P d → ∃ t, fe (.shr d :: (cs ++ [.own (.lst acc)])) = .ok t ∧ R t) : ∃ ts, compO false 1 js fi (gN 0) trueB fe env = .ok (.lst ts) ∧ ts.length = ds.length ∧ ∀ t ∈ ts, R t := by
  obtain ⟨y, ts, h1, h2, h3⟩ := compD_ex (cs := cs) R P hf ds .un [] hP (by simpa using hl) (fun _ h => by cases h)
  refine ⟨ts, ?_, by simpa using h2, h3⟩
  have hlen : js.length = cs.length := by rw [← hc]; simp
  show (fi env >>= _) = _
  rw [hi]
  show (compD (1 + js.length) (gN 0) trueB fe ds (compE false 1 js env) >>= _) = _
  have he : compE false 1 js env = .un :: (cs ++ [.own (.lst [])]) := by
    unfold compE; rw [hc]; rfl
  rw [he, hlen, h1]
  show (ownL (1 + cs.length) (y :: (cs ++ [.own (.lst ts)])) >>= _) = _
  have e1 : ownL (1 + cs.length) (y :: (cs ++ [.own (.lst ts)])) = .ok ts := by
    unfold ownL
    rw [show (1 + cs.length) = cs.length + 1 by omega, List.getElem?_cons_succ, List.getElem?_append_right (Nat.le_refl _)]
    simp
  rw [e1]
  exact must_pos (c := false = true → D.imms ts = true) (fun h => by cases h)
theorem dm_ok {f1 f2 : Sl → Res D} {env : Sl} {i j : Int} (h1 : f1 env = .ok (.int i)) (h2 : f2 env = .ok (.int j)) (hj : 0 < j ∧ j < 1073741824) : app (cons1 f1 (cons1 f2 nil1)) divmodD env = .ok (.tup [.int (i / j), .int (i % j)]) :=
  app_ok (ds := [.int i, .int j]) (cons_ok h1 (cons_ok h2 rfl)) (must_pos hj)
theorem asg2_ok {f : Sl → Res D} {env : Sl} {a b : Nat} {x y : D} (h : f env = .ok (.tup [x, y])) : asgO f (g2 (gN a) (gN b)) env = .ok (.nx ((env.set a (.shr x)).set b (.shr y))) := by
  show (f env >>= _) = _
  rw [h]; rfl
theorem mod2_ok {f1 f2 : Sl → Res D} {env : Sl} {i j : Int} (h1 : f1 env = .ok (.int i)) (h2 : f2 env = .ok (.int j)) (hj : 0 < j) : two f1 f2 modI env = .ok (.int (i % j)) := two_ok h1 h2 (mod_ok hj)
theorem mul2_ok {f1 f2 : Sl → Res D} {env : Sl} {i j : Int} {a b : Nat} (h1 : f1 env = .ok (.int i)) (h2 : f2 env = .ok (.int j)) (ha : i.natAbs < 2 ^ a) (hb : j.natAbs < 2 ^ b) (hs : a + b ≤ 134217728) : two f1 f2 mulI env = .ok (.int (i * j)) :=
  two_ok h1 h2 (mul_ok (show intBits i + intBits j ≤ 134217728 from Nat.le_trans (Nat.add_le_add (PySem.intBits_le_iff.mpr ha) (PySem.intBits_le_iff.mpr hb)) hs))
theorem add2_ok {f1 f2 : Sl → Res D} {env : Sl} {i j : Int} (h1 : f1 env = .ok (.int i)) (h2 : f2 env = .ok (.int j)) : two f1 f2 addD env = .ok (.int (i + j)) := two_ok h1 h2 rfl
theorem spread_makes (c k : Int) (hk : 0 ≤ k ∧ k ≤ 1000) : ∃ m : Int, F__law_spread [.int c, .int k] = .ok (.int m) ∧ 0 ≤ m ∧ m < 2 ^ 140 := by
  have hp : two (cI 10) (cI 40) powI [.shr (.int c), .shr (.int k), .un] = .ok (.int (10 ^ 40)) := two_ok rfl rfl (pow_ok (i := 10) (j := 40) (by decide))
  have hk2 : (k * k).natAbs < 2 ^ 21 := by
    rw [Int.natAbs_mul]
    have : k.natAbs ≤ 1000 := by omega
    have := Nat.mul_le_mul this this
    omega
  refine ⟨(c % (10 ^ 40 + 121) * 31415926535897932384626433832795 + (k * k + 3 * k + 7) * 2718281828459045235360287471) % (10 ^ 40 + 121), run_t ?_, by omega, by omega⟩
  show g__law_spread [.shr (.int c), .shr (.int k), .un] = _
  unfold g__law_spread
  rw [seq_nx (env' := [.shr (.int c), .shr (.int k), .shr (.int (10 ^ 40 + 121))]) ((setOs_ok (add2_ok hp rfl)).trans rfl)]
  refine retO_ok (mod2_ok (add2_ok (mul2_ok (a := 140) (b := 120) (mod2_ok rfl rfl (by omega)) rfl (by omega) (by omega) (by omega)) (mul2_ok (a := 30) (b := 120) (add2_ok (add2_ok (mul2_ok (a := 30) (b := 30) rfl rfl (by omega) (by omega) (by omega)) (mul2_ok (a := 30) (b := 30) rfl rfl (by omega) (by omega) (by omega))) rfl) rfl (by omega) (by omega) (by omega))) rfl (by omega))
theorem mixed_makes (m k : Int) (hm : 0 ≤ m ∧ m < 2 ^ 140) (hk : 0 ≤ k ∧ k ≤ 1000) : ∃ m' : Int, F__law_mixed [.int m, .int k] = .ok (.int m') ∧ 0 ≤ m' ∧ m' < 2 ^ 140 := by
  have hp : ∀ u : Slot, two (cI 10) (cI 30) powI [.shr (.int m), .shr (.int k), u] = .ok (.int (10 ^ 30)) := fun u => two_ok rfl rfl (pow_ok (i := 10) (j := 30) (by decide))
  generalize hx : (m * 69621 + (k + 1) * 1000003) % (10 ^ 30 + 57) = x
  have hx0 : 0 ≤ x ∧ x < 2 ^ 110 := by omega
  refine ⟨x * x % (10 ^ 30 + 57), run_t ?_, by omega, by omega⟩
  show g__law_mixed [.shr (.int m), .shr (.int k), .un] = _
  unfold g__law_mixed
  rw [seq_nx (env' := [.shr (.int m), .shr (.int k), .shr (.int x)]) ((setOs_ok (mod2_ok (add2_ok (mul2_ok (a := 141) (b := 30) rfl rfl (by omega) (by omega) (by omega)) (mul2_ok (a := 30) (b := 30) (add2_ok rfl rfl) rfl (by omega) (by omega) (by omega))) (add2_ok (hp _) rfl) (by omega))).trans (by rw [hx]; rfl))]
  exact retO_ok (mod2_ok (mul2_ok (a := 111) (b := 111) rfl rfl (by omega) (by omega) (by omega)) (add2_ok (hp _) rfl) (by omega))
def Five (d : D) : Prop := ∃ xs : List D, d = .lst xs ∧ xs.length = 5 ∧ ∀ x ∈ xs, ∃ z : Str, x = .str z ∧ z.length ≤ 20
theorem abc_len : abc.length = 26 := by decide
theorem names_makes (m : Int) : ∃ d, F__law_names [.int m] = .ok d ∧ Five d := by
  have hbig : 20 ≤ sizeLine := by decide
  generalize hsz : m % 8 = sz
  have hs : 0 ≤ sz ∧ sz < 8 := by omega
  generalize hm1 : m / 8 = m1
  generalize hat : m1 % (sz + 1) = at1
  have ha : 0 ≤ at1 ∧ at1 < sz + 1 := by rw [← hat]; exact ⟨Int.emod_nonneg _ (by omega), Int.emod_lt_of_pos _ (by omega)⟩
  generalize hm2 : m1 / (sz + 1) = m2
  obtain ⟨env1, l1, n1, f1, u1, w1, rfl, hf1⟩ := forD_inv (body := turnD (gN 3) (seqO (asgO (app (cons1 (rdS 0) (cons1 (cI 26) nil1)) divmodD) (g2 (gN 0) (gN 6))) (setOs 2 (two (rdS 2) (two (rdS 1) (rdS 6) ixD) addD))))
    (fun ds env => ∃ (n : Int) (f : Str) (u w : Slot), env = [.shr (.int n), .shr (.str abc), .shr (.str f), u, .shr (.int sz), .shr (.int at1), w] ∧ f.length + ds.length = (sz + 1).toNat)
    (by
      rintro d ds env ⟨n, f, u, w, rfl, hl⟩
      obtain ⟨c, hc⟩ := ixS (z := abc) (i := n % 26) (by omega) (by rw [abc_len]; omega)
      simp only [List.length_cons] at hl
      have hlen : (f ++ (⟨#[c]⟩ : Str)).length = f.length + 1 := strLen_append _ _
      refine ⟨[.shr (.int (n / 26)), .shr (.str abc), .shr (.str (f ++ (⟨#[c]⟩ : Str))), .shr d, .shr (.int sz), .shr (.int at1), .shr (.int (n % 26))], ?_, _, _, _, _, rfl, by rw [hlen]; omega⟩
      rw [turn_ok (env' := [.shr (.int n), .shr (.str abc), .shr (.str f), .shr d, .shr (.int sz), .shr (.int at1), w]) rfl]
      rw [seq_nx (env' := [.shr (.int (n / 26)), .shr (.str abc), .shr (.str f), .shr d, .shr (.int sz), .shr (.int at1), .shr (.int (n % 26))]) (asg2_ok (dm_ok rfl rfl (by omega)))]
      refine (setOs_ok (two_ok rfl (two_ok rfl rfl hc) (must_pos (c := f.length + (⟨#[c]⟩ : Str).length ≤ sizeLine) (Nat.le_trans (show f.length + 1 ≤ 8 by omega) (by decide))))).trans rfl)
    (intsD 0 (sz + 1).toNat) [.shr (.int m2), .shr (.str abc), .shr (.str ""), .un, .shr (.int sz), .shr (.int at1), .un] ⟨m2, "", .un, .un, rfl, by rw [intsD_len, show ("" : Str).length = 0 by decide, Nat.zero_add]⟩
  simp only [List.length_nil] at hf1
  obtain ⟨ts, hts, hl, hR⟩ := comp_ex (js := [2, 1, 5, 0]) (fi := rngF (cons1 (cI 5) nil1)) (fe := two (two (slice3 (rdS 1) noneI (someI (rdS 3)) slD) (two (rdS 2) (two (two (rdS 4) (two (cI 5) (rdS 0) mulI) addD) (cI 26) modI) ixD) addD) (slice3 (rdS 1) (someI (two (rdS 3) (cI 1) addD)) noneI slD) addD)
    (env := [.shr (.int n1), .shr (.str abc), .shr (.str f1), u1, .shr (.int sz), .shr (.int at1), w1]) (ds := intsD 0 5) (cs := [.shr (.str f1), .shr (.str abc), .shr (.int at1), .shr (.int n1)])
    (fun t => ∃ z : Str, t = .str z ∧ z.length ≤ 20) (fun d => ∃ k : Int, d = .int k ∧ 0 ≤ k ∧ k < 0 + (5 : Nat)) rfl rfl (fun d hd => mem_intsD hd) (by rw [intsD_len]; exact Nat.le_trans (by decide) hbig) (by
      rintro d acc ⟨k, rfl, hk0, hk1⟩
      obtain ⟨c, hc⟩ := ixS (z := abc) (i := (n1 + 5 * k) % 26) (by omega) (by rw [abc_len]; omega)
      have hA := cutS_len f1 none (some at1)
      have hB := cutS_len f1 (some (at1 + 1)) none
      have h1 : (cutS f1 none (some at1) ++ (⟨#[c]⟩ : Str)).length = (cutS f1 none (some at1)).length + 1 := strLen_append _ _
      have h2 : ((cutS f1 none (some at1) ++ (⟨#[c]⟩ : Str)) ++ cutS f1 (some (at1 + 1)) none).length = (cutS f1 none (some at1) ++ (⟨#[c]⟩ : Str)).length + (cutS f1 (some (at1 + 1)) none).length := strLen_append _ _
      refine ⟨_, two_ok (two_ok (slice_ok rfl rfl (someI_ok rfl) rfl) (two_ok rfl (mod2_ok (add2_ok rfl (mul2_ok (a := 10) (b := 10) rfl rfl (by omega) (by omega) (by omega))) rfl (by omega)) hc) (must_pos (c := (cutS f1 none (some at1)).length + (⟨#[c]⟩ : Str).length ≤ sizeLine) (Nat.le_trans (show _ + 1 ≤ 20 by omega) hbig))) (slice_ok rfl (someI_ok (two_ok rfl rfl rfl)) rfl rfl) (must_pos (c := _ + _ ≤ sizeLine) (by omega)), _, rfl, by omega⟩)
  refine ⟨.lst ts, run_t ?_, ts, rfl, by rw [hl, intsD_len], hR⟩
  show g__law_names [.shr (.int m), .un, .un, .un, .un, .un, .un] = _
  unfold g__law_names
  rw [seq_nx (env' := [.shr (.int m), .shr (.str abc), .un, .un, .un, .un, .un]) rfl]
  rw [seq_nx (env' := [.shr (.int m1), .shr (.str abc), .un, .un, .shr (.int sz), .un, .un]) ((asg2_ok (dm_ok rfl rfl (by omega))).trans (by rw [hm1, hsz]; rfl))]
  rw [seq_nx (env' := [.shr (.int m2), .shr (.str abc), .un, .un, .shr (.int sz), .shr (.int at1), .un]) ((asg2_ok (dm_ok (i := m1) (j := sz + 1) rfl (two_ok rfl rfl rfl) (by omega))).trans (by rw [hm2, hat]; rfl))]
  rw [seq_nx (env' := [.shr (.int m2), .shr (.str abc), .shr (.str ""), .un, .shr (.int sz), .shr (.int at1), .un]) rfl]
  rw [seq_nx ((for_ok (ds := intsD 0 (sz + 1).toNat) (rng1_ok (cons_ok (two_ok rfl rfl rfl) rfl) (by omega))).trans l1)]
  exact retO_ok hts
theorem big1 : 20000 ≤ sizeLine := by decide
theorem small_of {k : Nat} (h : k ≤ 20000) : k ≤ sizeLine := Nat.le_trans h big1
def isT : D → Bool
  | .tup _ => true
  | _ => false
def Fiv (ns : List Str) (d : D) : Prop := d = .lst (ns.map .str) ∧ ns.length = 5 ∧ ∀ z ∈ ns, z.length ≤ 20
theorem five_fiv {d : D} (h : Five d) : ∃ ns, Fiv ns d := by
  obtain ⟨xs, rfl, hl, hx⟩ := h
  have key : ∀ xs : List D, (∀ x ∈ xs, ∃ z : Str, x = .str z ∧ z.length ≤ 20) → ∃ ns : List Str, xs = ns.map .str ∧ ∀ z ∈ ns, z.length ≤ 20 := fun xs => by
    induction xs with
    | nil => intro _; exact ⟨[], rfl, fun _ h => by cases h⟩
    | cons x r ih =>
      intro h
      obtain ⟨z, rfl, hz⟩ := h _ (List.mem_cons_self ..)
      obtain ⟨ns, rfl, hn⟩ := ih fun y hy => h y (by simp [hy])
      refine ⟨z :: ns, rfl, fun y hy => ?_⟩
      rcases List.mem_cons.mp hy with e | e
      · rw [e]; exact hz
      · exact hn y e
  obtain ⟨ns, rfl, hn⟩ := key xs hx
  exact ⟨ns, rfl, by simpa using hl, hn⟩
section
variable {ns : List Str}
theorem fiv_ix {ns : List Str} {d : D} (h : Fiv ns d) (i : Int) (h0 : 0 ≤ i) (h1 : i < 5) : ∃ z : Str, ixD d (.int i) = .ok (.str z) ∧ z ∈ ns := by
  obtain ⟨rfl, hl, _⟩ := h
  obtain ⟨x, hix, hm⟩ := ixL (ds := ns.map .str) h0 (by rw [List.length_map]; omega)
  obtain ⟨z, hz, rfl⟩ := List.mem_map.mp hm
  exact ⟨z, hix, hz⟩
theorem isi_tk {t : D} (h : tk ns t = true) : isiD "tuple" t = .ok (.bl (isT t)) := by
  rcases tk_cases h with ⟨i, rfl⟩ | ⟨z, ts, rfl, _⟩ <;> rfl
end
end G

set_option Elab.async false
set_option linter.all false
set_option maxRecDepth 100000
set_option maxHeartbeats 4000000
namespace G
open PySem PySem.Spec L2 M
open Builtin.Int (intBits)
section
variable {ns : List Str} {fs : List Int}
theorem hgt_tup (z : Str) (ts : List D) : hgt (.tup (.str z :: ts)) = 1 + hgts ts := by rw [hgt_eq]; rfl
theorem num_tup (z : Str) (ts : List D) : num (.tup (.str z :: ts)) = 1 + nums ts := by rw [num_eq]; rfl
theorem bks_tup (z : Str) (ts : List D) : bks (.tup (.str z :: ts)) = bkss ts := by simp [bks]
theorem bks_int (i : Int) : bks (.int i) = [i] := by simp [bks]
theorem neR_int {a b : Int} : neR (.int a) (.int b) = .ok (.bl (!(a == b))) := by
  unfold neR
  rw [must_pos (by left; simp [D.eqb, D.dep])]; simp [eqD]
def bnd : Nat → Nat
  | 0 => 1
  | 1 => 10
  | r + 2 => 1 + 3 * bnd (r + 1)
structure Gt (ns : List Str) (fs : List Int) (r : Nat) (t : D) : Prop where
  tk : tk ns t = true
  hg : hgt t ≤ r + 1
  nm : num t ≤ bnd r
  bk : ∀ x ∈ bks t, x ∈ fs
theorem bnd_pos (r : Nat) : 1 ≤ bnd r := by
  cases r with
  | zero => exact Nat.le_refl _
  | succ r => cases r with
    | zero => decide
    | succ r => simp only [bnd]; omega
theorem term_makes {nm : D} (hn : Fiv ns nm) (hf : fs.length = 3) : ∀ (n r : Nat) (m : Int), r + 1 ≤ n → (0 ≤ m ∧ m < 2 ^ 140) → ∃ t, F__law_term n [.int m, nm, .int r, .lst (fs.map .int)] = .ok t ∧ Gt ns fs r t
  | 0, r, m, h1, hm => by omega
  | n + 1, r, m, h1, hm => by
    have hbig : 20 ≤ sizeLine := by decide
    generalize hkd : m % 5 = kd
    generalize hm1 : m / 5 = m1
    generalize hfr : D.lst (fs.map .int) = fr
    have t1 : orB (asB (two (rdS 4) (cI 0) eqR)) (andB (asB (two (rdS 2) (cI 0) eqR)) (asB (two (rdS 4) (cI 3) ltI))) [.shr (.int m1), .shr nm, .shr (.int r), .shr fr, .shr (.int kd), .un, .un] = .ok ((kd == 0) || (((r : Int) == 0) && decide (kd < 3))) :=
      or_ok (asB_ok (two_ok rfl rfl eqR_int)) (and_ok (asB_ok (two_ok rfl rfl eqR_int)) (asB_ok (two_ok rfl rfl rfl)))
    have start : ∀ g : Sl → Res Out, seqO (asgO (app (cons1 (rdS 0) (cons1 (cI 5) nil1)) divmodD) (g2 (gN 0) (gN 4))) g [.shr (.int m), .shr nm, .shr (.int r), .shr fr, .un, .un, .un] = g [.shr (.int m1), .shr nm, .shr (.int r), .shr fr, .shr (.int kd), .un, .un] := by
      intro g
      rw [seq_nx (env' := [.shr (.int m1), .shr nm, .shr (.int r), .shr fr, .shr (.int kd), .un, .un]) ((asg2_ok (dm_ok rfl rfl (by omega))).trans (by rw [hm1, hkd]; rfl))]
    by_cases hb1 : ((kd == 0) || (((r : Int) == 0) && decide (kd < 3))) = true
    · obtain ⟨d, hd, hmem⟩ := ixL (ds := fs.map .int) (i := m1 % 3) (by omega) (by rw [List.length_map, hf]; omega)
      obtain ⟨i, hi, rfl⟩ := List.mem_map.mp hmem
      rw [hfr] at hd
      have hlen : lenD [fr] = .ok (.int 3) := by rw [← hfr]; show Res.ok (D.int ((fs.map D.int).length : Int)) = _; rw [List.length_map, hf]; rfl
      refine ⟨.int i, run_f ?_, ⟨rfl, by simp [hgt], bnd_pos r, by rw [bks_int]; intro x hx; simp only [List.mem_cons, List.not_mem_nil, or_false] at hx; rw [hx]; exact hi⟩⟩
      show g__law_term (F__law_term n) F__law_mixed [.shr (.int m), .shr nm, .shr (.int r), .shr fr, .un, .un, .un] = _
      unfold g__law_term
      rw [start]
      exact seq_rt ((if_t (by rw [t1, hb1])).trans (retS_ok (two_ok rfl (mod2_ok rfl (app_ok (cons_ok rfl rfl) hlen) (by omega)) hd)))
    · have hb1 : ((kd == 0) || (((r : Int) == 0) && decide (kd < 3))) = false := by simpa using hb1
      generalize hwh : m1 % 5 = wh
      generalize hm2 : m1 / 5 = m2
      generalize hc0 : m2 % 4 = c0
      generalize hm3 : m2 / 4 = m3
      have hm3b : 0 ≤ m3 ∧ m3 < 2 ^ 140 := by omega
      obtain ⟨z, hz, hzn⟩ := fiv_ix hn wh (by omega) (by omega)
      have hct : ∃ ct : Int, 0 ≤ ct ∧ ct ≤ 9 ∧ (r = 0 → ct = 0) ∧ (r ≠ 1 → ct ≤ 3) ∧ ∀ g : Sl → Res Out, seqO (ifO (andB (asB (two (rdS 2) (cI 1) eqR)) (asB (two (two (rdS 0) (cI 8) modI) (cI 1) eqR))) (setOs 6 (two (cI 4) (two (two (rdS 0) (cI 8) divI) (cI 5) modI) addD)) nxO) (seqO (ifO (asB (two (rdS 2) (cI 0) eqR)) (setOs 6 (cI 0)) nxO) g)
          [.shr (.int m3), .shr nm, .shr (.int r), .shr fr, .shr (.int kd), .shr (.int wh), .shr (.int c0)] = g [.shr (.int m3), .shr nm, .shr (.int r), .shr fr, .shr (.int kd), .shr (.int wh), .shr (.int ct)] := by
        have ta : andB (asB (two (rdS 2) (cI 1) eqR)) (asB (two (two (rdS 0) (cI 8) modI) (cI 1) eqR)) [.shr (.int m3), .shr nm, .shr (.int r), .shr fr, .shr (.int kd), .shr (.int wh), .shr (.int c0)] = .ok (((r : Int) == 1) && (m3 % 8 == 1)) :=
          and_ok (asB_ok (two_ok rfl rfl eqR_int)) (asB_ok (two_ok (two_ok rfl rfl rfl) rfl eqR_int))
        have tb : ∀ c : Int, asB (two (rdS 2) (cI 0) eqR) [.shr (.int m3), .shr nm, .shr (.int r), .shr fr, .shr (.int kd), .shr (.int wh), .shr (.int c)] = .ok ((r : Int) == 0) := fun c => asB_ok (two_ok rfl rfl eqR_int)
        by_cases ha : (((r : Int) == 1) && (m3 % 8 == 1)) = true
        · have hr1 : r = 1 := by simp only [Bool.and_eq_true, beq_iff_eq] at ha; omega
          subst hr1
          refine ⟨4 + m3 / 8 % 5, by omega, by omega, fun h => by omega, fun h => absurd rfl h, fun g => ?_⟩
          rw [seq_nx (env' := [.shr (.int m3), .shr nm, .shr (.int (1 : Nat)), .shr fr, .shr (.int kd), .shr (.int wh), .shr (.int (4 + m3 / 8 % 5))]) ((if_t (by rw [ta, ha])).trans rfl)]
          rw [seq_nx ((if_f (by rw [tb]; rfl)).trans rfl)]
        · have ha : (((r : Int) == 1) && (m3 % 8 == 1)) = false := by simpa using ha
          by_cases hr0 : r = 0
          · subst hr0
            refine ⟨0, by omega, by omega, fun _ => rfl, fun _ => by omega, fun g => ?_⟩
            rw [seq_nx ((if_f (by rw [ta, ha])).trans rfl)]
            rw [seq_nx ((if_t (by rw [tb]; rfl)).trans rfl)]
            rfl
          · refine ⟨c0, by omega, by omega, fun h => absurd h hr0, fun _ => by omega, fun g => ?_⟩
            rw [seq_nx ((if_f (by rw [ta, ha])).trans rfl)]
            rw [seq_nx ((if_f (by rw [tb]; simp; omega)).trans rfl)]
      obtain ⟨ct, c1, c2, c3, c4, hctg⟩ := hct
      obtain ⟨ts, hts, hl, hR⟩ := comp_ex (js := [1, 3, 0, 2]) (fi := rngF (cons1 (rdS 6) nil1)) (fe := callF 4 (F__law_term n) (cons1 (callF 2 F__law_mixed (cons1 (rdS 3) (cons1 (rdS 0) nil1))) (cons1 (rdS 1) (cons1 (two (rdS 4) (cI 1) subI) (cons1 (rdS 2) nil1)))))
        (env := [.shr (.int m3), .shr nm, .shr (.int r), .shr fr, .shr (.int kd), .shr (.int wh), .shr (.int ct)]) (ds := intsD 0 ct.toNat) (cs := [.shr nm, .shr fr, .shr (.int m3), .shr (.int r)])
        (Gt ns fs (r - 1)) (fun d => ∃ k : Int, d = .int k ∧ 0 ≤ k ∧ k < 10 ∧ 1 ≤ r) rfl (rng1_ok (cons_ok rfl rfl) (by omega)) (fun d hd => by
          obtain ⟨k, rfl, k0, k1⟩ := mem_intsD hd
          exact ⟨k, rfl, k0, by omega, by rcases Nat.eq_zero_or_pos r with h | h; · rw [c3 h] at k1; simp at k1; omega
                                          · exact h⟩) (by rw [intsD_len]; omega) (by
          rintro d acc ⟨k, rfl, k0, k1, hr⟩
          obtain ⟨m4, hm4, hb⟩ := mixed_makes m3 k hm3b (by omega)
          obtain ⟨t, ht, hg⟩ := term_makes hn hf n (r - 1) m4 (by omega) hb
          rw [hfr] at ht
          have e : ((r : Int) - 1) = ((r - 1 : Nat) : Int) := by omega
          exact ⟨t, call_ok (ds := [.int m4, nm, .int ((r : Int) - 1), fr]) (cons_ok (call_ok (cons_ok rfl (cons_ok rfl rfl)) rfl hm4) (cons_ok rfl (cons_ok (two_ok rfl rfl rfl) (cons_ok rfl rfl)))) rfl (by rw [e]; exact ht), hg⟩)
      rw [intsD_len] at hl
      refine ⟨.tup (.str z :: ts), run_t ?_, ⟨tk_nd hzn (by omega) fun t ht => (hR t ht).tk, ?_, ?_, ?_⟩⟩
      · show g__law_term (F__law_term n) F__law_mixed [.shr (.int m), .shr nm, .shr (.int r), .shr fr, .un, .un, .un] = _
        unfold g__law_term
        rw [start, seq_nx ((if_f (by rw [t1, hb1])).trans rfl)]
        rw [seq_nx (env' := [.shr (.int m2), .shr nm, .shr (.int r), .shr fr, .shr (.int kd), .shr (.int wh), .un]) ((asg2_ok (dm_ok rfl rfl (by omega))).trans (by rw [hm2, hwh]; rfl))]
        rw [seq_nx (env' := [.shr (.int m3), .shr nm, .shr (.int r), .shr fr, .shr (.int kd), .shr (.int wh), .shr (.int c0)]) ((asg2_ok (dm_ok rfl rfl (by omega))).trans (by rw [hm3, hc0]; rfl))]
        rw [hctg]
        exact retO_ok (app_ok (cons_ok (two_ok (lst_ok (cons_ok (two_ok rfl rfl hz) rfl) (Nat.le_trans (show 1 ≤ 20 by decide) hbig)) hts (add_lst (a := [.str z]) (b := ts) (by simp only [List.length_cons, List.length_nil]; omega))) rfl) rfl)
      · rw [hgt_tup]
        rcases Nat.eq_zero_or_pos r with h | h
        · have : ts = [] := List.eq_nil_of_length_eq_zero (by rw [hl, c3 h]; rfl)
          subst this
          simp [hgts]
        · have := M.hgts_le (ds := ts) (k := r) fun t ht => by have := (hR t ht).hg; omega
          omega
      · rw [num_tup]
        have hq := nums_le (ts := ts) (k := bnd (r - 1)) fun t ht => (hR t ht).nm
        match r, c3, c4, hq with
        | 0, c3, c4, hq =>
          have : ts.length = 0 := by rw [hl, c3 rfl]; rfl
          rw [this] at hq
          simp only [bnd]; omega
        | 1, c3, c4, hq =>
          simp only [bnd, Nat.sub_self] at hq ⊢
          omega
        | r + 2, c3, c4, hq =>
          simp only [bnd, show r + 2 - 1 = r + 1 from rfl] at hq ⊢
          have h3 : ts.length ≤ 3 := by have := c4 (by omega); omega
          have := Nat.mul_le_mul_right (bnd (r + 1)) h3
          omega
      · intro x hx
        rw [bks_tup, bkss_flat] at hx
        obtain ⟨t, ht, hxt⟩ := List.mem_flatMap.mp hx
        exact (hR t ht).bk x hxt
end
end G

set_option Elab.async false
set_option linter.all false
set_option maxRecDepth 100000
set_option maxHeartbeats 4000000
namespace G
open PySem PySem.Spec L2 M
open Builtin.Int (intBits)
section
variable {ns : List Str}
mutual
def sub (φ : Int → D) : D → D
  | .int i => φ i
  | .tup (x :: r) => .tup (x :: subs φ r)
  | d => d
def subs (φ : Int → D) : List D → List D
  | [] => []
  | d :: r => sub φ d :: subs φ r
end
theorem subs_map (φ : Int → D) : ∀ ts, subs φ ts = ts.map (sub φ)
  | [] => by simp [subs]
  | d :: r => by simp [subs, subs_map φ r]
theorem sub_tup (φ : Int → D) (z : Str) (ts : List D) : sub φ (.tup (.str z :: ts)) = .tup (.str z :: ts.map (sub φ)) := by simp [sub, subs_map]
theorem sub_int (φ : Int → D) (i : Int) : sub φ (.int i) = φ i := by simp [sub]
theorem tk_sub {φ : Int → D} (h : ∀ i, tk ns (φ i) = true) : ∀ t, tk ns t = true → tk ns (sub φ t) = true := tk_ind1 (fun i => by rw [sub_int]; exact h i) fun z ts hz hl ht => by
  rw [sub_tup]
  refine tk_nd hz (by simpa using hl) fun u hu => ?_
  obtain ⟨t, h1, rfl⟩ := List.mem_map.mp hu
  exact (ht t h1).2
theorem hgt_sub {φ : Int → D} {B : Nat} (h : ∀ i, hgt (φ i) ≤ B) : ∀ t, tk ns t = true → hgt (sub φ t) ≤ hgt t + B := tk_ind1 (fun i => by rw [sub_int]; have := h i; omega) fun z ts hz hl ht => by
  rw [sub_tup, hgt_tup, hgt_tup]
  have : hgts (ts.map (sub φ)) ≤ hgts ts + B := hgts_le fun d hd => by
    obtain ⟨t, h1, rfl⟩ := List.mem_map.mp hd
    have := (ht t h1).2
    have := hgts_mem h1
    omega
  omega
theorem eqb_tk : ∀ t, tk ns t = true → D.eqb t = true ∧ D.dep t ≤ hgt t := tk_ind1 (fun i => by simp [D.eqb, D.dep]) fun z ts _ hl h => by
  have h1 : D.eqbs ts = true := eqbs_of fun t ht => ((h t ht).2).1
  have h2 : D.deps ts ≤ hgts ts := deps_le fun t ht => Nat.le_trans ((h t ht).2).2 (hgts_mem ht)
  rw [hgt_tup]
  refine ⟨by simp [D.eqb, D.eqbs, h1], ?_⟩
  simp only [D.dep, D.deps]; omega
theorem eqD_tk : ∀ t, tk ns t = true → eqD t t = true := tk_ind1 (fun i => by simp [eqD]) fun z ts _ hl h => by
  simp only [eqD, eqDs, beq_self_eq_true, Bool.true_and]
  exact eqDs_self fun t ht => (h t ht).2
theorem eqR_tk {t : D} (h : tk ns t = true) (hh : hgt t ≤ 100) : eqR t t = .ok (.bl true) := by
  obtain ⟨h1, h2⟩ := eqb_tk t h
  have : eqR t t = .ok (.bl (eqD t t)) := must_pos (c := EqC t t) (.inl ⟨h1, h1, by omega⟩)
  rw [this, eqD_tk t h]
def look (ks : List Key) (ds : List D) (i : Int) : D := (valD ks ds (.inl i)).getD (.int i)
theorem has_val : ∀ {ks : List Key} {ds : List D} (k : Key), ks.length = ds.length → hasK ks k = (valD ks ds k).isSome
  | [], [], k, _ => rfl
  | [], _ :: _, k, h => by simp at h
  | _ :: _, [], k, h => by simp at h
  | x :: ks, d :: ds, k, h => by
    have ih := has_val (ks := ks) (ds := ds) k (by simpa using h)
    by_cases e : x = k
    · simp [hasK, valD, e]
    · have e1 : hasK (x :: ks) k = hasK ks k := by simp [hasK, e]
      have e2 : valD (x :: ks) (d :: ds) k = valD ks ds k := by simp [valD, e]
      rw [e1, e2, ih]
theorem valD_mem {ks : List Key} {ds : List D} {k : Key} {d : D} (h : valD ks ds k = some d) : d ∈ ds := by
  unfold valD at h
  cases z2 : (ks.zip ds).find? fun p => decide (p.1 = k) with
  | none => rw [z2] at h; cases h
  | some pr => rw [z2] at h; cases h; exact (List.of_mem_zip (List.mem_of_find?_eq_some z2)).2
theorem look_tk {ks : List Key} {ds : List D} (h : ∀ d ∈ ds, tk ns d = true) (i : Int) : tk ns (look ks ds i) = true := by
  unfold look
  cases e : valD ks ds (.inl i) with
  | none => rfl
  | some d => exact h d (valD_mem e)
theorem look_hgt {ks : List Key} {ds : List D} {B : Nat} (hB : 1 ≤ B) (h : ∀ d ∈ ds, hgt d ≤ B) (i : Int) : hgt (look ks ds i) ≤ B := by
  unfold look
  cases e : valD ks ds (.inl i) with
  | none => simp [hgt]; omega
  | some d => exact h d (valD_mem e)

def isN : D → Bool
  | .int _ => true
  | _ => false
theorem whole1 {t : D} (h : tk ns t = true) : F__law_whole [t] = .ok (.bl (isN t)) := by
  rcases tk_cases h with ⟨i, rfl⟩ | ⟨z, ts, rfl, _⟩ <;> rfl
theorem filled1 {ks : List Key} {ds : List D} : ∀ (n : Nat) (t : D), tk ns t = true → hgt t ≤ n → F__law_filled n [t, .dic ks ds] = .ok (sub (look ks ds) t)
  | 0, t, _, h => by have := hgt_pos t; omega
  | n + 1, t, ht, hh => by
    have htest : asB (callF 1 F__law_whole (cons1 (rdS 0) nil1)) [.shr t, .shr (.dic ks ds)] = .ok (isN t) := asB_ok (call_ok (cons_ok rfl rfl) rfl (whole1 ht))
    rcases tk_cases ht with ⟨i, rfl⟩ | ⟨z, r, rfl, hz, hl, hr⟩
    · refine run_f ?_
      show g__law_filled F__law_whole (F__law_filled n) [.shr (.int i), .shr (.dic ks ds)] = _
      unfold g__law_filled
      rw [sub_int]
      exact seq_rt ((if_t htest).trans (retS_ok rfl))
    · rw [hgt_tup] at hh
      have hsl : slice3 (rdS 0) (someI (cI 1)) noneI slD [.shr (.tup (.str z :: r)), .shr (.dic ks ds)] = .ok (.tup r) := slice_ok (x := .tup (.str z :: r)) (lo := some 1) (hi := none) rfl (someI_ok rfl) rfl (show Res.ok (D.tup (cutD (.str z :: r) (some 1) none)) = _ by rw [cut1])
      have hcomp : compO false 1 [1] (itF (slice3 (rdS 0) (someI (cI 1)) noneI slD)) (gN 0) trueB (callF 2 (F__law_filled n) (cons1 (rdS 0) (cons1 (rdS 1) nil1))) [.shr (.tup (.str z :: r)), .shr (.dic ks ds)] = .ok (.lst (r.map (sub (look ks ds)))) := by
        refine comp1 (c := .shr (.dic ks ds)) rfl (sub (look ks ds)) (fun d => d ∈ r) (itF_ok hsl rfl) (fun d hd => hd) (small_of (by omega)) ?_
        intro d acc hd
        refine call_ok (cons_ok rfl (cons_ok rfl rfl)) rfl (filled1 n d (hr d hd) ?_)
        have := hgts_mem hd; omega
      refine run_t ?_
      show g__law_filled F__law_whole (F__law_filled n) [.shr (.tup (.str z :: r)), .shr (.dic ks ds)] = _
      unfold g__law_filled
      rw [seq_nx ((if_f htest).trans rfl), sub_tup]
      exact retO_ok (app_ok (cons_ok (two_ok (lst_ok (cons_ok (two_ok rfl rfl ix0) rfl) (small_of (by simp))) hcomp (add_lst (a := [.str z]) (b := r.map (sub (look ks ds))) (by rw [List.length_map]; simp only [List.length_cons, List.length_nil]; exact small_of (by omega)))) rfl) rfl)
theorem intsOf_fun {α : Type} (f : α → Int) (l : List α) : intsOf (l.map fun a => D.int (f a)) = some (l.map f) := by
  have := intsOf_of (l.map f)
  rwa [List.map_map] at this
theorem count1 : ∀ (n : Nat) (t : D), tk ns t = true → hgt t ≤ n → F__law_count n [t] = .ok (.int ((num t : Nat) : Int))
  | 0, t, _, h => by have := hgt_pos t; omega
  | n + 1, t, ht, hh => by
    have htest : asB (callF 1 F__law_whole (cons1 (rdS 0) nil1)) [.shr t] = .ok (isN t) := asB_ok (call_ok (cons_ok rfl rfl) rfl (whole1 ht))
    rcases tk_cases ht with ⟨i, rfl⟩ | ⟨z, r, rfl, hz, hl, hr⟩
    · refine run_t ?_
      show g__law_count F__law_whole (F__law_count n) [.shr (.int i)] = _
      unfold g__law_count
      exact seq_rt ((if_t htest).trans rfl)
    · rw [hgt_tup] at hh
      have hsl : slice3 (rdS 0) (someI (cI 1)) noneI slD [.shr (.tup (.str z :: r))] = .ok (.tup r) := slice_ok (x := .tup (.str z :: r)) (lo := some 1) (hi := none) rfl (someI_ok rfl) rfl (show Res.ok (D.tup (cutD (.str z :: r) (some 1) none)) = _ by rw [cut1])
      have hcomp : compO false 1 [] (itF (slice3 (rdS 0) (someI (cI 1)) noneI slD)) (gN 0) trueB (callF 1 (F__law_count n) (cons1 (rdS 0) nil1)) [.shr (.tup (.str z :: r))] = .ok (.lst (r.map fun d => .int ((num d : Nat) : Int))) := by
        refine comp0 (fun d => .int ((num d : Nat) : Int)) (fun d => d ∈ r) (itF_ok hsl rfl) (fun d hd => hd) (small_of (by omega)) ?_
        intro d acc hd
        refine call_ok (cons_ok rfl rfl) rfl (count1 n d (hr d hd) ?_)
        have := hgts_mem hd; omega
      have hsum : sumLD [.lst (r.map fun d => D.int ((num d : Nat) : Int))] = .ok (.int ((nums r : Nat) : Int)) := by
        show (match intsOf (r.map fun d => D.int ((num d : Nat) : Int)) with | some is => _ | none => _) = _
        rw [intsOf_fun]
        show Res.ok (D.int (sumI (r.map fun d => ((num d : Nat) : Int)))) = _
        rw [nums_sum]
      refine run_t ?_
      show g__law_count F__law_whole (F__law_count n) [.shr (.tup (.str z :: r))] = _
      unfold g__law_count
      rw [seq_nx ((if_f htest).trans rfl), num_tup]
      refine (retO_ok (add2_ok rfl (app_ok (cons_ok hcomp rfl) hsum))).trans ?_
      push_cast; rfl
end
end G

set_option Elab.async false
set_option linter.all false
set_option maxRecDepth 100000
set_option maxHeartbeats 4000000
namespace G
open PySem PySem.Spec L2 M
section
variable {ns : List Str}
theorem seqI_nx {g1 g2 : Sl → Res OutI} {env env' : Sl} (h : g1 env = .ok (.nx env')) : seqI g1 g2 env = g2 env' := by
  show (g1 env >>= _) = _
  rw [h]; rfl
theorem seqI_rt {g1 g2 : Sl → Res OutI} {env env' : Sl} {b : Bool} (h : g1 env = .ok (.rt b env')) : seqI g1 g2 env = .ok (.rt b env') := by
  show (g1 env >>= _) = _
  rw [h]; rfl
theorem ifI_t {t : Sl → Res Bool} {g1 g2 : Sl → Res OutI} {env : Sl} (h : t env = .ok true) : ifI t g1 g2 env = g1 env := by
  show (t env >>= _) = _
  rw [h]; rfl
theorem ifI_f {t : Sl → Res Bool} {g1 g2 : Sl → Res OutI} {env : Sl} (h : t env = .ok false) : ifI t g1 g2 env = g2 env := by
  show (t env >>= _) = _
  rw [h]; rfl
theorem runI_ok {N n : Nat} {g : Sl → Res OutI} {ds : List D} {ks : List Key} {es : List D} {b : Bool} {ks' : List Key} {es' : List D} {env : Sl} (h : g (startI N ds ks es) = .ok (.rt b env)) (hn : ds.length = n) (he : env[n]? = some (.own (.dic ks' es'))) : runI N n g ds ks es = .ok (b, ks', es') := by
  unfold runI
  rw [h]
  show must _ _ = _
  rw [must_pos hn, he]
theorem head1 (z : Str) (ts : List D) : F_head [.tup (.str z :: ts)] = .ok (.tup [.str z, .int ((ts.length : Nat) : Int)]) := by
  refine run_t ?_
  show g_head [.shr (.tup (.str z :: ts))] = _
  unfold g_head
  have h1 : asB (isiF "tuple" (rdS 0)) [.shr (.tup (.str z :: ts))] = .ok true := rfl
  refine retO_ok ?_
  show (asB (isiF "tuple" (rdS 0)) [.shr (.tup (.str z :: ts))] >>= _) = _
  rw [h1]
  refine (tup_ok (cons_ok (two_ok rfl rfl ix0) (cons_ok (two_ok (app_ok (cons_ok rfl rfl) rfl) rfl rfl) rfl)) (small_of (by simp))).trans ?_
  simp
theorem ne_head (z : Str) (k : Int) : neR (.tup [.str z, .int k]) (.tup [.str z, .int k]) = .ok (.bl false) := by
  unfold neR
  rw [must_pos (by left; simp [D.eqb, D.eqbs, D.dep, D.deps])]
  simp [eqD, eqDs]

theorem nb_tk : ∀ t, tk ns t = true → nb t = true := tk_ind1 (fun i => rfl) fun z ts _ _ h => by
  simp only [nb, nbs, Bool.true_and]
  exact nbs_of fun t ht => (h t ht).2
theorem eqD_eq {a b : D} (ha : tk ns a = true) (hb : tk ns b = true) : eqD a b = true ↔ a = b := eqD_iff a (nb_tk a ha) b (nb_tk b hb)
theorem eqR_tk2 {a b : D} (ha : tk ns a = true) (hb : tk ns b = true) (hh : hgt a ≤ 100) : eqR a b = .ok (.bl (eqD a b)) := by
  obtain ⟨h1, h2⟩ := eqb_tk a ha
  exact must_pos (c := EqC a b) (.inl ⟨h1, (eqb_tk b hb).1, by omega⟩)
theorem neR_tk2 {a b : D} (ha : tk ns a = true) (hb : tk ns b = true) (hh : hgt a ≤ 100) : neR a b = .ok (.bl (!eqD a b)) := by
  obtain ⟨h1, h2⟩ := eqb_tk a ha
  exact must_pos (c := EqC a b) (.inl ⟨h1, (eqb_tk b hb).1, by omega⟩)
abbrev As := List (Int × D)
def ky (M : As) : List Key := kys (M.map (·.1))
def vl (M : As) : List D := M.map (·.2)
theorem ky_vl (M : As) : (ky M).length = (vl M).length := by simp [ky, vl, kys]
theorem ky_len (M : As) : (ky M).length = M.length := by simp [ky, kys]
theorem valD_as : ∀ (M : As) (i : Int), valD (ky M) (vl M) (.inl i) = M.lookup i
  | [], i => by simp [valD, ky, kys]
  | (x, d) :: M, i => by
    have ih := valD_as M i
    by_cases e : i = x
    · subst e; simp [valD, ky, vl, kys, List.lookup_cons]
    · have e1 : valD (ky ((x, d) :: M)) (vl ((x, d) :: M)) (.inl i) = valD (ky M) (vl M) (.inl i) := by
        have : (Sum.inl x : Key) ≠ .inl i := fun h => e (Sum.inl.inj h).symm
        simp [valD, ky, vl, kys, this]
      rw [e1, ih, List.lookup_cons]
      have : (i == x) = false := by simpa using e
      rw [this]
theorem put_as {M : As} {i : Int} (d : D) (h : M.lookup i = none) : putKs (ky M) (.inl i) = ky (M ++ [(i, d)]) ∧ putDs (ky M) (vl M) (.inl i) d = vl (M ++ [(i, d)]) := by
  have hk : hasK (ky M) (.inl i) = false := by
    rw [has_val (.inl i) (ky_vl M), valD_as, h]; rfl
  unfold putKs putDs
  rw [hk]
  simp [ky, vl, kys]
def addC : As → As → Option As
  | M, [] => some M
  | M, (i, d) :: r => match M.lookup i with
    | some d0 => if eqD d0 d = true then addC M r else none
    | none => addC (M ++ [(i, d)]) r
theorem addC_app : ∀ (a b M : As), addC M (a ++ b) = (addC M a).bind fun M' => addC M' b
  | [], b, M => rfl
  | (i, d) :: r, b, M => by
    simp only [List.cons_append, addC]
    cases M.lookup i with
    | none => exact addC_app r b _
    | some d0 =>
      dsimp only
      split
      · exact addC_app r b M
      · rfl
theorem addC_len : ∀ (ps M M' : As), addC M ps = some M' → M'.length ≤ M.length + ps.length
  | [], M, M', h => by cases h; simp
  | (i, d) :: r, M, M', h => by
    simp only [addC] at h
    cases e : M.lookup i with
    | none =>
      rw [e] at h
      have := addC_len r _ M' h
      simp only [List.length_append, List.length_cons, List.length_nil] at this ⊢; omega
    | some d0 =>
      rw [e] at h
      dsimp only at h
      split at h
      · have := addC_len r M M' h
        simp only [List.length_cons]; omega
      · cases h
theorem addC_mem : ∀ (ps M M' : As), addC M ps = some M' → ∀ q ∈ M', q ∈ M ∨ q ∈ ps
  | [], M, M', h, q, hq => by cases h; exact .inl hq
  | (i, d) :: r, M, M', h, q, hq => by
    simp only [addC] at h
    cases e : M.lookup i with
    | none =>
      rw [e] at h
      rcases addC_mem r _ M' h q hq with z | z
      · rcases List.mem_append.mp z with z | z
        · exact .inl z
        · exact .inr (by simp only [List.mem_cons, List.not_mem_nil, or_false] at z; simp [z])
      · exact .inr (by simp [z])
    | some d0 =>
      rw [e] at h
      dsimp only at h
      split at h
      · rcases addC_mem r M M' h q hq with z | z
        · exact .inl z
        · exact .inr (by simp [z])
      · cases h
mutual
def mp : D → D → Option As
  | .int i, t => some [(i, t)]
  | .tup (.str z :: ps), .tup (.str w :: ts) => if z = w then mps ps ts else none
  | _, _ => none
def mps : List D → List D → Option As
  | [], [] => some []
  | p :: ps, t :: ts => (mp p t).bind fun a => (mps ps ts).bind fun b => some (a ++ b)
  | _, _ => none
end
theorem mp_int (i : Int) (t : D) : mp (.int i) t = some [(i, t)] := by simp [mp]
theorem mp_tup (z w : Str) (ps ts : List D) : mp (.tup (.str z :: ps)) (.tup (.str w :: ts)) = if z = w then mps ps ts else none := by simp [mp]
theorem mp_no (z : Str) (ps : List D) (i : Int) : mp (.tup (.str z :: ps)) (.int i) = none := by simp [mp]
theorem mps_cons (p t : D) (ps ts : List D) : mps (p :: ps) (t :: ts) = (mp p t).bind fun a => (mps ps ts).bind fun b => some (a ++ b) := by simp [mps]
theorem mps_len : ∀ (ps ts : List D), ps.length ≠ ts.length → mps ps ts = none
  | [], [], h => absurd rfl h
  | [], _ :: _, _ => by simp [mps]
  | _ :: _, [], _ => by simp [mps]
  | p :: ps, t :: ts, h => by
    rw [mps_cons, mps_len ps ts (by simpa using h)]
    cases mp p t <;> rfl
theorem mps_step {p t : D} {ps ts : List D} {M : As} : (mps (p :: ps) (t :: ts)).bind (addC M) = ((mp p t).bind (addC M)).bind fun M1 => (mps ps ts).bind (addC M1) := by
  rw [mps_cons]
  cases mp p t with
  | none => rfl
  | some a =>
    cases h : mps ps ts with
    | none =>
      show none = (addC M a).bind _
      cases addC M a <;> rfl
    | some b => exact addC_app a b M
def Pt (ns : List Str) (t : D) (q : Int × D) : Prop := tk ns q.2 = true ∧ hgt q.2 ≤ hgt t ∧ num q.2 ≤ num t
mutual
theorem mp_pt : ∀ (p t : D) (a : As), tk ns t = true → mp p t = some a → ∀ q ∈ a, Pt ns t q
  | .int i, t, a, ht, h, q, hq => by
    rw [mp_int] at h; cases h
    simp only [List.mem_cons, List.not_mem_nil, or_false] at hq
    subst hq
    exact ⟨ht, Nat.le_refl _, Nat.le_refl _⟩
  | .tup (.str z :: ps), t, a, ht, h, q, hq => by
    rcases tk_cases ht with ⟨i, rfl⟩ | ⟨w, ts, rfl, _, _, hts⟩
    · rw [mp_no] at h; cases h
    · rw [mp_tup] at h
      split at h
      · obtain ⟨u, hu, hp⟩ := mps_pt ps ts a hts h q hq
        refine ⟨hp.1, ?_, ?_⟩
        · have := hp.2.1; have := hgts_mem hu; rw [hgt_tup]; omega
        · have := hp.2.2
          rw [num_tup]
          obtain ⟨x, y, rfl⟩ := List.append_of_mem hu
          rw [nums_app]; simp only [nums]; omega
      · cases h
  | .tup [], t, a, ht, h, q, hq => by simp [mp] at h
  | .tup (.non :: _), t, a, ht, h, q, hq => by simp [mp] at h
  | .tup (.bl _ :: _), t, a, ht, h, q, hq => by simp [mp] at h
  | .tup (.int _ :: _), t, a, ht, h, q, hq => by simp [mp] at h
  | .tup (.tup _ :: _), t, a, ht, h, q, hq => by simp [mp] at h
  | .tup (.lst _ :: _), t, a, ht, h, q, hq => by simp [mp] at h
  | .tup (.scr _ :: _), t, a, ht, h, q, hq => by simp [mp] at h
  | .tup (.dic _ _ :: _), t, a, ht, h, q, hq => by simp [mp] at h
  | .tup (.dit _ _ :: _), t, a, ht, h, q, hq => by simp [mp] at h
  | .tup (.exn _ :: _), t, a, ht, h, q, hq => by simp [mp] at h
  | .tup (.fdc _ _ :: _), t, a, ht, h, q, hq => by simp [mp] at h
  | .tup (.hdc _ _ :: _), t, a, ht, h, q, hq => by simp [mp] at h
  | .non, t, a, ht, h, q, hq => by simp [mp] at h
  | .bl _, t, a, ht, h, q, hq => by simp [mp] at h
  | .str _, t, a, ht, h, q, hq => by simp [mp] at h
  | .lst _, t, a, ht, h, q, hq => by simp [mp] at h
  | .scr _, t, a, ht, h, q, hq => by simp [mp] at h
  | .dic _ _, t, a, ht, h, q, hq => by simp [mp] at h
  | .dit _ _, t, a, ht, h, q, hq => by simp [mp] at h
  | .exn _, t, a, ht, h, q, hq => by simp [mp] at h
  | .fdc _ _, t, a, ht, h, q, hq => by simp [mp] at h
  | .hdc _ _, t, a, ht, h, q, hq => by simp [mp] at h
theorem mps_pt : ∀ (ps ts : List D) (a : As), (∀ t ∈ ts, tk ns t = true) → mps ps ts = some a → ∀ q ∈ a, ∃ t ∈ ts, Pt ns t q
  | [], [], a, ht, h, q, hq => by simp [mps] at h; subst h; cases hq
  | [], _ :: _, a, ht, h, q, hq => by simp [mps] at h
  | _ :: _, [], a, ht, h, q, hq => by simp [mps] at h
  | p :: ps, t :: ts, a, ht, h, q, hq => by
    rw [mps_cons] at h
    cases e1 : mp p t with
    | none => rw [e1] at h; cases h
    | some x =>
      rw [e1] at h
      cases e2 : mps ps ts with
      | none => rw [e2] at h; cases h
      | some y =>
        rw [e2] at h
        cases h
        rcases List.mem_append.mp hq with z | z
        · exact ⟨t, by simp, mp_pt p t x (ht t (by simp)) e1 q z⟩
        · obtain ⟨u, hu, hp⟩ := mps_pt ps ts y (fun u hu => ht u (by simp [hu])) e2 q z
          exact ⟨u, by simp [hu], hp⟩
end
theorem mp_num : ∀ p, tk ns p = true → ∀ t a, mp p t = some a → a.length ≤ num p := tk_ind1 (fun i t a h => by rw [mp_int] at h; cases h; simp [num]) fun z ps _ _ hp t a h => by
  cases t with
  | tup l =>
    cases l with
    | nil => simp [mp] at h
    | cons x ts =>
      cases x with
      | str w =>
        rw [mp_tup] at h
        split at h
        · rw [num_tup]
          have key : ∀ (ps ts : List D) (a : As), (∀ p ∈ ps, ∀ t a, mp p t = some a → a.length ≤ num p) → mps ps ts = some a → a.length ≤ nums ps := fun ps => by
            induction ps with
            | nil => intro ts a _ h; cases ts <;> simp [mps] at h; subst h; simp
            | cons p ps ih =>
              intro ts a hh h
              cases ts with
              | nil => simp [mps] at h
              | cons t ts =>
                rw [mps_cons] at h
                cases e1 : mp p t with
                | none => rw [e1] at h; cases h
                | some x =>
                  rw [e1] at h
                  cases e2 : mps ps ts with
                  | none => rw [e2] at h; cases h
                  | some y =>
                    rw [e2] at h
                    cases h
                    have h1 := hh p (by simp) t x e1
                    have h2 := ih ts y (fun p' hp' => hh p' (by simp [hp'])) e2
                    simp only [nums, List.length_append]; omega
          have := key ps ts a (fun p hp' => (hp p hp').2) h
          omega
        · cases h
      | _ => simp [mp] at h
  | _ => simp [mp] at h
end
end G

set_option Elab.async false
set_option linter.all false
set_option maxRecDepth 100000
set_option maxHeartbeats 4000000
namespace G
open PySem PySem.Spec L2 M
section
variable {ns : List Str}
theorem bounded1 {d : D} (h : fine d = true) (hg : isGr d = false) : F_bounded [d] = .ok d := by
  have ht : asB (callF 1 F_is_great (cons1 (rdS 0) nil1)) [.shr d] = .ok false := asB_ok (call_ok (cons_ok rfl rfl) rfl (by rw [great1 h, hg]))
  refine run_f ?_
  show g_bounded F_is_great [.shr d] = _
  unfold g_bounded
  rw [seq_nx ((if_f ht).trans rfl)]
  exact retS_ok rfl
theorem goK_none {g : Sl → Res (Option Bool)} {j : Nat} {env : Sl} : ∀ ks : List Key, (∀ k ∈ ks, g (env.set j (.shr (kD k))) = .ok none) → goK g j ks env = .ok none
  | [], _ => rfl
  | k :: ks, h => by
    show (g (env.set j (.shr (kD k))) >>= _) = _
    rw [h k (by simp)]
    exact goK_none ks fun k' hk => h k' (by simp [hk])
theorem allI_kys (l : List Int) : allI (kys l) = true := by
  unfold allI
  rw [List.all_eq_true]
  intro k hk
  obtain ⟨i, _, rfl⟩ := List.mem_map.mp hk
  rfl

def As.ok (ns : List Str) (M : As) : Prop := ∀ q ∈ M, tk ns q.2 = true ∧ hgt q.2 ≤ 100
theorem ne_head2 {z w : Str} {a b : Nat} (h : ¬ (z = w ∧ a = b)) : neR (.tup [.str z, .int (a : Int)]) (.tup [.str w, .int (b : Int)]) = .ok (.bl true) := by
  unfold neR
  rw [must_pos (by left; simp [D.eqb, D.eqbs, D.dep, D.deps])]
  have : eqD (.tup [.str z, .int (a : Int)]) (.tup [.str w, .int (b : Int)]) = false := by
    simp only [eqD, eqDs, Bool.and_true]
    rw [Bool.and_eq_false_iff]
    by_cases e : z = w
    · right
      have : a ≠ b := fun e2 => h ⟨e, e2⟩
      simp; omega
    · left; simpa using e
  rw [this]; rfl
theorem ne_head3 (z : Str) (a : Int) : neR (.tup [.str z, .int a]) .non = .ok (.bl true) := by
  unfold neR
  rw [must_pos (by left; simp [D.eqb, D.eqbs, D.dep, D.deps])]
  simp [eqD]
def fitB (n : Nat) : Sl → Res OutI := ifNI (callI (F_fits_on n) 2 (rdS 3) (rdS 4)) (retI (cB false)) nxI
def FitR (o : Option As) (r : Res (Bool × List Key × List D)) : Prop := match o with
  | some M => r = .ok (true, ky M, vl M)
  | none => ∃ M : As, r = .ok (false, ky M, vl M)
def Fits (ns : List Str) (n : Nat) (p : D) : Prop := ∀ (t : D) (M : As), tk ns t = true → hgt t ≤ 100 → M.ok ns → M.length + num p ≤ 5000 → FitR ((mp p t).bind (addC M)) (F_fits_on n [p, t] (ky M) (vl M))
theorem as_ok {p t : D} {M M' : As} (ht : tk ns t = true) (hh : hgt t ≤ 100) (hM : M.ok ns) (h : (mp p t).bind (addC M) = some M') : M'.ok ns := by
  cases e : mp p t with
  | none => rw [e] at h; cases h
  | some a =>
    rw [e] at h
    intro q hq
    rcases addC_mem a M M' h q hq with z | z
    · exact hM q z
    · have := mp_pt p t a ht e q z
      exact ⟨this.1, by have := this.2.1; omega⟩
theorem as_len {p t : D} {M M' : As} (hp : tk ns p = true) (h : (mp p t).bind (addC M) = some M') : M'.length ≤ M.length + num p := by
  cases e : mp p t with
  | none => rw [e] at h; cases h
  | some a =>
    rw [e] at h
    have h1 := addC_len a M M' h
    have h2 := mp_num p hp t a e
    omega
theorem fits_loop {n : Nat} (a b : Slot) : ∀ (ps ts : List D) (M : As) (u v : Slot), (∀ p ∈ ps, tk ns p = true ∧ Fits ns n p) → (∀ t ∈ ts, tk ns t = true ∧ hgt t ≤ 100) → ps.length = ts.length → M.ok ns → M.length + nums ps ≤ 5000 →
    match (mps ps ts).bind (addC M) with
    | some M2 => ∃ u' v', forDI (g2 (gN 3) (gN 4)) (fitB n) (pairsD ps ts) [a, b, .own (.dic (ky M) (vl M)), u, v] = .ok (.nx [a, b, .own (.dic (ky M2) (vl M2)), u', v'])
    | none => ∃ (env : Sl) (M2 : As), forDI (g2 (gN 3) (gN 4)) (fitB n) (pairsD ps ts) [a, b, .own (.dic (ky M) (vl M)), u, v] = .ok (.rt false env) ∧ env[2]? = some (.own (.dic (ky M2) (vl M2)))
  | [], [], M, u, v, _, _, _, _, _ => by
    simp only [mps, Option.bind_some, addC]
    exact ⟨u, v, rfl⟩
  | [], _ :: _, _, _, _, _, _, h, _, _ => by simp at h
  | _ :: _, [], _, _, _, _, _, h, _, _ => by simp at h
  | p :: ps, t :: ts, M, u, v, hp, ht, hl, hM, hlen => by
    obtain ⟨hp1, hp2⟩ := hp p (by simp)
    obtain ⟨ht1, ht2⟩ := ht t (by simp)
    simp only [nums] at hlen
    have hF := hp2 t M ht1 ht2 hM (by omega)
    rw [mps_step]
    have e0 : forDI (g2 (gN 3) (gN 4)) (fitB n) (pairsD (p :: ps) (t :: ts)) [a, b, .own (.dic (ky M) (vl M)), u, v] = (fitB n [a, b, .own (.dic (ky M) (vl M)), .shr p, .shr t] >>= fun o => match o with
      | .nx env' => forDI (g2 (gN 3) (gN 4)) (fitB n) (pairsD ps ts) env'
      | .rt b e => .ok (.rt b e)) := rfl
    cases e : (mp p t).bind (addC M) with
    | none =>
      rw [e] at hF
      obtain ⟨M2, hM2⟩ := hF
      have hc : callI (F_fits_on n) 2 (rdS 3) (rdS 4) [a, b, .own (.dic (ky M) (vl M)), .shr p, .shr t] = .ok (false, [a, b, .own (.dic (ky M2) (vl M2)), .shr p, .shr t]) := by
        show (F_fits_on n [p, t] (ky M) (vl M) >>= _) = _
        rw [hM2]; rfl
      have hs : fitB n [a, b, .own (.dic (ky M) (vl M)), .shr p, .shr t] = .ok (.rt false [a, b, .own (.dic (ky M2) (vl M2)), .shr p, .shr t]) := by
        show (callI (F_fits_on n) 2 (rdS 3) (rdS 4) [a, b, .own (.dic (ky M) (vl M)), .shr p, .shr t] >>= _) = _
        rw [hc]; rfl
      show ∃ (env : Sl) (M2 : As), _
      refine ⟨[a, b, .own (.dic (ky M2) (vl M2)), .shr p, .shr t], M2, ?_, rfl⟩
      rw [e0, hs]; rfl
    | some M1 =>
      rw [e] at hF
      have hM1 := as_ok ht1 ht2 hM e
      have hl1 := as_len hp1 e
      have hc : callI (F_fits_on n) 2 (rdS 3) (rdS 4) [a, b, .own (.dic (ky M) (vl M)), .shr p, .shr t] = .ok (true, [a, b, .own (.dic (ky M1) (vl M1)), .shr p, .shr t]) := by
        show (F_fits_on n [p, t] (ky M) (vl M) >>= _) = _
        rw [show F_fits_on n [p, t] (ky M) (vl M) = _ from hF]; rfl
      have hs : fitB n [a, b, .own (.dic (ky M) (vl M)), .shr p, .shr t] = .ok (.nx [a, b, .own (.dic (ky M1) (vl M1)), .shr p, .shr t]) := by
        show (callI (F_fits_on n) 2 (rdS 3) (rdS 4) [a, b, .own (.dic (ky M) (vl M)), .shr p, .shr t] >>= _) = _
        rw [hc]; rfl
      rw [e0, hs]
      exact fits_loop a b ps ts M1 (.shr p) (.shr t) (fun x hx => hp x (by simp [hx])) (fun x hx => ht x (by simp [hx])) (by simpa using hl) hM1 (by omega)
theorem fits1 : ∀ (n : Nat) (p : D), tk ns p = true → hgt p ≤ n → Fits ns n p
  | 0, p, _, h => by have := hgt_pos p; omega
  | n + 1, p, hp, hh => by
    intro t M ht htt hM hl
    have hi := isi_tk hp
    have htest : ∀ q d u v, notB (asB (isiF "tuple" (rdS 0))) [.shr p, q, d, u, v] = .ok (!isT p) := fun q d u v => notB_ok (asB_ok (by rw [ev_isiF]; exact hi))
    rcases tk_cases hp with ⟨i, rfl⟩ | ⟨z, r, rfl, hz, hlr, hr⟩
    · rw [mp_int]
      have hlen : (ky M).length < sizeLine := by rw [ky_len]; exact Nat.lt_of_le_of_lt (show M.length ≤ 5000 by omega) (by decide)
      have e0 : retSD 2 (rdS 0) (rdS 1) (rdS 1) [.shr (.int i), .shr t, .own (.dic (ky M) (vl M)), .un, .un] = must ((ky M).length < sizeLine) (match valD (ky M) (vl M) (.inl i) with
        | some d0 => eqR d0 t >>= fun r => match r with
          | .bl b => .ok (.rt b [.shr (.int i), .shr t, .own (.dic (ky M) (vl M)), .un, .un])
          | _ => .stuck
        | none => eqR t t >>= fun r => match r with
          | .bl b => .ok (.rt b [.shr (.int i), .shr t, .own (.dic (putKs (ky M) (.inl i)) (putDs (ky M) (vl M) (.inl i) t)), .un, .un])
          | _ => .stuck) := rfl
      rw [must_pos hlen, valD_as] at e0
      have fin : ∀ (b : Bool) (M2 : As) (env : Sl), retSD 2 (rdS 0) (rdS 1) (rdS 1) [.shr (.int i), .shr t, .own (.dic (ky M) (vl M)), .un, .un] = .ok (.rt b env) → env[2]? = some (.own (.dic (ky M2) (vl M2))) → F_fits_on (n + 1) [.int i, t] (ky M) (vl M) = .ok (b, ky M2, vl M2) := fun b M2 env h1 h2 => by
        refine runI_ok (env := env) ?_ rfl h2
        show g_fits_on F_head F_places (F_fits_on n) [.shr (.int i), .shr t, .own (.dic (ky M) (vl M)), .un, .un] = _
        unfold g_fits_on
        exact seqI_rt ((ifI_t (htest _ _ _ _)).trans h1)
      show FitR (addC M [(i, t)]) _
      simp only [addC]
      cases e : M.lookup i with
      | none =>
        rw [e] at e0
        dsimp only at e0 ⊢
        rw [eqR_tk ht htt, (put_as t e).1, (put_as t e).2] at e0
        exact fin true _ _ e0 rfl
      | some d0 =>
        rw [e] at e0
        dsimp only at e0 ⊢
        have hd0 : tk ns d0 = true ∧ hgt d0 ≤ 100 := by
          have : (i, d0) ∈ M := by
            clear e0 fin hl hM hlen
            induction M with
            | nil => cases e
            | cons q M ih =>
              obtain ⟨x, d⟩ := q
              rw [List.lookup_cons] at e
              by_cases hx : i = x
              · subst hx
                simp at e
                subst e
                simp
              · have : (i == x) = false := by simpa using hx
                rw [this] at e
                exact List.mem_cons_of_mem _ (ih e)
          exact hM _ this
        rw [eqR_tk2 hd0.1 ht hd0.2] at e0
        cases hb : eqD d0 t with
        | true =>
          rw [hb] at e0
          rw [if_pos rfl]
          exact fin true M _ e0 rfl
        | false =>
          rw [hb] at e0
          rw [if_neg Bool.false_ne_true]
          exact ⟨M, fin false M _ e0 rfl⟩
    · rw [hgt_tup] at hh
      rw [num_tup] at hl
      have pl1 := places1 (d := .tup (.str z :: r)) rfl
      simp only [kids] at pl1
      have fin : ∀ (b : Bool) (M2 : As) (env : Sl), g_fits_on F_head F_places (F_fits_on n) [.shr (.tup (.str z :: r)), .shr t, .own (.dic (ky M) (vl M)), .un, .un] = .ok (.rt b env) → env[2]? = some (.own (.dic (ky M2) (vl M2))) → F_fits_on (n + 1) [.tup (.str z :: r), t] (ky M) (vl M) = .ok (b, ky M2, vl M2) := fun b M2 env h1 h2 => runI_ok (env := env) h1 rfl h2
      have stop : asB (two (callF 1 F_head (cons1 (rdS 0) nil1)) (callF 1 F_head (cons1 (rdS 1) nil1)) neR) [.shr (.tup (.str z :: r)), .shr t, .own (.dic (ky M) (vl M)), .un, .un] = .ok true → F_fits_on (n + 1) [.tup (.str z :: r), t] (ky M) (vl M) = .ok (false, ky M, vl M) := fun ht2 => by
        refine fin false M [.shr (.tup (.str z :: r)), .shr t, .own (.dic (ky M) (vl M)), .un, .un] ?_ rfl
        unfold g_fits_on
        rw [seqI_nx ((ifI_f (htest _ _ _ _)).trans rfl)]
        exact seqI_rt ((ifI_t ht2).trans rfl)
      rcases tk_cases ht with ⟨j, rfl⟩ | ⟨w, ts, rfl, _, _, hts⟩
      · rw [mp_no]
        exact ⟨M, stop (asB_ok (two_ok (call_ok (cons_ok rfl rfl) rfl (head1 z r)) (call_ok (d := .non) (cons_ok rfl rfl) rfl rfl) (ne_head3 z _)))⟩
      · rw [mp_tup]
        by_cases hzw : z = w ∧ r.length = ts.length
        · obtain ⟨rfl, hlen⟩ := hzw
          rw [if_pos rfl]
          have pl2 := places1 (d := .tup (.str z :: ts)) rfl
          simp only [kids] at pl2
          have hh2 := head1 z ts
          rw [← hlen] at hh2
          have ht2 : asB (two (callF 1 F_head (cons1 (rdS 0) nil1)) (callF 1 F_head (cons1 (rdS 1) nil1)) neR) [.shr (.tup (.str z :: r)), .shr (.tup (.str z :: ts)), .own (.dic (ky M) (vl M)), .un, .un] = .ok false :=
            asB_ok (two_ok (call_ok (cons_ok rfl rfl) rfl (head1 z r)) (call_ok (cons_ok rfl rfl) rfl hh2) (ne_head z _))
          have hzip : zipF (callF 1 F_places (cons1 (rdS 0) nil1)) (callF 1 F_places (cons1 (rdS 1) nil1)) [.shr (.tup (.str z :: r)), .shr (.tup (.str z :: ts)), .own (.dic (ky M) (vl M)), .un, .un] = .ok (pairsD r ts) := by
            have c1 : callF 1 F_places (cons1 (rdS 0) nil1) [.shr (.tup (.str z :: r)), .shr (.tup (.str z :: ts)), .own (.dic (ky M) (vl M)), .un, .un] = .ok (.tup r) := call_ok (cons_ok rfl rfl) rfl pl1
            have c2 : callF 1 F_places (cons1 (rdS 1) nil1) [.shr (.tup (.str z :: r)), .shr (.tup (.str z :: ts)), .own (.dic (ky M) (vl M)), .un, .un] = .ok (.tup ts) := call_ok (cons_ok rfl rfl) rfl pl2
            unfold zipF
            rw [c1, ev_ok, c2]; rfl
          have hfor : forI (zipF (callF 1 F_places (cons1 (rdS 0) nil1)) (callF 1 F_places (cons1 (rdS 1) nil1))) (g2 (gN 3) (gN 4)) (fitB n) [.shr (.tup (.str z :: r)), .shr (.tup (.str z :: ts)), .own (.dic (ky M) (vl M)), .un, .un] = forDI (g2 (gN 3) (gN 4)) (fitB n) (pairsD r ts) [.shr (.tup (.str z :: r)), .shr (.tup (.str z :: ts)), .own (.dic (ky M) (vl M)), .un, .un] := by
            show (zipF _ _ _ >>= _) = _
            rw [hzip]; rfl
          have hloop := fits_loop (ns := ns) (n := n) (.shr (.tup (.str z :: r))) (.shr (.tup (.str z :: ts))) r ts M .un .un (fun p hp => ⟨hr p hp, fits1 n p (hr p hp) (by have := hgts_mem hp; omega)⟩) (fun u hu => ⟨hts u hu, by rw [hgt_tup] at htt; have := hgts_mem hu; omega⟩) hlen hM (by omega)
          cases e : (mps r ts).bind (addC M) with
          | none =>
            rw [e] at hloop
            obtain ⟨env, M2, h1, h2⟩ := hloop
            refine ⟨M2, fin false M2 env ?_ h2⟩
            unfold g_fits_on
            rw [seqI_nx ((ifI_f (htest _ _ _ _)).trans rfl), seqI_nx ((ifI_f ht2).trans rfl)]
            exact seqI_rt (hfor.trans h1)
          | some M2 =>
            rw [e] at hloop
            obtain ⟨u', v', h1⟩ := hloop
            refine fin true M2 [.shr (.tup (.str z :: r)), .shr (.tup (.str z :: ts)), .own (.dic (ky M2) (vl M2)), u', v'] ?_ rfl
            unfold g_fits_on
            rw [seqI_nx ((ifI_f (htest _ _ _ _)).trans rfl), seqI_nx ((ifI_f ht2).trans rfl)]
            exact (seqI_nx (hfor.trans h1)).trans rfl
        · have hno : (if z = w then mps r ts else none) = none := by
            by_cases e : z = w
            · rw [if_pos e]; exact mps_len r ts fun e2 => hzw ⟨e, e2⟩
            · rw [if_neg e]
          rw [hno]
          exact ⟨M, stop (asB_ok (two_ok (call_ok (cons_ok rfl rfl) rfl (head1 z r)) (call_ok (cons_ok rfl rfl) rfl (head1 w ts)) (ne_head2 hzw)))⟩
def fitO : Option As → D
  | some M => .dic (ky M) (vl M)
  | none => .non
theorem fitting2 {p t : D} (hp : tk ns p = true) (ht : tk ns t = true) (hh : hgt p ≤ 64) (hht : hgt t ≤ 100) (hn : num p ≤ 1000) : F_fitting [p, t] = .ok (fitO ((mp p t).bind (addC []))) := by
  have hF := fits1 64 p hp hh t [] ht hht (fun _ h => by cases h) (by simp only [List.length_nil]; omega)
  refine run_t ?_
  show g_fitting (F_fits_on 64) [.shr p, .shr t, .un] = _
  unfold g_fitting
  rw [seq_nx (env' := [.shr p, .shr t, .own (.dic [] [])]) rfl]
  cases e : (mp p t).bind (addC []) with
  | none =>
    rw [e] at hF
    obtain ⟨M2, hM2⟩ := hF
    have hc : callI (F_fits_on 64) 2 (rdS 0) (rdS 1) [.shr p, .shr t, .own (.dic [] [])] = .ok (false, [.shr p, .shr t, .own (.dic (ky M2) (vl M2))]) := by
      show (F_fits_on 64 [p, t] (ky []) (vl []) >>= _) = _
      rw [hM2]; rfl
    show (callI (F_fits_on 64) 2 (rdS 0) (rdS 1) _ >>= _) = _
    rw [hc]; rfl
  | some M2 =>
    rw [e] at hF
    have hc : callI (F_fits_on 64) 2 (rdS 0) (rdS 1) [.shr p, .shr t, .own (.dic [] [])] = .ok (true, [.shr p, .shr t, .own (.dic (ky M2) (vl M2))]) := by
      show (F_fits_on 64 [p, t] (ky []) (vl []) >>= _) = _
      rw [show F_fits_on 64 [p, t] (ky []) (vl []) = _ from hF]; rfl
    show (callI (F_fits_on 64) 2 (rdS 0) (rdS 1) _ >>= _) = _
    rw [hc]; rfl
end
end G

set_option Elab.async false
set_option linter.all false
set_option maxRecDepth 100000
set_option maxHeartbeats 4000000
namespace G
open PySem PySem.Spec L2 M
section
variable {ns : List Str}
theorem dicEq_of {ks0 : List Key} {ds0 : List D} : ∀ (ks : List Key) (ds : List D), (∀ p ∈ ks.zip ds, valD ks0 ds0 p.1 = some p.2) → (∀ d ∈ ds, eqD d d = true) → dicEq ks ds ks0 ds0 = true
  | [], ds, _, _ => by cases ds <;> rfl
  | k :: ks, [], _, _ => rfl
  | k :: ks, d :: ds, h, he => by
    have h1 := h (k, d) (by simp)
    show ((match valD ks0 ds0 k with | some e => eqD d e | none => false) && dicEq ks ds ks0 ds0) = true
    rw [show valD ks0 ds0 k = some d from h1, dicEq_of ks ds (fun p hp => h p (by rw [List.zip_cons_cons]; exact List.mem_cons_of_mem _ hp)) fun e hh => he e (by simp [hh])]
    simp [he d (by simp)]

theorem lookup_mem : ∀ {M : As} {i : Int} {d : D}, M.lookup i = some d → (i, d) ∈ M
  | [], _, _, h => by cases h
  | (x, e) :: M, i, d, h => by
    rw [List.lookup_cons] at h
    by_cases hx : i = x
    · subst hx
      simp at h
      subst h
      simp
    · have : (i == x) = false := by simpa using hx
      rw [this] at h
      exact List.mem_cons_of_mem _ (lookup_mem h)
theorem lookup_key : ∀ {M : As} {i : Int}, i ∈ M.map (·.1) → ∃ d, M.lookup i = some d
  | [], _, h => by cases h
  | (x, e) :: M, i, h => by
    rw [List.lookup_cons]
    by_cases hx : i = x
    · subst hx; exact ⟨e, by simp⟩
    · have : (i == x) = false := by simpa using hx
      rw [this]
      simp only [List.map_cons, List.mem_cons] at h
      exact lookup_key (h.resolve_left hx)
theorem lookup_none {M : As} {i : Int} (h : M.lookup i = none) : i ∉ M.map (·.1) := fun z => by
  obtain ⟨d, e⟩ := lookup_key z
  rw [h] at e; cases e
theorem lookup_of {M : As} {i : Int} {d : D} (nd : (M.map (·.1)).Nodup) (h : (i, d) ∈ M) : M.lookup i = some d := by
  induction M with
  | nil => cases h
  | cons q M ih =>
    obtain ⟨x, e⟩ := q
    simp only [List.map_cons, List.nodup_cons] at nd
    rw [List.lookup_cons]
    rcases List.mem_cons.mp h with z | z
    · cases z; simp
    · have hx : i ≠ x := fun e => nd.1 (e ▸ List.mem_map.mpr ⟨_, z, rfl⟩)
      have : (i == x) = false := by simpa using hx
      rw [this]
      exact ih nd.2 z
theorem fit2 {p t : D} (hp : tk ns p = true) (ht : tk ns t = true) (hh : hgt p ≤ 60) (hht : hgt t ≤ 60) (hn : num p ≤ 1000) (hnt : num t ≤ 1000) : F_fit [p, t] = .ok (fitO ((mp p t).bind (addC []))) := by
  have hf := fitting2 hp ht (by omega) (by omega) hn
  have hM : ∀ M, (mp p t).bind (addC []) = some M → ∀ q ∈ M, Pt ns t q := fun M e q hq => by
    cases e1 : mp p t with
    | none => rw [e1] at e; cases e
    | some a =>
      rw [e1] at e
      rcases addC_mem a [] M e q hq with z | z
      · cases z
      · exact mp_pt p t a ht e1 q z
  generalize (mp p t).bind (addC []) = o at hf hM
  refine run_t ?_
  show g_fit F_fitting F_bounded [.shr p, .shr t, .un, .un] = _
  unfold g_fit
  cases o with
  | none =>
    have s1 : setO 2 (callF 2 F_fitting (cons1 (rdS 0) (cons1 (rdS 1) nil1))) [.shr p, .shr t, .un, .un] = .ok (.nx [.shr p, .shr t, .shr .non, .un]) := (setO_ok (call_ok (cons_ok rfl (cons_ok rfl rfl)) rfl hf)).trans rfl
    rw [seq_nx s1]
    have ht : asB (two (rdB 2) cN notN) [.shr p, .shr t, .shr .non, .un] = .ok false := asB_ok (two_ok rfl rfl rfl)
    rw [seq_nx ((if_f ht).trans rfl)]
    rfl
  | some M =>
    have hMp := hM M rfl
    have himm : D.imms (vl M) = true := imms_iff.mpr fun d hd => by
      obtain ⟨q, hq, rfl⟩ := List.mem_map.mp hd
      exact imm_tk _ (hMp q hq).1
    have s1 : setO 2 (callF 2 F_fitting (cons1 (rdS 0) (cons1 (rdS 1) nil1))) [.shr p, .shr t, .un, .un] = .ok (.nx [.shr p, .shr t, .own (.dic (ky M) (vl M)), .un]) := (setO_ok (call_ok (cons_ok rfl (cons_ok rfl rfl)) rfl hf)).trans rfl
    rw [seq_nx s1]
    have ht : asB (two (rdB 2) cN notN) [.shr p, .shr t, .own (.dic (ky M) (vl M)), .un] = .ok true := asB_ok (two_ok rfl rfl rfl)
    have hl : lend [.shr p, .shr t, .own (.dic (ky M) (vl M)), .un] = [lendS (.shr p), lendS (.shr t), .shr (.fdc (ky M) (vl M)), .un] := by
      show [lendS (.shr p), lendS (.shr t), lendS (.own (.dic (ky M) (vl M))), .un] = _
      have : lendS (.own (.dic (ky M) (vl M))) = .shr (.fdc (ky M) (vl M)) := if_pos himm
      rw [this]
    have hgo : goK (exprB (callF 1 F_bounded (cons1 (two (rdS 2) (rdS 3) getF) nil1))) 3 (ky M) (lend [.shr p, .shr t, .own (.dic (ky M) (vl M)), .un]) = .ok none := by
      refine goK_none _ fun k hk => ?_
      obtain ⟨i, hi, rfl⟩ := List.mem_map.mp hk
      obtain ⟨d, hd⟩ := lookup_key hi
      have hq := hMp _ (lookup_mem hd)
      rw [hl]
      show exprB (callF 1 F_bounded (cons1 (two (rdS 2) (rdS 3) getF) nil1)) [lendS (.shr p), lendS (.shr t), .shr (.fdc (ky M) (vl M)), .shr (.int i)] = _
      have hgr : isGr d = false := by
        unfold isGr
        have h1 := hq.2.1
        have h2 := hq.2.2
        dsimp only at h1 h2
        simp; omega
      have hgf : getF (.fdc (ky M) (vl M)) (.int i) = .ok d := by
        show (match valD (ky M) (vl M) (.inl i) with | some d => Res.ok d | none => .stuck) = _
        rw [valD_as, hd]
      have hc : callF 1 F_bounded (cons1 (two (rdS 2) (rdS 3) getF) nil1) [lendS (.shr p), lendS (.shr t), .shr (.fdc (ky M) (vl M)), .shr (.int i)] = .ok d :=
        call_ok (cons_ok (two_ok rfl rfl hgf) rfl) rfl (bounded1 (fine_tk _ hq.1) hgr)
      show (callF 1 F_bounded _ _ >>= _) = _
      rw [hc]; rfl
    have hfor : ∃ u : Slot, forK 2 3 (exprB (callF 1 F_bounded (cons1 (two (rdS 2) (rdS 3) getF) nil1))) [.shr p, .shr t, .own (.dic (ky M) (vl M)), .un] = .ok (.nx [.shr p, .shr t, .own (.dic (ky M) (vl M)), u]) := by
      have e : forK 2 3 (exprB (callF 1 F_bounded (cons1 (two (rdS 2) (rdS 3) getF) nil1))) [.shr p, .shr t, .own (.dic (ky M) (vl M)), .un] = endK 3 (ky M) [.shr p, .shr t, .own (.dic (ky M) (vl M)), .un] none := by
        show must _ _ = _
        rw [must_pos (show allI (ky M) = true from allI_kys _), hgo]; rfl
      rw [e]
      unfold endK
      cases (ky M).getLast? with
      | none => exact ⟨.un, rfl⟩
      | some k => exact ⟨.shr (kD k), rfl⟩
    obtain ⟨u, hu⟩ := hfor
    rw [seq_nx ((if_t ht).trans hu)]
    rfl
def prD (q : D × D) : D := .tup [q.1, q.2]
def mpS : List (D × D) → Option As
  | [] => some []
  | q :: S => (mp q.1 q.2).bind fun a => (mpS S).bind fun b => some (a.reverse ++ b)
theorem mpS_app : ∀ A B : List (D × D), mpS (A ++ B) = (mpS A).bind fun a => (mpS B).bind fun b => some (a ++ b)
  | [], B => by
    simp only [List.nil_append, mpS, Option.bind_some]
    cases mpS B <;> rfl
  | q :: A, B => by
    simp only [List.cons_append, mpS, mpS_app A B]
    cases mp q.1 q.2 with
    | none => rfl
    | some a =>
      cases mpS A with
      | none => rfl
      | some b =>
        cases mpS B with
        | none => rfl
        | some c => simp
theorem mpS_zip : ∀ ps ts : List D, ps.length = ts.length → mpS (ps.zip ts).reverse = (mps ps ts).bind fun a => some a.reverse
  | [], [], _ => by simp [mpS, mps]
  | [], _ :: _, h => by simp at h
  | _ :: _, [], h => by simp at h
  | p :: ps, t :: ts, h => by
    rw [List.zip_cons_cons, List.reverse_cons, mpS_app, mpS_zip ps ts (by simpa using h), mps_cons]
    simp only [mpS]
    cases mp p t with
    | none => cases mps ps ts <;> rfl
    | some a =>
      cases mps ps ts with
      | none => rfl
      | some b => simp
def cost (S : List (D × D)) : Nat := (S.map fun q => num q.1).sum
theorem cost_zip : ∀ ps ts : List D, ps.length = ts.length → cost (ps.zip ts).reverse = nums ps
  | [], [], _ => by simp [cost, nums]
  | [], _ :: _, h => by simp at h
  | _ :: _, [], h => by simp at h
  | p :: ps, t :: ts, h => by
    have ih := cost_zip ps ts (by simpa using h)
    simp only [cost, List.zip_cons_cons, List.reverse_cons, List.map_append, List.sum_append, List.map_cons, List.map_nil, List.sum_cons, List.sum_nil, nums] at ih ⊢
    omega
theorem cost_app (A B : List (D × D)) : cost (A ++ B) = cost A + cost B := by simp [cost]
theorem cost_cons (q : D × D) (S : List (D × D)) : cost (q :: S) = num q.1 + cost S := by simp [cost]
theorem len_cost : ∀ S : List (D × D), S.length ≤ cost S
  | [] => by simp
  | q :: S => by
    have := len_cost S
    have := num_pos q.1
    rw [cost_cons, List.length_cons]; omega
theorem mpS_step {q : D × D} {S : List (D × D)} {M : As} : (mpS (q :: S)).bind (addC M) = ((mp q.1 q.2).bind fun a => addC M a.reverse).bind fun M1 => (mpS S).bind (addC M1) := by
  simp only [mpS]
  cases mp q.1 q.2 with
  | none => rfl
  | some a =>
    simp only [Option.bind_some]
    cases h : mpS S with
    | none =>
      show none = (addC M a.reverse).bind _
      cases addC M a.reverse <;> rfl
    | some b => exact addC_app a.reverse b M
theorem compD_fn {cs : List Slot} {fe : Sl → Res D} (h : D → D) (P : D → Prop) (hf : ∀ d acc, P d → fe (.shr d :: (cs ++ [.own (.lst acc)])) = .ok (h d)) :
    ∀ (ds : List D) (x : Slot) (acc : List D), (∀ d ∈ ds, P d) → acc.length + ds.length ≤ sizeLine →
      ∃ (y : Slot), compD (1 + cs.length) (gN 0) trueB fe ds (x :: (cs ++ [.own (.lst acc)])) = .ok (y :: (cs ++ [.own (.lst (acc ++ ds.map h))]))
  | [], x, acc, _, _ => ⟨x, by simp [compD]⟩
  | d :: ds, x, acc, hP, hl => by
    simp only [List.length_cons] at hl
    have ht := hf d acc (hP d (by simp))
    obtain ⟨y, h1⟩ := compD_fn h P hf ds (.shr d) (acc ++ [h d]) (fun e he => hP e (by simp [he])) (by simp only [List.length_append, List.length_cons, List.length_nil]; omega)
    refine ⟨y, ?_⟩
    have e1 : ownL (1 + cs.length) (.shr d :: (cs ++ [.own (.lst acc)])) = .ok acc := by
      unfold ownL
      rw [show (1 + cs.length) = cs.length + 1 by omega, List.getElem?_cons_succ, List.getElem?_append_right (Nat.le_refl _)]
      simp
    have e2 : (Slot.shr d :: (cs ++ [Slot.own (.lst acc)])).set (1 + cs.length) (.own (.lst (acc ++ [h d]))) = .shr d :: (cs ++ [.own (.lst (acc ++ [h d]))]) := by
      rw [show (1 + cs.length) = cs.length + 1 by omega, List.set_cons_succ, List.set_append_right _ _ (Nat.le_refl _)]
      simp
    show (fe (.shr d :: (cs ++ [.own (.lst acc)])) >>= _) = _
    rw [ht]
    show (ownL (1 + cs.length) (.shr d :: (cs ++ [.own (.lst acc)])) >>= _) = _
    rw [e1]
    show must _ _ = _
    rw [must_pos (by omega)]
    show compD _ _ _ _ ds ((Slot.shr d :: (cs ++ [Slot.own (.lst acc)])).set (1 + cs.length) (.own (.lst (acc ++ [h d])))) = _
    rw [e2, h1]
    simp
theorem comp_fn {js : List Nat} {fi : Sl → Res (List D)} {fe : Sl → Res D} {env : Sl} {ds : List D} {cs : List Slot} (h : D → D) (P : D → Prop) (hc : js.map (capS false env) = cs) (hi : fi env = .ok ds) (hP : ∀ d ∈ ds, P d) (hl : ds.length ≤ sizeLine)
    (hf : ∀ d acc, P d → fe (.shr d :: (cs ++ [.own (.lst acc)])) = .ok (h d)) : compO false 1 js fi (gN 0) trueB fe env = .ok (.lst (ds.map h)) := by
  obtain ⟨y, h1⟩ := compD_fn (cs := cs) h P hf ds .un [] hP (by simpa using hl)
  have hlen : js.length = cs.length := by rw [← hc]; simp
  show (fi env >>= _) = _
  rw [hi]
  show (compD (1 + js.length) (gN 0) trueB fe ds (compE false 1 js env) >>= _) = _
  have he : compE false 1 js env = .un :: (cs ++ [.own (.lst [])]) := by
    unfold compE; rw [hc]; rfl
  rw [he, hlen, h1]
  show (ownL (1 + cs.length) (y :: (cs ++ [.own (.lst ([] ++ ds.map h))])) >>= _) = _
  have e1 : ownL (1 + cs.length) (y :: (cs ++ [.own (.lst ([] ++ ds.map h))])) = .ok (ds.map h) := by
    unfold ownL
    rw [show (1 + cs.length) = cs.length + 1 by omega, List.getElem?_cons_succ, List.getElem?_append_right (Nat.le_refl _)]
    simp
  rw [e1]
  exact must_pos (c := false = true → D.imms (ds.map h) = true) (fun h => by cases h)
def dueB : Sl → Res Out := (seqO (popO 3 (g2 (gN 4) (gN 5)))
    (ifO (asB (callF 1 F__law_whole (cons1 (rdS 4) nil1))) (ifSD 2 (rdS 4) (rdS 5) (rdS 5) (retO cN) nxO) (ifO (orB (asB (callF 1 F__law_whole (cons1 (rdS 5) nil1))) (orB (asB (two (two (rdS 4) (cI 0) ixD) (two (rdS 5) (cI 0) ixD) neR)) (asB (two (app (cons1 (rdS 4) nil1) lenD) (app (cons1 (rdS 5) nil1) lenD) neR)))) (retO cN) (extendO 3 (compO false 1 [4, 5] (rng2F (cons1 (cI 1) (cons1 (app (cons1 (rdS 4) nil1) lenD) nil1))) (gN 0) trueB (tupF (cons1 (two (rdS 1) (rdS 0) ixD) (cons1 (two (rdS 2) (rdS 0) ixD) nil1))))))))
def dueE (a b : Slot) (M : As) (S : List (D × D)) (u v : Slot) : Sl := [a, b, .own (.dic (ky M) (vl M)), .own (.lst (S.reverse.map prD)), u, v]
def SOk (ns : List Str) (S : List (D × D)) : Prop := ∀ q ∈ S, tk ns q.1 = true ∧ hgt q.1 ≤ 60 ∧ tk ns q.2 = true ∧ hgt q.2 ≤ 60
theorem due_test {a b : Slot} {M : As} {S : List (D × D)} {u v : Slot} (hS : SOk ns S) : asB (two (rdB 3) (lstF nil1) neR) (dueE a b M S u v) = .ok (!S.isEmpty) := by
  have hb : D.eqbs (S.reverse.map prD) = true := eqbs_of fun d hd => by
    obtain ⟨q, hq, rfl⟩ := List.mem_map.mp hd
    have := hS q (List.mem_reverse.mp hq)
    simp [prD, D.eqb, D.eqbs, (eqb_tk _ this.1).1, (eqb_tk _ this.2.2.1).1]
  have hd : D.deps (S.reverse.map prD) ≤ 70 := deps_le fun d hd => by
    obtain ⟨q, hq, rfl⟩ := List.mem_map.mp hd
    have := hS q (List.mem_reverse.mp hq)
    have h1 := (eqb_tk _ this.1).2
    have h2 := (eqb_tk _ this.2.2.1).2
    have h3 := this.2.1
    have h4 := this.2.2.2
    simp only [prD, D.dep, D.deps]; omega
  have hc : EqC (.lst (S.reverse.map prD)) (.lst []) := .inl ⟨by simp only [D.eqb]; exact hb, rfl, by simp only [D.dep]; omega⟩
  have hne : neR (.lst (S.reverse.map prD)) (.lst []) = .ok (.bl (!S.isEmpty)) := by
    unfold neR
    rw [must_pos hc]
    cases S with
    | nil => simp [eqD, eqDs]
    | cons q S =>
      have : ∃ x xs, (q :: S).reverse.map prD = x :: xs := by
        cases e : (q :: S).reverse.map prD with
        | nil => simp at e
        | cons x xs => exact ⟨x, xs, rfl⟩
      obtain ⟨x, xs, e⟩ := this
      rw [e]
      simp [eqD, eqDs]
  exact asB_ok (two_ok rfl (lst_ok rfl (small_of (by simp))) hne)
theorem pop_ok {a b : Slot} {M : As} {q : D × D} {S : List (D × D)} {u v : Slot} : popO 3 (g2 (gN 4) (gN 5)) (dueE a b M (q :: S) u v) = .ok (.nx (dueE a b M S (.shr q.1) (.shr q.2))) := by
  have e1 : ((q :: S).reverse.map prD).getLast? = some (prD q) := by simp
  have e2 : ((q :: S).reverse.map prD).dropLast = S.reverse.map prD := by simp
  show (match ((q :: S).reverse.map prD).getLast? with | some d => _ | none => _) = _
  rw [e1]
  show (g2 (gN 4) (gN 5) (prD q) ((dueE a b M (q :: S) u v).set 3 (.own (.lst ((q :: S).reverse.map prD).dropLast))) >>= _) = _
  rw [e2]; rfl
end
end G

set_option Elab.async false
set_option linter.all false
set_option maxRecDepth 100000
set_option maxHeartbeats 4000000
namespace G
open PySem PySem.Spec L2 M
section
variable {ns : List Str}
theorem ixT {x : D} {r : List D} {k : Nat} {d : D} (h : r[k]? = some d) : ixD (.tup (x :: r)) (.int ((k : Int) + 1)) = .ok d := by
  simp only [ixD]
  rw [show (k : Int) + 1 = ((k + 1 : Nat) : Int) by omega, M.atI_nat, List.getElem?_cons_succ, h]
theorem ne_str {z w : Str} : neR (.str z) (.str w) = .ok (.bl (!(z == w))) := by
  unfold neR
  rw [must_pos (by left; simp [D.eqb, D.dep])]; simp [eqD]
def kidsH (ps ts : List D) : D → D
  | .int k => .tup [(ps[(k - 1).toNat]?).getD .non, (ts[(k - 1).toNat]?).getD .non]
  | d => d
theorem kids_map {ps ts : List D} (h : ps.length = ts.length) : (intsD 1 ps.length).map (kidsH ps ts) = (ps.zip ts).map prD := by
  refine List.ext_getElem? fun i => ?_
  rw [List.getElem?_map, List.getElem?_map]
  unfold intsD
  rw [List.getElem?_map]
  by_cases hi : i < ps.length
  · have hi2 : i < ts.length := by omega
    rw [List.getElem?_range hi]
    have hz : (ps.zip ts)[i]? = some (ps[i], ts[i]) := by
      rw [List.getElem?_eq_getElem (by rw [List.length_zip]; omega)]
      simp
    rw [hz]
    simp [kidsH, prD, hi, hi2]
    have e : (1 + (i : Int)).toNat - 1 = i := by omega
    rw [e]
    simp [hi, hi2]
  · have h1 : (List.range ps.length)[i]? = none := by rw [List.getElem?_eq_none]; simpa using hi
    have h2 : (ps.zip ts)[i]? = none := by rw [List.getElem?_eq_none]; rw [List.length_zip]; omega
    rw [h1, h2]; rfl
theorem due_loop (a b : Slot) : ∀ (n : Nat) (S : List (D × D)) (M : As) (u v : Slot), cost S + 1 ≤ n → SOk ns S → As.ok ns M → M.length + cost S ≤ 5000 →
    match (mpS S).bind (addC M) with
    | some M2 => ∃ u' v', whileD n (asB (two (rdB 3) (lstF nil1) neR)) dueB (dueE a b M S u v) = .ok (.nx (dueE a b M2 [] u' v'))
    | none => whileD n (asB (two (rdB 3) (lstF nil1) neR)) dueB (dueE a b M S u v) = .ok (.rt true .non)
  | 0, S, M, u, v, h, _, _, _ => by omega
  | n + 1, [], M, u, v, h, hS, hM, hl => by
    simp only [mpS, Option.bind_some, addC]
    exact ⟨u, v, whileD_end (due_test (ns := ns) hS)⟩
  | n + 1, (p, t) :: S, M, u, v, h, hS, hM, hl => by
    have ht := due_test (a := a) (b := b) (M := M) (u := u) (v := v) hS
    have ht : asB (two (rdB 3) (lstF nil1) neR) (dueE a b M ((p, t) :: S) u v) = .ok true := ht
    obtain ⟨hp, hph, htk, hth⟩ := hS (p, t) (by simp)
    have hS' : SOk ns S := fun q hq => hS q (by simp [hq])
    rw [cost_cons] at h hl
    dsimp only at h hl hp hph htk hth
    have hnp := num_pos p
    rw [mpS_step]
    dsimp only
    have hb : dueB (dueE a b M ((p, t) :: S) u v) = ifO (asB (callF 1 F__law_whole (cons1 (rdS 4) nil1))) (ifSD 2 (rdS 4) (rdS 5) (rdS 5) (retO cN) nxO) (ifO (orB (asB (callF 1 F__law_whole (cons1 (rdS 5) nil1))) (orB (asB (two (two (rdS 4) (cI 0) ixD) (two (rdS 5) (cI 0) ixD) neR)) (asB (two (app (cons1 (rdS 4) nil1) lenD) (app (cons1 (rdS 5) nil1) lenD) neR)))) (retO cN) (extendO 3 (compO false 1 [4, 5] (rng2F (cons1 (cI 1) (cons1 (app (cons1 (rdS 4) nil1) lenD) nil1))) (gN 0) trueB (tupF (cons1 (two (rdS 1) (rdS 0) ixD) (cons1 (two (rdS 2) (rdS 0) ixD) nil1)))))) (dueE a b M S (.shr p) (.shr t)) := seq_nx pop_ok
    have w4 : asB (callF 1 F__law_whole (cons1 (rdS 4) nil1)) (dueE a b M S (.shr p) (.shr t)) = .ok (isN p) := asB_ok (call_ok (cons_ok rfl rfl) rfl (whole1 hp))
    have w5 : asB (callF 1 F__law_whole (cons1 (rdS 5) nil1)) (dueE a b M S (.shr p) (.shr t)) = .ok (isN t) := asB_ok (call_ok (cons_ok rfl rfl) rfl (whole1 htk))
    rcases tk_cases hp with ⟨i, rfl⟩ | ⟨z, ps, rfl, hz, hlps, hps⟩
    · rw [mp_int]
      rw [if_t w4] at hb
      have hlen : (ky M).length < sizeLine := by rw [ky_len]; exact Nat.lt_of_le_of_lt (show M.length ≤ 5000 by omega) (by decide)
      have e0 : sdN 2 (rdS 4) (rdS 5) (rdS 5) (dueE a b M S (.shr (.int i)) (.shr t)) = must ((ky M).length < sizeLine) (match valD (ky M) (vl M) (.inl i) with
        | some d0 => neR d0 t >>= fun r => match r with
          | .bl bb => .ok (bb, dueE a b M S (.shr (.int i)) (.shr t))
          | _ => .stuck
        | none => neR t t >>= fun r => match r with
          | .bl bb => .ok (bb, [a, b, .own (.dic (putKs (ky M) (.inl i)) (putDs (ky M) (vl M) (.inl i) t)), .own (.lst (S.reverse.map prD)), .shr (.int i), .shr t])
          | _ => .stuck) := rfl
      rw [must_pos hlen, valD_as] at e0
      have hb2 : ∀ (bb : Bool) (env' : Sl), sdN 2 (rdS 4) (rdS 5) (rdS 5) (dueE a b M S (.shr (.int i)) (.shr t)) = .ok (bb, env') → dueB (dueE a b M ((.int i, t) :: S) u v) = if bb = true then .ok (.rt true .non) else .ok (.nx env') := fun bb env' e => by
        rw [hb]
        show (sdN 2 (rdS 4) (rdS 5) (rdS 5) (dueE a b M S (.shr (.int i)) (.shr t)) >>= _) = _
        rw [e]
        cases bb <;> rfl
      have hme : addC M [(i, t)].reverse = match M.lookup i with
          | some d0 => if eqD d0 t = true then some M else none
          | none => some (M ++ [(i, t)]) := by
        simp only [List.reverse_cons, List.reverse_nil, List.nil_append, addC]
        all_goals (cases List.lookup i M <;> rfl)
      simp only [Option.bind_some]
      rw [hme]
      cases e : M.lookup i with
      | none =>
        rw [e] at e0
        dsimp only at e0 ⊢
        rw [neR_tk2 htk htk (by omega), (put_as t e).1, (put_as t e).2, eqD_tk t htk] at e0
        have hgo := hb2 false _ e0
        have hM2 : As.ok ns (M ++ [(i, t)]) := fun q hq => by
          rcases List.mem_append.mp hq with z | z
          · exact hM q z
          · simp only [List.mem_cons, List.not_mem_nil, or_false] at z
            rw [z]; exact ⟨htk, by dsimp only; omega⟩
        simp only [Option.bind_some]
        rw [whileD_go ht hgo]
        exact due_loop a b n S (M ++ [(i, t)]) (.shr (.int i)) (.shr t) (by omega) hS' hM2 (by simp only [List.length_append, List.length_cons, List.length_nil]; omega)
      | some d0 =>
        rw [e] at e0
        dsimp only at e0 ⊢
        have hd0 := hM _ (lookup_mem e)
        dsimp only at hd0
        rw [neR_tk2 hd0.1 htk hd0.2] at e0
        cases hbq : eqD d0 t with
        | true =>
          rw [hbq] at e0
          have hgo := hb2 false _ e0
          rw [if_pos rfl]
          simp only [Option.bind_some]
          rw [whileD_go ht hgo]
          exact due_loop a b n S M (.shr (.int i)) (.shr t) (by omega) hS' hM (by omega)
        | false =>
          rw [hbq] at e0
          have hgo := hb2 true _ e0
          rw [if_neg Bool.false_ne_true]
          exact whileD_rt ht hgo
    · rw [if_f w4] at hb
      have stop : orB (asB (callF 1 F__law_whole (cons1 (rdS 5) nil1))) (orB (asB (two (two (rdS 4) (cI 0) ixD) (two (rdS 5) (cI 0) ixD) neR)) (asB (two (app (cons1 (rdS 4) nil1) lenD) (app (cons1 (rdS 5) nil1) lenD) neR))) (dueE a b M S (.shr (.tup (.str z :: ps))) (.shr t)) = .ok true → whileD (n + 1) (asB (two (rdB 3) (lstF nil1) neR)) dueB (dueE a b M ((.tup (.str z :: ps), t) :: S) u v) = .ok (.rt true .non) := fun e => by
        refine whileD_rt ht ?_
        rw [hb, if_t e]; rfl
      rcases tk_cases htk with ⟨j, rfl⟩ | ⟨w, ts, rfl, _, hlts, hts⟩
      · rw [mp_no]
        refine stop ?_
        show (asB (callF 1 F__law_whole (cons1 (rdS 5) nil1)) (dueE a b M S (.shr (.tup (.str z :: ps))) (.shr (.int j))) >>= _) = _
        rw [w5]; rfl
      · rw [mp_tup]
        have w5 : asB (callF 1 F__law_whole (cons1 (rdS 5) nil1)) (dueE a b M S (.shr (.tup (.str z :: ps))) (.shr (.tup (.str w :: ts)))) = .ok false := w5
        have t1 : asB (two (two (rdS 4) (cI 0) ixD) (two (rdS 5) (cI 0) ixD) neR) (dueE a b M S (.shr (.tup (.str z :: ps))) (.shr (.tup (.str w :: ts)))) = .ok (!(z == w)) := asB_ok (two_ok (two_ok rfl rfl ix0) (two_ok rfl rfl ix0) ne_str)
        have t2 : asB (two (app (cons1 (rdS 4) nil1) lenD) (app (cons1 (rdS 5) nil1) lenD) neR) (dueE a b M S (.shr (.tup (.str z :: ps))) (.shr (.tup (.str w :: ts)))) = .ok (!((((D.str z :: ps).length : Nat) : Int) == (((D.str w :: ts).length : Nat) : Int))) := asB_ok (two_ok (app_ok (cons_ok rfl rfl) rfl) (app_ok (cons_ok rfl rfl) rfl) neR_int)
        have tt := or_ok w5 (or_ok t1 t2)
        by_cases hzw : z = w ∧ ps.length = ts.length
        · obtain ⟨rfl, hlen⟩ := hzw
          rw [if_pos rfl]
          have e1 : (false || (!(z == z) || !((((D.str z :: ps).length : Nat) : Int) == (((D.str z :: ts).length : Nat) : Int)))) = false := by
            simp [hlen]
          rw [e1] at tt
          rw [num_tup] at h hl
          rw [hgt_tup] at hph hth
          have hS2 : SOk ns ((ps.zip ts).reverse ++ S) := fun q hq => by
            rcases List.mem_append.mp hq with z' | z'
            · have hm := List.of_mem_zip (List.mem_reverse.mp z')
              exact ⟨hps _ hm.1, by have := hgts_mem hm.1; omega, hts _ hm.2, by have := hgts_mem hm.2; omega⟩
            · exact hS' q z'
          have hco : cost ((ps.zip ts).reverse ++ S) = nums ps + cost S := by rw [cost_app, cost_zip ps ts hlen]
          have hcomp : compO false 1 [4, 5] (rng2F (cons1 (cI 1) (cons1 (app (cons1 (rdS 4) nil1) lenD) nil1))) (gN 0) trueB (tupF (cons1 (two (rdS 1) (rdS 0) ixD) (cons1 (two (rdS 2) (rdS 0) ixD) nil1))) (dueE a b M S (.shr (.tup (.str z :: ps))) (.shr (.tup (.str z :: ts)))) = .ok (.lst ((ps.zip ts).map prD)) := by
            have hr : rng2F (cons1 (cI 1) (cons1 (app (cons1 (rdS 4) nil1) lenD) nil1)) (dueE a b M S (.shr (.tup (.str z :: ps))) (.shr (.tup (.str z :: ts)))) = .ok (intsD 1 ps.length) := by
              have hfa : cons1 (cI 1) (cons1 (app (cons1 (rdS 4) nil1) lenD) nil1) (dueE a b M S (.shr (.tup (.str z :: ps))) (.shr (.tup (.str z :: ts)))) = .ok [.int 1, .int ((ps.length + 1 : Nat) : Int)] := cons_ok rfl (cons_ok (app_ok (cons_ok rfl rfl) rfl) rfl)
              rw [rng2_ok hfa (by omega)]
              rw [show (((ps.length + 1 : Nat) : Int) - 1).toNat = ps.length by omega]
            rw [comp_fn (cs := [.shr (.tup (.str z :: ps)), .shr (.tup (.str z :: ts))]) (kidsH ps ts) (fun d => ∃ k : Nat, d = .int ((k : Int) + 1) ∧ k < ps.length) rfl hr (fun d hd => by
              obtain ⟨k, rfl, k0, k1⟩ := mem_intsD hd
              have e : k = (((k - 1).toNat : Nat) : Int) + 1 := by omega
              exact ⟨(k - 1).toNat, by rw [← e], by omega⟩) (by rw [intsD_len]; exact small_of (by omega)) ?_, kids_map hlen]
            rintro d acc ⟨k, rfl, hk⟩
            have h1 : ps[k]? = some ps[k] := by simp [hk]
            have hk2 : k < ts.length := by omega
            have h2 : ts[k]? = some ts[k] := by simp [hk2]
            refine (tup_ok (cons_ok (two_ok rfl rfl (ixT h1)) (cons_ok (two_ok rfl rfl (ixT h2)) rfl)) (small_of (by simp))).trans ?_
            have e : ((k : Int) + 1 - 1).toNat = k := by omega
            simp only [kidsH, e, h1, h2, Option.getD_some]
          have hlz : S.length + (ps.zip ts).length ≤ 5000 := by
            have := len_cost S
            have := len_nums ps
            rw [List.length_zip]; omega
          have hgo : dueB (dueE a b M ((.tup (.str z :: ps), .tup (.str z :: ts)) :: S) u v) = .ok (.nx (dueE a b M ((ps.zip ts).reverse ++ S) (.shr (.tup (.str z :: ps))) (.shr (.tup (.str z :: ts))))) := by
            rw [hb, if_f tt]
            show (Res.ok (S.reverse.map prD) >>= fun ds => compO false 1 [4, 5] _ _ _ _ (dueE a b M S (.shr (.tup (.str z :: ps))) (.shr (.tup (.str z :: ts)))) >>= _) = _
            rw [hcomp]
            refine (must_pos (c := (S.reverse.map prD).length + ((ps.zip ts).map prD).length ≤ sizeLine) (by simp only [List.length_map, List.length_reverse]; exact small_of (by omega))).trans ?_
            have e : S.reverse.map prD ++ (ps.zip ts).map prD = ((ps.zip ts).reverse ++ S).reverse.map prD := by simp
            rw [e]; rfl
          rw [whileD_go ht hgo]
          have ih := due_loop a b n ((ps.zip ts).reverse ++ S) M (.shr (.tup (.str z :: ps))) (.shr (.tup (.str z :: ts))) (by omega) hS2 hM (by omega)
          have hm : (mpS ((ps.zip ts).reverse ++ S)).bind (addC M) = ((mps ps ts).bind fun a => addC M a.reverse).bind fun M1 => (mpS S).bind (addC M1) := by
            rw [mpS_app, mpS_zip ps ts hlen]
            cases mps ps ts with
            | none => rfl
            | some x =>
              simp only [Option.bind_some]
              cases hq : mpS S with
              | none =>
                show none = (addC M x.reverse).bind _
                cases addC M x.reverse <;> rfl
              | some y => exact addC_app x.reverse y M
          rw [hm] at ih
          exact ih
        · have hno : (if z = w then mps ps ts else none) = none := by
            by_cases e : z = w
            · rw [if_pos e]; exact mps_len ps ts fun e2 => hzw ⟨e, e2⟩
            · rw [if_neg e]
          rw [hno]
          refine stop (tt.trans ?_)
          congr 1
          by_cases e : z = w
          · have : ps.length ≠ ts.length := fun e2 => hzw ⟨e, e2⟩
            simp [e]; omega
          · simp [e]
theorem due2 {p t : D} (hp : tk ns p = true) (ht : tk ns t = true) (hh : hgt p ≤ 60) (hht : hgt t ≤ 60) (hn : num p ≤ 1000) : F__law_due [p, t] = .ok (fitO ((mp p t).bind fun a => addC [] a.reverse)) := by
  have hS : SOk ns [(p, t)] := fun q hq => by
    simp only [List.mem_cons, List.not_mem_nil, or_false] at hq
    subst hq
    exact ⟨hp, hh, ht, hht⟩
  have hc : cost [(p, t)] = num p := by simp [cost]
  have hl := due_loop (ns := ns) (.shr p) (.shr t) 4000 [(p, t)] [] .un .un (by omega) hS (fun _ h => by cases h) (by simp only [List.length_nil]; omega)
  have hm : (mpS [(p, t)]).bind (addC []) = (mp p t).bind fun a => addC [] a.reverse := by
    simp only [mpS]
    cases mp p t with
    | none => rfl
    | some a => simp
  rw [hm] at hl
  refine run_t ?_
  show g__law_due F__law_whole [.shr p, .shr t, .un, .un, .un, .un] = _
  unfold g__law_due
  rw [seq_nx (env' := [.shr p, .shr t, .own (.dic [] []), .un, .un, .un]) rfl]
  have s2 : setO 3 (lstF (cons1 (tupF (cons1 (rdS 0) (cons1 (rdS 1) nil1))) nil1)) [.shr p, .shr t, .own (.dic [] []), .un, .un, .un] = .ok (.nx (dueE (.shr p) (.shr t) [] [(p, t)] .un .un)) :=
    (setO_ok (lst_ok (cons_ok (tup_ok (cons_ok rfl (cons_ok rfl rfl)) (small_of (by simp))) rfl) (small_of (by simp)))).trans rfl
  rw [seq_nx s2]
  cases e : (mp p t).bind fun a => addC [] a.reverse with
  | none => rw [e] at hl; exact seq_rt hl
  | some M =>
    rw [e] at hl
    obtain ⟨u', v', h1⟩ := hl
    exact (seq_nx h1).trans rfl
end
end G

set_option Elab.async false
set_option linter.all false
set_option maxRecDepth 100000
set_option maxHeartbeats 4000000
namespace G
open PySem PySem.Spec L2 M
section
variable {ns : List Str}
def Cons (L : As) : Prop := ∀ q ∈ L, ∀ q' ∈ L, q.1 = q'.1 → q.2 = q'.2
def Tks (ns : List Str) (L : As) : Prop := ∀ q ∈ L, tk ns q.2 = true
theorem addC_spec : ∀ (ps M M' : As), Tks ns M → Tks ns ps → (M.map (·.1)).Nodup → addC M ps = some M' → (∀ q, q ∈ M' ↔ q ∈ M ∨ q ∈ ps) ∧ (M'.map (·.1)).Nodup
  | [], M, M', _, _, nd, h => by cases h; exact ⟨fun q => by simp, nd⟩
  | (i, d) :: r, M, M', tm, tp, nd, h => by
    simp only [addC] at h
    have tr : Tks ns r := fun q hq => tp q (by simp [hq])
    have hd : tk ns d = true := tp (i, d) (by simp)
    cases e : M.lookup i with
    | none =>
      rw [e] at h
      have tm2 : Tks ns (M ++ [(i, d)]) := fun q hq => by
        rcases List.mem_append.mp hq with z | z
        · exact tm q z
        · simp only [List.mem_cons, List.not_mem_nil, or_false] at z; rw [z]; exact hd
      have nd2 : ((M ++ [(i, d)]).map (·.1)).Nodup := by
        rw [List.map_append, List.nodup_append]
        refine ⟨nd, by simp, fun a ha b hb => ?_⟩
        simp only [List.map_cons, List.map_nil, List.mem_cons, List.not_mem_nil, or_false] at hb
        subst hb
        intro e2; subst e2
        exact lookup_none e ha
      obtain ⟨h1, h2⟩ := addC_spec r _ M' tm2 tr nd2 h
      refine ⟨fun q => (h1 q).trans ?_, h2⟩
      simp only [List.mem_append, List.mem_cons, List.not_mem_nil, or_false]
      exact or_assoc
    | some d0 =>
      rw [e] at h
      dsimp only at h
      split at h
      · rename_i hq
        have hm := lookup_mem e
        have hd0 : d0 = d := (eqD_eq (tm _ hm) hd).mp hq
        subst hd0
        obtain ⟨h1, h2⟩ := addC_spec r M M' tm tr nd h
        refine ⟨fun q => (h1 q).trans ?_, h2⟩
        simp only [List.mem_cons]
        constructor
        · rintro (z | z)
          · exact .inl z
          · exact .inr (.inr z)
        · rintro (z | z | z)
          · exact .inl z
          · rw [z]; exact .inl hm
          · exact .inr z
      · cases h
theorem addC_get : ∀ (ps M : As), Tks ns M → Tks ns ps → Cons (M ++ ps) → ∃ M', addC M ps = some M'
  | [], M, _, _, _ => ⟨M, rfl⟩
  | (i, d) :: r, M, tm, tp, hc => by
    have tr : Tks ns r := fun q hq => tp q (by simp [hq])
    have hd : tk ns d = true := tp (i, d) (by simp)
    simp only [addC]
    cases e : M.lookup i with
    | none =>
      dsimp only
      refine addC_get r _ (fun q hq => ?_) tr (by simpa using hc)
      rcases List.mem_append.mp hq with z | z
      · exact tm q z
      · simp only [List.mem_cons, List.not_mem_nil, or_false] at z; rw [z]; exact hd
    | some d0 =>
      dsimp only
      have hm := lookup_mem e
      have hd0 : d0 = d := hc (i, d0) (by simp [hm]) (i, d) (by simp) rfl
      subst hd0
      rw [if_pos (eqD_tk _ hd)]
      refine addC_get r M tm tr fun q hq q' hq' => hc q ?_ q' ?_
      · rcases List.mem_append.mp hq with z | z
        · simp [z]
        · simp [z]
      · rcases List.mem_append.mp hq' with z | z
        · simp [z]
        · simp [z]
theorem addC_cons {ps M : As} (tp : Tks ns ps) (h : addC [] ps = some M) : Cons ps := fun q hq q' hq' e => by
  obtain ⟨h1, h2⟩ := addC_spec ps [] M (fun _ h => by cases h) tp List.nodup_nil h
  have m1 := lookup_of h2 ((h1 q).mpr (.inr hq))
  have m2 := lookup_of h2 ((h1 q').mpr (.inr hq'))
  rw [e, m2] at m1
  exact (Option.some.inj m1).symm
theorem rev_tks {ps : As} (tp : Tks ns ps) : Tks ns ps.reverse := fun q hq => tp q (List.mem_reverse.mp hq)
theorem addC_rev {ps : As} (tp : Tks ns ps) : (addC [] ps = none ∧ addC [] ps.reverse = none) ∨ ∃ M1 M2, addC [] ps = some M1 ∧ addC [] ps.reverse = some M2 ∧ (M1.map (·.1)).Nodup ∧ (M2.map (·.1)).Nodup ∧ (∀ q, q ∈ M1 ↔ q ∈ M2) ∧ Tks ns M1 := by
  have nl : Tks ns ([] : As) := fun _ h => by cases h
  cases e1 : addC [] ps with
  | none =>
    left
    refine ⟨rfl, ?_⟩
    cases e2 : addC [] ps.reverse with
    | none => rfl
    | some M2 =>
      have hc := addC_cons (rev_tks tp) e2
      obtain ⟨M', h⟩ := addC_get ps [] nl tp fun q hq q' hq' => hc q (by simpa using hq) q' (by simpa using hq')
      rw [h] at e1; cases e1
  | some M1 =>
    right
    have hc := addC_cons tp e1
    obtain ⟨M2, h⟩ := addC_get ps.reverse [] nl (rev_tks tp) fun q hq q' hq' => hc q (by simpa using hq) q' (by simpa using hq')
    obtain ⟨a1, a2⟩ := addC_spec ps [] M1 nl tp List.nodup_nil e1
    obtain ⟨b1, b2⟩ := addC_spec ps.reverse [] M2 nl (rev_tks tp) List.nodup_nil h
    refine ⟨M1, M2, rfl, h, a2, b2, fun q => (a1 q).trans ?_, fun q hq => tp q (((a1 q).mp hq).resolve_left (by simp))⟩
    rw [b1]; simp
theorem zip_as (M : As) : (ky M).zip (vl M) = M.map fun q => ((Sum.inl q.1 : Key), q.2) := by
  induction M with
  | nil => rfl
  | cons q M ih =>
    have ih' : ((M.map (·.1)).map Sum.inl).zip (M.map (·.2)) = M.map fun q => ((Sum.inl q.1 : Key), q.2) := ih
    simp only [ky, vl, kys, List.map_cons, List.zip_cons_cons, ih']
theorem nodup_as {M : As} (h : (M.map (·.1)).Nodup) : M.Nodup := List.Pairwise.of_map _ (fun a b hab e => hab (by rw [e])) h
theorem bools_true (n : Nat) (ds : List D) (h : ds = List.replicate n (.bl true)) : allD [.lst ds] = .ok (.bl true) := by
  subst h
  have : ∀ n, bools (List.replicate n (D.bl true)) = some (List.replicate n true) := fun n => by
    induction n with
    | zero => rfl
    | succ n ih => rw [List.replicate_succ, List.replicate_succ]; simp [bools, ih]
  show (match bools (List.replicate n (D.bl true)) with | some bs => Res.ok (D.bl (bs.all id)) | none => .stuck) = _
  rw [this]
  simp
theorem right2 {p t : D} (hp : tk ns p = true) (ht : tk ns t = true) (hh : hgt p ≤ 60) (hht : hgt t ≤ 60) (hn : num p ≤ 1000) (hnt : num t ≤ 1000) : F__law_right [p, t] = .ok (.bl true) := by
  have h1 := due2 hp ht hh hht hn
  have h2 := fit2 hp ht hh hht hn hnt
  have hcase : ((mp p t).bind (fun a => addC [] a.reverse) = none ∧ (mp p t).bind (addC []) = none) ∨ ∃ M1 M2, (mp p t).bind (addC []) = some M1 ∧ (mp p t).bind (fun a => addC [] a.reverse) = some M2 ∧ (M1.map (·.1)).Nodup ∧ (M2.map (·.1)).Nodup ∧ (∀ q, q ∈ M1 ↔ q ∈ M2) ∧ Tks ns M1 ∧ ∀ q ∈ M1, hgt q.2 ≤ 60 := by
    cases e : mp p t with
    | none => exact .inl ⟨rfl, rfl⟩
    | some ps =>
      have hpt := mp_pt p t ps ht e
      have tp : Tks ns ps := fun q hq => (hpt q hq).1
      rcases addC_rev tp with ⟨a, b⟩ | ⟨M1, M2, a1, a2, a3, a4, a5, a6⟩
      · exact .inl ⟨b, a⟩
      · refine .inr ⟨M1, M2, a1, a2, a3, a4, a5, a6, fun q hq => ?_⟩
        rcases addC_mem ps [] M1 a1 q hq with z | z
        · cases z
        · have := (hpt q z).2.1; omega
  refine run_t ?_
  show g__law_right F__law_due F_fit F__law_whole [.shr p, .shr t, .un, .un] = _
  unfold g__law_right
  rcases hcase with ⟨c1, c2⟩ | ⟨M1, M2, c1, c2, n1, n2, hm, tk1, hg1⟩
  · rw [c1] at h1
    rw [c2] at h2
    have s1 : setOs 2 (callF 2 F__law_due (cons1 (rdS 0) (cons1 (rdS 1) nil1))) [.shr p, .shr t, .un, .un] = .ok (.nx [.shr p, .shr t, .shr .non, .un]) := (setOs_ok (call_ok (cons_ok rfl (cons_ok rfl rfl)) rfl h1)).trans rfl
    have s2 : setOs 3 (callF 2 F_fit (cons1 (rdS 0) (cons1 (rdS 1) nil1))) [.shr p, .shr t, .shr .non, .un] = .ok (.nx [.shr p, .shr t, .shr .non, .shr .non]) := (setOs_ok (call_ok (cons_ok rfl (cons_ok rfl rfl)) rfl h2)).trans rfl
    rw [seq_nx s1, seq_nx s2]
    have t3 : asB (two (rdS 2) cN M.isN) [.shr p, .shr t, .shr .non, .shr .non] = .ok true := asB_ok (two_ok rfl rfl rfl)
    exact seq_rt ((if_t t3).trans (retO_ok (two_ok rfl rfl rfl)))
  · rw [c1] at h2
    rw [c2] at h1
    have s1 : setOs 2 (callF 2 F__law_due (cons1 (rdS 0) (cons1 (rdS 1) nil1))) [.shr p, .shr t, .un, .un] = .ok (.nx [.shr p, .shr t, .shr (.dic (ky M2) (vl M2)), .un]) := (setOs_ok (call_ok (cons_ok rfl (cons_ok rfl rfl)) rfl h1)).trans rfl
    have s2 : setOs 3 (callF 2 F_fit (cons1 (rdS 0) (cons1 (rdS 1) nil1))) [.shr p, .shr t, .shr (.dic (ky M2) (vl M2)), .un] = .ok (.nx [.shr p, .shr t, .shr (.dic (ky M2) (vl M2)), .shr (.dic (ky M1) (vl M1))]) := (setOs_ok (call_ok (cons_ok rfl (cons_ok rfl rfl)) rfl h2)).trans rfl
    rw [seq_nx s1, seq_nx s2]
    have t3 : asB (two (rdS 2) cN M.isN) [.shr p, .shr t, .shr (.dic (ky M2) (vl M2)), .shr (.dic (ky M1) (vl M1))] = .ok false := asB_ok (two_ok rfl rfl rfl)
    rw [seq_nx ((if_f t3).trans rfl)]
    have hlen : M1.length = M2.length := ((List.perm_ext_iff_of_nodup (nodup_as n1) (nodup_as n2)).mpr hm).length_eq
    have tk2 : Tks ns M2 := fun q hq => tk1 q ((hm q).mpr hq)
    have heqb : ∀ M : As, Tks ns M → D.eqbs (vl M) = true := fun M hM => eqbs_of fun d hd => by
      obtain ⟨q, hq, rfl⟩ := List.mem_map.mp hd
      exact (eqb_tk _ (hM q hq)).1
    have hc : DicC (vl M1) (vl M2) := ⟨heqb M1 tk1, heqb M2 tk2, Nat.le_trans (deps_le (k := 60) fun d hd => by
      obtain ⟨q, hq, rfl⟩ := List.mem_map.mp hd
      have := (eqb_tk _ (tk1 q hq)).2
      have := hg1 q hq
      omega) (by decide)⟩
    have hde : dicEq (ky M1) (vl M1) (ky M2) (vl M2) = true := by
      refine dicEq_of _ _ (fun p hp => ?_) fun d hd => ?_
      · rw [zip_as] at hp
        obtain ⟨q, hq, rfl⟩ := List.mem_map.mp hp
        dsimp only
        rw [valD_as]
        exact lookup_of n2 ((hm q).mp hq)
      · obtain ⟨q, hq, rfl⟩ := List.mem_map.mp hd
        exact eqD_tk _ (tk1 q hq)
    have hne : neDic (.dic (ky M1) (vl M1)) (.dic (ky M2) (vl M2)) = .ok (.bl false) := by
      show must (DicC _ _) _ = _
      rw [must_pos hc, hde, ky_len, ky_len, hlen]
      simp
    have t4 : orB (notB (asB (isiF "dict" (rdS 3)))) (asB (two (rdS 3) (rdS 2) neDic)) [.shr p, .shr t, .shr (.dic (ky M2) (vl M2)), .shr (.dic (ky M1) (vl M1))] = .ok false :=
      or_ok (b := false) (b2 := false) (notB_ok (b := true) (asB_ok rfl)) (asB_ok (two_ok rfl rfl hne))
    rw [seq_nx ((if_f t4).trans rfl)]
    have himm : D.imms (vl M1) = true := imms_iff.mpr fun d hd => by
      obtain ⟨q, hq, rfl⟩ := List.mem_map.mp hd
      exact imm_tk _ (tk1 q hq)
    refine retO_ok ?_
    have hh1 : holdE 3 [.shr p, .shr t, .shr (.dic (ky M2) (vl M2)), .shr (.dic (ky M1) (vl M1))] = .ok ((lend [.shr p, .shr t, .shr (.dic (ky M2) (vl M2)), .shr (.dic (ky M1) (vl M1))]).set 3 (.shr (.hdc (ky M1) (vl M1)))) := must_pos himm
    have hh2 : (lend [.shr p, .shr t, .shr (.dic (ky M2) (vl M2)), .shr (.dic (ky M1) (vl M1))]).set 3 (.shr (.hdc (ky M1) (vl M1))) = [lendS (.shr p), lendS (.shr t), lendS (.shr (.dic (ky M2) (vl M2))), .shr (.hdc (ky M1) (vl M1))] := rfl
    have hkeys : keysH (rdS 3) [lendS (.shr p), lendS (.shr t), lendS (.shr (.dic (ky M2) (vl M2))), .shr (.hdc (ky M1) (vl M1))] = .ok ((ky M1).map kD) := must_pos (allI_kys _)
    have hml : M1.length ≤ 1000 := by
      cases e : mp p t with
      | none => rw [e] at c1; cases c1
      | some ps =>
        rw [e] at c1
        have h3 := addC_len ps [] M1 c1
        have h4 := mp_num p hp t ps e
        simp only [List.length_nil] at h3; omega
    have hcomp : compO false 1 [] (keysH (rdS 3)) (gN 0) trueB (callF 1 F__law_whole (cons1 (rdS 0) nil1)) [lendS (.shr p), lendS (.shr t), lendS (.shr (.dic (ky M2) (vl M2))), .shr (.hdc (ky M1) (vl M1))] = .ok (.lst (((ky M1).map kD).map fun _ => .bl true)) := by
      refine comp0 (fun _ => .bl true) (fun d => ∃ i : Int, d = .int i) hkeys (fun d hd => ?_) (by rw [List.length_map, ky_len]; exact small_of (by omega)) ?_
      · obtain ⟨k, hk, rfl⟩ := List.mem_map.mp hd
        obtain ⟨i, _, rfl⟩ := List.mem_map.mp hk
        exact ⟨i, rfl⟩
      · rintro d acc ⟨i, rfl⟩
        exact call_ok (cons_ok rfl rfl) rfl rfl
    have hall : app (cons1 (compO false 1 [] (keysH (rdS 3)) (gN 0) trueB (callF 1 F__law_whole (cons1 (rdS 0) nil1))) nil1) allD [lendS (.shr p), lendS (.shr t), lendS (.shr (.dic (ky M2) (vl M2))), .shr (.hdc (ky M1) (vl M1))] = .ok (.bl true) :=
      app_ok (cons_ok hcomp rfl) (bools_true M1.length _ (by simp only [ky, kys, List.map_map]; exact List.map_const'))
    show (holdE 3 _ >>= _) = _
    rw [hh1, ev_ok, hh2, hall]
    rfl
end
end G

set_option Elab.async false
set_option linter.all false
set_option maxRecDepth 100000
set_option maxHeartbeats 4000000
namespace G
open PySem PySem.Spec L2 M
section
variable {ns : List Str}
theorem cut_to (l : List D) (k : Nat) : cutD l none (some (k : Int)) = l.take k := by
  unfold cutD
  rw [HT.sIx_none, HT.sIx_nat, List.drop_zero, Nat.sub_zero]
  rcases Nat.le_total k l.length with h | h
  · rw [Nat.min_eq_left h]
  · rw [Nat.min_eq_right h, List.take_of_length_le (Nat.le_refl _), List.take_of_length_le h]
theorem cut_from (l : List D) (k : Nat) : cutD l (some (k : Int)) none = l.drop k := by
  unfold cutD
  rw [HT.sIx_none, HT.sIx_nat]
  rcases Nat.le_total k l.length with h | h
  · rw [Nat.min_eq_left h, List.take_of_length_le (by rw [List.length_drop]; omega)]
  · rw [Nat.min_eq_right h, Nat.sub_self, List.take_zero, List.drop_eq_nil_of_le h]
theorem cut_last (l : List D) (h : l ≠ []) : cutD l none (some (-1)) = l.dropLast := by
  have hl : 0 < l.length := List.length_pos_iff.mpr h
  unfold cutD
  rw [HT.sIx_none, List.drop_zero, Nat.sub_zero]
  have e : HT.sIx l.length l.length (some (-1)) = l.length - 1 := by
    show (if (-1 : Int) < 0 then ((-1 : Int) + (l.length : Int)).toNat else min (-1 : Int).toNat l.length) = _
    rw [if_pos (by omega)]; omega
  rw [e, List.dropLast_eq_take]
theorem addE_tup {a b : List D} (h : a.length + b.length ≤ sizeLine) : addE (.tup a) (.tup b) = .ok (.tup (a ++ b)) := by
  cases a with
  | nil => rfl
  | cons x r => exact add_tup rfl h
abbrev nI (k : Nat) : D := .int (k : Int)
def okP : D → List Nat → Prop
  | _, [] => True
  | t, k :: q => ∃ z ts u, t = .tup (.str z :: ts) ∧ ts[k]? = some u ∧ okP u q
def atP (base q : List Nat) : D := .tup ((base ++ q).map nI)
def pathB (n : Nat) : Sl → Res Out := extendO 2 (callF 2 (F__law_paths n) (cons1 (two (rdS 0) (two (cI 1) (rdS 3) addE) ixD) (cons1 (two (rdS 1) (tupF (cons1 (rdS 3) nil1)) addE) nil1)))
def PathsOk (n : Nat) (t : D) : Prop := ∀ base : List Nat, base.length + hgt t ≤ 100 → ∃ qs : List (List Nat), F__law_paths n [t, .tup (base.map nI)] = .ok (.lst (qs.map (atP base))) ∧ qs ≠ [] ∧ qs.length ≤ num t ∧ ∀ q ∈ qs, okP t q ∧ q.length < hgt t
theorem paths_loop {n : Nat} (z : Str) (ts : List D) (base : List Nat) (hb : base.length + hgts ts ≤ 99) : ∀ (rest : List D) (j : Nat) (qs : List (List Nat)) (u : Slot), ts.drop j = rest → (∀ c ∈ rest, PathsOk n c) → qs.length + nums rest ≤ 1000 → (∀ q ∈ qs, okP (.tup (.str z :: ts)) q ∧ q.length < hgt (.tup (.str z :: ts))) → qs ≠ [] →
    ∃ (qs' : List (List Nat)) (u' : Slot), forD (turnD (gN 3) (pathB n)) (intsD (j : Int) rest.length) [.shr (.tup (.str z :: ts)), .shr (.tup (base.map nI)), .own (.lst (qs.map (atP base))), u] = .ok (.nx [.shr (.tup (.str z :: ts)), .shr (.tup (base.map nI)), .own (.lst (qs'.map (atP base))), u']) ∧ qs'.length ≤ qs.length + nums rest ∧ (∀ q ∈ qs', okP (.tup (.str z :: ts)) q ∧ q.length < hgt (.tup (.str z :: ts))) ∧ qs' ≠ []
  | [], j, qs, u, _, _, _, hq, hne => ⟨qs, u, by simp [intsD, forD], by simp [nums], hq, hne⟩
  | c :: rest, j, qs, u, hd, hc, hl, hq, hne => by
    simp only [nums] at hl ⊢
    have hj : ts[j]? = some c := by
      have : (ts.drop j)[0]? = some c := by rw [hd]; rfl
      rw [List.getElem?_drop] at this
      simpa using this
    have hcm : c ∈ ts := List.mem_of_getElem? hj
    have hch := hgts_mem hcm
    obtain ⟨qc, h1, h2, h3, h4⟩ := hc c (by simp) (base ++ [j]) (by simp only [List.length_append, List.length_cons, List.length_nil]; omega)
    have hd' : ts.drop (j + 1) = rest := by
      rw [← List.drop_drop, hd]; rfl
    obtain ⟨qs', u', ih1, ih2, ih3, ih4⟩ := paths_loop z ts base hb rest (j + 1) (qs ++ qc.map (j :: ·)) (nI j |> .shr) hd' (fun x hx => hc x (by simp [hx])) (by simp only [List.length_append, List.length_map]; omega) (fun q hq' => by
      rcases List.mem_append.mp hq' with y | y
      · exact hq q y
      · obtain ⟨r, hr, rfl⟩ := List.mem_map.mp y
        refine ⟨⟨z, ts, c, rfl, hj, (h4 r hr).1⟩, ?_⟩
        have := (h4 r hr).2
        rw [hgt_tup, List.length_cons]; omega) (by simp [hne])
    refine ⟨qs', u', ?_, by simp only [List.length_append, List.length_map] at ih2; omega, ih3, ih4⟩
    have hcall : callF 2 (F__law_paths n) (cons1 (two (rdS 0) (two (cI 1) (rdS 3) addE) ixD) (cons1 (two (rdS 1) (tupF (cons1 (rdS 3) nil1)) addE) nil1)) [.shr (.tup (.str z :: ts)), .shr (.tup (base.map nI)), .own (.lst (qs.map (atP base))), .shr (nI j)] = .ok (.lst (qc.map (atP (base ++ [j])))) := by
      refine call_ok (ds := [c, .tup ((base ++ [j]).map nI)]) (cons_ok (two_ok rfl (two_ok (z := .int ((j : Int) + 1)) rfl rfl ?_) (ixT hj)) (cons_ok (two_ok rfl (tup_ok (cons_ok rfl rfl) (small_of (by simp))) ?_) rfl)) rfl h1
      · show Res.ok (D.int (1 + (j : Int))) = _
        rw [Int.add_comm]
      · rw [addE_tup (by simp only [List.length_map, List.length_cons, List.length_nil]; exact small_of (by omega)), List.map_append]; rfl
    have hs : turnD (gN 3) (pathB n) (.int (j : Int)) [.shr (.tup (.str z :: ts)), .shr (.tup (base.map nI)), .own (.lst (qs.map (atP base))), u] = .ok (.nx [.shr (.tup (.str z :: ts)), .shr (.tup (base.map nI)), .own (.lst ((qs ++ qc.map (j :: ·)).map (atP base))), .shr (nI j)]) := by
      rw [turn_ok (env' := [.shr (.tup (.str z :: ts)), .shr (.tup (base.map nI)), .own (.lst (qs.map (atP base))), .shr (nI j)]) rfl]
      show (Res.ok (qs.map (atP base)) >>= fun ds => callF 2 (F__law_paths n) _ [.shr (.tup (.str z :: ts)), .shr (.tup (base.map nI)), .own (.lst (qs.map (atP base))), .shr (nI j)] >>= _) = _
      rw [hcall]
      refine (must_pos (c := (qs.map (atP base)).length + (qc.map (atP (base ++ [j]))).length ≤ sizeLine) (by simp only [List.length_map]; exact small_of (by omega))).trans ?_
      have e : qs.map (atP base) ++ qc.map (atP (base ++ [j])) = (qs ++ qc.map (j :: ·)).map (atP base) := by
        rw [List.map_append, List.map_map]
        congr 1
        refine List.map_congr_left fun q _ => ?_
        simp [atP]
      rw [e]; rfl
    rw [List.length_cons, intsD_succ, forD_go hs]
    have e : ((j : Int) + 1) = ((j + 1 : Nat) : Int) := by omega
    rw [e]
    exact ih1
theorem paths_makes : ∀ (n : Nat) (t : D), tk ns t = true → hgt t ≤ n → num t ≤ 1000 → PathsOk n t
  | 0, t, _, h, _ => by have := hgt_pos t; omega
  | n + 1, t, ht, hh, hn => by
    intro base hb
    have hw : notB (asB (callF 1 F__law_whole (cons1 (rdS 0) nil1))) [.shr t, .shr (.tup (base.map nI)), .own (.lst [.tup (base.map nI)]), .un] = .ok (!isN t) := notB_ok (asB_ok (call_ok (cons_ok rfl rfl) rfl (whole1 ht)))
    have e0 : atP base [] = .tup (base.map nI) := by simp [atP]
    have s1 : setO 2 (lstF (cons1 (rdS 1) nil1)) [.shr t, .shr (.tup (base.map nI)), .un, .un] = .ok (.nx [.shr t, .shr (.tup (base.map nI)), .own (.lst [.tup (base.map nI)]), .un]) := (setO_ok (lst_ok (cons_ok rfl rfl) (small_of (by simp)))).trans rfl
    rcases tk_cases ht with ⟨i, rfl⟩ | ⟨z, ts, rfl, hz, hl, hts⟩
    · refine ⟨[[]], run_t ?_, by simp, by simp [num], fun q hq => ?_⟩
      · show g__law_paths F__law_whole (F__law_paths n) [.shr (.int i), .shr (.tup (base.map nI)), .un, .un] = _
        unfold g__law_paths
        rw [seq_nx s1, seq_nx ((if_f hw).trans rfl)]
        simp only [List.map_cons, List.map_nil, e0]; rfl
      · simp only [List.mem_cons, List.not_mem_nil, or_false] at hq
        subst hq
        exact ⟨trivial, by simp [hgt]⟩
    · have hh' := hh
      rw [hgt_tup] at hh' hb
      have hn' := hn
      rw [num_tup] at hn'
      have hnum : ∀ d ∈ ts, num d ≤ nums ts := fun d hd => by
        obtain ⟨a, b, rfl⟩ := List.append_of_mem hd
        rw [nums_app]; simp only [nums]; omega
      obtain ⟨qs', u', h1, h2, h3, h4⟩ := paths_loop (n := n) z ts base (by omega) ts 0 [[]] .un (by simp) (fun c hc => paths_makes n c (hts c hc) (by have := hgts_mem hc; omega) (by have := hnum c hc; omega)) (by simp only [List.length_cons, List.length_nil]; omega) (fun q hq => by
        simp only [List.mem_cons, List.not_mem_nil, or_false] at hq
        subst hq
        exact ⟨trivial, by rw [hgt_tup, List.length_nil]; omega⟩) (by simp)
      refine ⟨qs', run_t ?_, h4, by rw [num_tup]; simp only [List.length_cons, List.length_nil] at h2; omega, h3⟩
      show g__law_paths F__law_whole (F__law_paths n) [.shr (.tup (.str z :: ts)), .shr (.tup (base.map nI)), .un, .un] = _
      unfold g__law_paths
      rw [seq_nx s1]
      have hr : rngF (cons1 (two (app (cons1 (rdS 0) nil1) lenD) (cI 1) subI) nil1) [.shr (.tup (.str z :: ts)), .shr (.tup (base.map nI)), .own (.lst [.tup (base.map nI)]), .un] = .ok (intsD 0 ts.length) := by
        have hfa : cons1 (two (app (cons1 (rdS 0) nil1) lenD) (cI 1) subI) nil1 [.shr (.tup (.str z :: ts)), .shr (.tup (base.map nI)), .own (.lst [.tup (base.map nI)]), .un] = .ok [.int (((ts.length + 1 : Nat) : Int) - 1)] := cons_ok (two_ok (app_ok (cons_ok rfl rfl) rfl) rfl rfl) rfl
        rw [rng1_ok hfa (by omega)]
        rw [show (((ts.length + 1 : Nat) : Int) - 1).toNat = ts.length by omega]
      simp only [List.map_cons, List.map_nil, e0] at h1
      have h1' : forO (rngF (cons1 (two (app (cons1 (rdS 0) nil1) lenD) (cI 1) subI) nil1)) (gN 3) (pathB n) [.shr (.tup (.str z :: ts)), .shr (.tup (base.map nI)), .own (.lst [.tup (base.map nI)]), .un] = _ := (for_ok hr).trans h1
      exact (seq_nx ((if_t hw).trans h1')).trans rfl
theorem part_loop (P : Slot) : ∀ (q : List Nat) (t : D) (u : Slot), tk ns t = true → okP t q → ∃ d u', forD (turnD (gN 2) (setOs 0 (two (rdS 0) (two (cI 1) (rdS 2) addD) ixD))) (q.map nI) [.shr t, P, u] = .ok (.nx [.shr d, P, u']) ∧ tk ns d = true ∧ hgt d ≤ hgt t
  | [], t, u, ht, _ => ⟨t, u, rfl, ht, Nat.le_refl _⟩
  | k :: q, t, u, ht, ho => by
    obtain ⟨z, ts, c, rfl, hk, ho2⟩ := ho
    rcases tk_cases ht with ⟨i, e⟩ | ⟨z', ts', e, _, _, hts⟩
    · cases e
    · cases e
      have hcm : c ∈ ts := List.mem_of_getElem? hk
      obtain ⟨d, u', h1, h2, h3⟩ := part_loop P q c (.shr (nI k)) (hts c hcm) ho2
      refine ⟨d, u', ?_, h2, by rw [hgt_tup]; have := hgts_mem hcm; omega⟩
      have hs : turnD (gN 2) (setOs 0 (two (rdS 0) (two (cI 1) (rdS 2) addD) ixD)) (nI k) [.shr (.tup (.str z :: ts)), P, u] = .ok (.nx [.shr c, P, .shr (nI k)]) := by
        rw [turn_ok (env' := [.shr (.tup (.str z :: ts)), P, .shr (nI k)]) rfl]
        refine (setOs_ok (two_ok rfl (two_ok (z := .int ((k : Int) + 1)) rfl rfl ?_) (ixT hk))).trans rfl
        show Res.ok (D.int (1 + (k : Int))) = _
        rw [Int.add_comm]
      rw [List.map_cons, forD_go hs, h1]
theorem part_makes {t : D} {q : List Nat} (ht : tk ns t = true) (ho : okP t q) : ∃ d, F__law_part [t, .tup (q.map nI)] = .ok d ∧ tk ns d = true ∧ hgt d ≤ hgt t := by
  obtain ⟨d, u', h1, h2, h3⟩ := part_loop (.shr (.tup (q.map nI))) q t .un ht ho
  refine ⟨d, run_f ?_, h2, h3⟩
  show g__law_part [.shr t, .shr (.tup (q.map nI)), .un] = _
  unfold g__law_part
  rw [seq_nx ((for_ok (ds := q.map nI) (itF_ok rfl rfl)).trans h1)]
  exact retS_ok rfl
theorem put_makes {e : D} (he : tk ns e = true) : ∀ (n : Nat) (q : List Nat) (t : D), q.length < n → q.length ≤ 100 → tk ns t = true → okP t q → ∃ t', F__law_put n [t, .tup (q.map nI), e] = .ok t' ∧ tk ns t' = true ∧ hgt t' ≤ hgt t + hgt e
  | 0, q, t, h, _, _, _ => by omega
  | n + 1, [], t, h, _, ht, _ => by
    refine ⟨e, run_f ?_, he, by omega⟩
    show g__law_put (F__law_put n) [.shr t, .shr (.tup []), .shr e, .un] = _
    unfold g__law_put
    have ht : asB (two (rdS 1) (tupF nil1) eqR) [.shr t, .shr (.tup []), .shr e, .un] = .ok true := asB_ok (two_ok rfl (tup_ok rfl (small_of (by simp))) (by
      unfold eqR
      rw [must_pos (by left; simp [D.eqb, D.eqbs, D.dep, D.deps])]; simp [eqD, eqDs]))
    exact seq_rt ((if_t ht).trans (retS_ok rfl))
  | n + 1, k :: q, t, h, hq, ht, ho => by
    obtain ⟨z, ts, c, rfl, hk, ho2⟩ := ho
    rcases tk_cases ht with ⟨i, e⟩ | ⟨z', ts', e, hz, hl, hts⟩
    · cases e
    · cases e
      have hcm : c ∈ ts := List.mem_of_getElem? hk
      have hkl : k < ts.length := (List.getElem?_eq_some_iff.mp hk).1
      simp only [List.length_cons] at h hq
      obtain ⟨c', h1, h2, h3⟩ := put_makes he n q c (by omega) (by omega) (hts c hcm) ho2
      refine ⟨.tup (.str z :: (ts.take k ++ c' :: ts.drop (k + 1))), run_t ?_, ?_, ?_⟩
      · show g__law_put (F__law_put n) [.shr (.tup (.str z :: ts)), .shr (.tup ((k :: q).map nI)), .shr e, .un] = _
        unfold g__law_put
        have hne : eqR (.tup ((k :: q).map nI)) (.tup []) = .ok (.bl false) := by
          have hb : D.eqbs ((k :: q).map nI) = true := eqbs_of fun d hd => by
            obtain ⟨x, _, rfl⟩ := List.mem_map.mp hd; rfl
          have hdp : D.deps ((k :: q).map nI) ≤ 0 := deps_le fun d hd => by
            obtain ⟨x, _, rfl⟩ := List.mem_map.mp hd; simp [D.dep]
          unfold eqR
          rw [must_pos (.inl ⟨by simp only [D.eqb]; exact hb, rfl, by simp only [D.dep]; omega⟩)]
          simp [eqD, eqDs]
        have t1 : asB (two (rdS 1) (tupF nil1) eqR) [.shr (.tup (.str z :: ts)), .shr (.tup ((k :: q).map nI)), .shr e, .un] = .ok false := asB_ok (two_ok rfl (tup_ok rfl (small_of (by simp))) hne)
        rw [seq_nx ((if_f t1).trans rfl)]
        have s3 : setOs 3 (two (cI 1) (two (rdS 1) (cI 0) ixD) addD) [.shr (.tup (.str z :: ts)), .shr (.tup ((k :: q).map nI)), .shr e, .un] = .ok (.nx [.shr (.tup (.str z :: ts)), .shr (.tup ((k :: q).map nI)), .shr e, .shr (.int ((k : Int) + 1))]) :=
          (setOs_ok (two_ok (z := .int ((k : Int) + 1)) rfl (two_ok rfl rfl ix0) (by show Res.ok (D.int (1 + (k : Int))) = _; rw [Int.add_comm]))).trans rfl
        rw [seq_nx s3]
        have c1 : slD (.tup (.str z :: ts)) none (some ((k : Int) + 1)) = .ok (.tup (.str z :: ts.take k)) := by
          show Res.ok (D.tup (cutD (.str z :: ts) none (some ((k : Int) + 1)))) = _
          rw [show (k : Int) + 1 = ((k + 1 : Nat) : Int) by omega, cut_to]; rfl
        have c2 : slD (.tup (.str z :: ts)) (some ((k : Int) + 1 + 1)) none = .ok (.tup (ts.drop (k + 1))) := by
          show Res.ok (D.tup (cutD (.str z :: ts) (some ((k : Int) + 1 + 1)) none)) = _
          rw [show (k : Int) + 1 + 1 = ((k + 1 + 1 : Nat) : Int) by omega, cut_from]; rfl
        have c3 : slD (.tup ((k :: q).map nI)) (some 1) none = .ok (.tup (q.map nI)) := by
          show Res.ok (D.tup (cutD (nI k :: q.map nI) (some 1) none)) = _
          rw [cut1]
        have hcall : callF 3 (F__law_put n) (cons1 (two (rdS 0) (rdS 3) ixD) (cons1 (slice3 (rdS 1) (someI (cI 1)) noneI slD) (cons1 (rdS 2) nil1))) [.shr (.tup (.str z :: ts)), .shr (.tup ((k :: q).map nI)), .shr e, .shr (.int ((k : Int) + 1))] = .ok c' :=
          call_ok (ds := [c, .tup (q.map nI), e]) (cons_ok (two_ok rfl rfl (ixT hk)) (cons_ok (slice_ok rfl (someI_ok rfl) rfl c3) (cons_ok rfl rfl))) rfl h1
        refine (retO_ok (two_ok (two_ok (slice_ok rfl rfl (someI_ok rfl) c1) (tup_ok (cons_ok hcall rfl) (small_of (by simp))) (add_tup (a := .str z :: ts.take k) (b := [c']) rfl ?_)) (slice_ok rfl (someI_ok (two_ok rfl rfl rfl)) rfl c2) (add_tup (a := .str z :: ts.take k ++ [c']) (b := ts.drop (k + 1)) rfl ?_))).trans ?_
        · simp only [List.length_cons, List.length_take, List.length_nil]; exact small_of (by omega)
        · simp only [List.length_cons, List.length_append, List.length_take, List.length_drop, List.length_nil]; exact small_of (by omega)
        · simp
      · refine tk_nd hz ?_ fun x hx => ?_
        · simp only [List.length_append, List.length_take, List.length_cons, List.length_drop]; omega
        · rcases List.mem_append.mp hx with y | y
          · exact hts x (List.mem_of_mem_take y)
          · rcases List.mem_cons.mp y with y | y
            · rw [y]; exact h2
            · exact hts x (List.mem_of_mem_drop y)
      · rw [hgt_tup, hgt_tup]
        have : hgts (ts.take k ++ c' :: ts.drop (k + 1)) ≤ hgts ts + hgt e := M.hgts_le fun x hx => by
          rcases List.mem_append.mp hx with y | y
          · have := hgts_mem (List.mem_of_mem_take y); omega
          · rcases List.mem_cons.mp y with y | y
            · rw [y]; have := hgts_mem hcm; omega
            · have := hgts_mem (List.mem_of_mem_drop y); omega
        omega
theorem ok_sub {φ : Int → D} : ∀ (q : List Nat) (t : D), okP t q → okP (sub φ t) q
  | [], t, _ => trivial
  | k :: q, t, h => by
    obtain ⟨z, ts, u, rfl, h1, h2⟩ := h
    refine ⟨z, ts.map (sub φ), sub φ u, sub_tup φ z ts, ?_, ok_sub q u h2⟩
    rw [List.getElem?_map, h1]; rfl
end
end G

set_option Elab.async false
set_option linter.all false
set_option maxRecDepth 100000
set_option maxHeartbeats 4000000
namespace G
open PySem PySem.Spec L2 M
section
variable {ns : List Str}
theorem ixL0 (x : D) (r : List D) : ixD (.lst (x :: r)) (.int 0) = .ok x := by
  simp only [ixD]
  rw [show ((0 : Int)) = ((0 : Nat) : Int) from rfl, M.atI_nat]; rfl
theorem ixL1 (x y : D) (r : List D) : ixD (.lst (x :: y :: r)) (.int 1) = .ok y := by
  simp only [ixD]
  rw [show ((1 : Int)) = ((1 : Nat) : Int) from rfl, M.atI_nat]; rfl
theorem forD_inv2 {body : D → Sl → Res Out} (I : List D → Sl → Prop)
    (hb : ∀ d ds env, I (d :: ds) env → ∃ env', (body d env = .ok (.nx env') ∨ body d env = .ok (.ct env')) ∧ I ds env') : ∀ (ds : List D) (env : Sl), I ds env → ∃ env', forD body ds env = .ok (.nx env') ∧ I [] env'
  | [], env, h => ⟨env, rfl, h⟩
  | d :: ds, env, h => by
    obtain ⟨env1, h1, h2⟩ := hb d ds env h
    obtain ⟨env2, h3, h4⟩ := forD_inv2 I hb ds env1 h2
    refine ⟨env2, ?_, h4⟩
    show (body d env >>= _) = _
    rcases h1 with h1 | h1 <;> (rw [h1]; exact h3)
theorem seq_ct {g1 g2 : Sl → Res Out} {env env' : Sl} (h : g1 env = .ok (.ct env')) : seqO g1 g2 env = .ok (.ct env') := by rw [ev_seq, h]; rfl
theorem pairs_mem : ∀ (ds : List D) (k : Nat) (d : D), d ∈ pairsFrom k ds → ∃ (j : Nat) (x : D), d = .tup [.int (j : Int), x] ∧ j < k + ds.length ∧ x ∈ ds
  | [], k, d, h => by cases h
  | y :: r, k, d, h => by
    rcases List.mem_cons.mp h with e | h
    · exact ⟨k, y, e, by simp only [List.length_cons]; omega, by simp⟩
    · obtain ⟨j, x, e, h1, h2⟩ := pairs_mem r (k + 1) d h
      exact ⟨j, x, e, by simp only [List.length_cons]; omega, by simp [h2]⟩
theorem put_len (ks : List Key) (ds : List D) (k : Key) (d : D) (h : ks.length = ds.length) : (putDs ks ds k d).length = (putKs ks k).length := by
  unfold putDs putKs
  by_cases e : hasK ks k = true
  · rw [if_pos e, if_pos e]; simp [h]
  · rw [if_neg e, if_neg e]; simp [h]
theorem put_mem {ks : List Key} {ds : List D} {k : Key} {d e : D} (h : e ∈ putDs ks ds k d) : e ∈ ds ∨ e = d := by
  unfold putDs at h
  split at h
  · obtain ⟨p, hp, rfl⟩ := List.mem_map.mp h
    split
    · exact .inr rfl
    · exact .inl (List.of_mem_zip hp).2
  · rcases List.mem_append.mp h with z | z
    · exact .inl z
    · simp only [List.mem_cons, List.not_mem_nil, or_false] at z
      exact .inr z
theorem put_kys (l : List Int) (x : Int) : putKs (kys l) (.inl x) = kys (ins l x) := by
  unfold putKs ins
  rw [hasK_kys]
  by_cases h : x ∈ l
  · simp [h]
  · simp [h, kys]
theorem ins_len (l : List Int) (x : Int) : (ins l x).length ≤ l.length + 1 := by
  unfold ins; split <;> simp
theorem divW_ok {i j : Int} (h : 0 < j ∧ j < 2 ^ 200) : divW (.int i) (.int j) = .ok (.int (i / j)) := iOp_ok (C := DivW) h

theorem other_makes {nm : D} (hn : Fiv ns nm) (a b c m : Int) (hm : 0 ≤ m ∧ m < 2 ^ 140) {d : D} (hd : tk ns d = true) (hg : hgt d ≤ 40) : ∃ e, F__law_other [.int m, d, nm, .lst [.int a, .int b, .int c]] = .ok e ∧ tk ns e = true ∧ hgt e ≤ hgt d + 4 := by
  have hbig : 20 ≤ sizeLine := by decide
  have hgp := hgt_pos d
  generalize hw : m % 7 = way
  generalize hm1 : m / 7 = m1
  have hm1b : 0 ≤ m1 ∧ m1 < 2 ^ 140 := by omega
  obtain ⟨z', hz', hzn'⟩ := fiv_ix hn (m1 % 5) (by omega) (by omega)
  obtain ⟨fx, hfx, hmem⟩ := ixL (ds := [.int a, .int b, .int c]) (i := m1 % 3) (by omega) (by simp only [List.length_cons, List.length_nil]; omega)
  have hint : ∃ x : Int, fx = .int x := by
    simp only [List.mem_cons, List.not_mem_nil, or_false] at hmem
    rcases hmem with rfl | rfl | rfl <;> exact ⟨_, rfl⟩
  obtain ⟨x, rfl⟩ := hint
  obtain ⟨tt, htt, gt⟩ := term_makes (fs := [a, b, c]) hn rfl 6 2 m1 (by omega) hm1b
  have gtg := gt.hg
  have htt' : F__law_term 6 [.int m1, nm, .int 2, .lst [.int a, .int b, .int c]] = .ok tt := htt
  generalize D.lst [.int a, .int b, .int c] = fr at hfx htt' ⊢
  have start : ∀ g : Sl → Res Out, seqO (asgO (app (cons1 (rdS 0) (cons1 (cI 7) nil1)) divmodD) (g2 (gN 0) (gN 4))) g [.shr (.int m), .shr d, .shr nm, .shr fr, .un] = g [.shr (.int m1), .shr d, .shr nm, .shr fr, .shr (.int way)] := by
    intro g
    rw [seq_nx (env' := [.shr (.int m1), .shr d, .shr nm, .shr fr, .shr (.int way)]) ((asg2_ok (dm_ok rfl rfl (by omega))).trans (by rw [hm1, hw]; rfl))]
  have tw : ∀ k : Int, asB (two (rdS 4) (cI k) eqR) [.shr (.int m1), .shr d, .shr nm, .shr fr, .shr (.int way)] = .ok (way == k) := fun k => asB_ok (two_ok rfl rfl eqR_int)
  have w1 : orB (asB (two (rdS 4) (cI 0) eqR)) (asB (callF 1 F__law_whole (cons1 (rdS 1) nil1))) [.shr (.int m1), .shr d, .shr nm, .shr fr, .shr (.int way)] = .ok ((way == 0) || isN d) := or_ok (tw 0) (asB_ok (call_ok (cons_ok rfl rfl) rfl (whole1 hd)))
  have pre : ∀ o : Out, ∀ e : D, g__law_other F__law_whole (F__law_term 6) [.shr (.int m), .shr d, .shr nm, .shr fr, .un] = .ok (.rt true e) ∨ g__law_other F__law_whole (F__law_term 6) [.shr (.int m), .shr d, .shr nm, .shr fr, .un] = .ok (.rt false e) → F__law_other [.int m, d, nm, fr] = .ok e := fun _ e h => by
    rcases h with h | h
    · exact run_t h
    · exact run_f h
  have fin : ∀ e : D, g__law_other F__law_whole (F__law_term 6) [.shr (.int m), .shr d, .shr nm, .shr fr, .un] = .ok (.rt true e) ∨ g__law_other F__law_whole (F__law_term 6) [.shr (.int m), .shr d, .shr nm, .shr fr, .un] = .ok (.rt false e) → tk ns e = true → hgt e ≤ hgt d + 4 → ∃ e, F__law_other [.int m, d, nm, fr] = .ok e ∧ tk ns e = true ∧ hgt e ≤ hgt d + 4 := fun e h h1 h2 => ⟨e, pre (.rt true .non) e h, h1, h2⟩
  by_cases hb1 : ((way == 0) || isN d) = true
  · refine fin tt (.inr ?_) gt.tk (by omega)
    unfold g__law_other
    rw [start]
    exact seq_rt ((if_t (by rw [w1, hb1])).trans (retS_ok (call_ok (ds := [.int m1, nm, .int 2, fr]) (cons_ok rfl (cons_ok rfl (cons_ok rfl (cons_ok rfl rfl)))) rfl htt')))
  have hb1 : ((way == 0) || isN d) = false := by simpa using hb1
  rcases tk_cases hd with ⟨i, rfl⟩ | ⟨z, ts, rfl, hzn, hl, hts⟩
  · simp [isN] at hb1
  rw [hgt_tup] at hg
  have hlen : lenD [.tup (.str z :: ts)] = .ok (.int ((ts.length + 1 : Nat) : Int)) := rfl
  have c1 : slD (.tup (.str z :: ts)) (some 1) none = .ok (.tup ts) := by
    show Res.ok (D.tup (cutD (.str z :: ts) (some 1) none)) = _
    rw [cut1]
  by_cases b1 : (way == 1) = true
  · refine fin (.tup (.str z' :: ts)) (.inl ?_) (tk_nd hzn' hl hts) (by rw [hgt_tup, hgt_tup]; omega)
    unfold g__law_other
    rw [start, seq_nx ((if_f (by rw [w1, hb1])).trans rfl)]
    exact seq_rt ((if_t (by rw [tw, b1])).trans (retO_ok (two_ok (tup_ok (cons_ok (two_ok rfl (mod2_ok rfl rfl (by omega)) hz') rfl) (small_of (by simp))) (slice_ok rfl (someI_ok rfl) rfl c1) (add_tup (a := [.str z']) (b := ts) rfl (by simp only [List.length_cons, List.length_nil]; exact small_of (by omega))))))
  have b1 : (way == 1) = false := by simpa using b1
  have w2 : andB (asB (two (rdS 4) (cI 2) eqR)) (asB (two (app (cons1 (rdS 1) nil1) lenD) (cI 10) ltI)) [.shr (.int m1), .shr (.tup (.str z :: ts)), .shr nm, .shr fr, .shr (.int way)] = .ok ((way == 2) && decide (((ts.length + 1 : Nat) : Int) < 10)) := and_ok (tw 2) (asB_ok (two_ok (app_ok (cons_ok rfl rfl) hlen) rfl rfl))
  have w3 : andB (asB (two (rdS 4) (cI 3) eqR)) (asB (two (app (cons1 (rdS 1) nil1) lenD) (cI 1) gtI)) [.shr (.int m1), .shr (.tup (.str z :: ts)), .shr nm, .shr fr, .shr (.int way)] = .ok ((way == 3) && decide ((1 : Int) < ((ts.length + 1 : Nat) : Int))) := and_ok (tw 3) (asB_ok (two_ok (app_ok (cons_ok rfl rfl) hlen) rfl rfl))
  have w4 : andB (asB (two (rdS 4) (cI 4) eqR)) (asB (two (app (cons1 (rdS 1) nil1) lenD) (cI 2) gtI)) [.shr (.int m1), .shr (.tup (.str z :: ts)), .shr nm, .shr fr, .shr (.int way)] = .ok ((way == 4) && decide ((2 : Int) < ((ts.length + 1 : Nat) : Int))) := and_ok (tw 4) (asB_ok (two_ok (app_ok (cons_ok rfl rfl) hlen) rfl rfl))
  by_cases b2 : ((way == 2) && decide (((ts.length + 1 : Nat) : Int) < 10)) = true
  · have hl9 : ts.length + 1 ≤ 9 := by
      simp only [Bool.and_eq_true, decide_eq_true_eq] at b2; omega
    refine fin (.tup (.str z :: (ts ++ [.int x]))) (.inl ?_) (tk_nd hzn (by simpa using hl9) fun u hu => ?_) ?_
    · unfold g__law_other
      rw [start, seq_nx ((if_f (by rw [w1, hb1])).trans rfl), seq_nx ((if_f (by rw [tw, b1])).trans rfl)]
      exact seq_rt ((if_t (by rw [w2, b2])).trans (retO_ok (two_ok rfl (tup_ok (cons_ok (two_ok rfl (mod2_ok rfl rfl (by omega)) hfx) rfl) (small_of (by simp))) (add_tup (a := .str z :: ts) (b := [.int x]) rfl (by simp only [List.length_cons, List.length_nil]; exact small_of (by omega))))))
    · rcases List.mem_append.mp hu with h | h
      · exact hts u h
      · simp only [List.mem_cons, List.not_mem_nil, or_false] at h; rw [h]; rfl
    · rw [hgt_tup, hgt_tup, hgts_app]; simp only [hgts, hgt]; omega
  have b2 : ((way == 2) && decide (((ts.length + 1 : Nat) : Int) < 10)) = false := by simpa using b2
  by_cases b3 : ((way == 3) && decide ((1 : Int) < ((ts.length + 1 : Nat) : Int))) = true
  · have hne : ts ≠ [] := fun e => by
      subst e; simp at b3
    have c3 : slD (.tup (.str z :: ts)) none (some (-1)) = .ok (.tup (.str z :: ts.dropLast)) := by
      show Res.ok (D.tup (cutD (.str z :: ts) none (some (-1)))) = _
      rw [cut_last _ (by simp), List.dropLast_cons_of_ne_nil hne]
    refine fin (.tup (.str z :: ts.dropLast)) (.inl ?_) (tk_nd hzn (by rw [List.length_dropLast]; omega) fun u hu => hts u ((List.dropLast_sublist ts).subset hu)) ?_
    · unfold g__law_other
      rw [start, seq_nx ((if_f (by rw [w1, hb1])).trans rfl), seq_nx ((if_f (by rw [tw, b1])).trans rfl), seq_nx ((if_f (by rw [w2, b2])).trans rfl)]
      exact seq_rt ((if_t (by rw [w3, b3])).trans (retO_ok (slice_ok rfl rfl (someI_ok rfl) c3)))
    · rw [hgt_tup, hgt_tup]
      have : hgts ts.dropLast ≤ hgts ts := M.hgts_le fun u hu => hgts_mem ((List.dropLast_sublist ts).subset hu)
      omega
  have b3 : ((way == 3) && decide ((1 : Int) < ((ts.length + 1 : Nat) : Int))) = false := by simpa using b3
  by_cases b4 : ((way == 4) && decide ((2 : Int) < ((ts.length + 1 : Nat) : Int))) = true
  · have h2l : 2 ≤ ts.length := by
      simp only [Bool.and_eq_true, decide_eq_true_eq] at b4; omega
    match ts, h2l, hl, hts, hg, c1, w1, w2, w3, w4, hb1, b2, b3, b4, hlen, start, tw, fin with
    | t1 :: t2 :: r, h2l, hl, hts, hg, c1, w1, w2, w3, w4, hb1, b2, b3, b4, hlen, start, tw, fin =>
      have c4 : slD (.tup (.str z :: t1 :: t2 :: r)) none (some 1) = .ok (.tup [.str z]) := by
        show Res.ok (D.tup (cutD (.str z :: t1 :: t2 :: r) none (some ((1 : Nat) : Int)))) = _
        rw [cut_to]; rfl
      have c5 : slD (.tup (.str z :: t1 :: t2 :: r)) (some 3) none = .ok (.tup r) := by
        show Res.ok (D.tup (cutD (.str z :: t1 :: t2 :: r) (some ((3 : Nat) : Int)) none)) = _
        rw [cut_from]; rfl
      have i1 : ixD (.tup (.str z :: t1 :: t2 :: r)) (.int 1) = .ok t1 := ixT (k := 0) rfl
      simp only [List.length_cons] at hl
      refine fin (.tup (.str z :: t1 :: t1 :: r)) (.inl ?_) (tk_nd hzn (by simpa using hl) fun u hu => ?_) ?_
      · unfold g__law_other
        rw [start, seq_nx ((if_f (by rw [w1, hb1])).trans rfl), seq_nx ((if_f (by rw [tw, b1])).trans rfl), seq_nx ((if_f (by rw [w2, b2])).trans rfl), seq_nx ((if_f (by rw [w3, b3])).trans rfl)]
        exact seq_rt ((if_t (by rw [w4, b4])).trans (retO_ok (two_ok (two_ok (slice_ok rfl rfl (someI_ok rfl) c4) (tup_ok (cons_ok (two_ok rfl rfl i1) (cons_ok (two_ok rfl rfl i1) rfl)) (small_of (by simp))) (add_tup (a := [.str z]) (b := [t1, t1]) rfl (small_of (by simp)))) (slice_ok rfl (someI_ok rfl) rfl c5) (add_tup (a := [.str z] ++ [t1, t1]) (b := r) rfl (by simp only [List.length_append, List.length_cons, List.length_nil]; exact small_of (by omega))))))
      · simp only [List.mem_cons] at hu
        rcases hu with h | h | h
        · rw [h]; exact hts t1 (by simp)
        · rw [h]; exact hts t1 (by simp)
        · exact hts u (by simp [h])
      · rw [hgt_tup, hgt_tup]; simp only [hgts]; omega
  have b4 : ((way == 4) && decide ((2 : Int) < ((ts.length + 1 : Nat) : Int))) = false := by simpa using b4
  by_cases b5 : (way == 5) = true
  · refine fin (.int x) (.inr ?_) rfl (by simp [hgt])
    unfold g__law_other
    rw [start, seq_nx ((if_f (by rw [w1, hb1])).trans rfl), seq_nx ((if_f (by rw [tw, b1])).trans rfl), seq_nx ((if_f (by rw [w2, b2])).trans rfl), seq_nx ((if_f (by rw [w3, b3])).trans rfl), seq_nx ((if_f (by rw [w4, b4])).trans rfl)]
    exact seq_rt ((if_t (by rw [tw, b5])).trans (retS_ok (two_ok rfl (mod2_ok rfl rfl (by omega)) hfx)))
  have b5 : (way == 5) = false := by simpa using b5
  refine fin (.tup [.str z', .tup (.str z :: ts)]) (.inl ?_) (tk_nd hzn' (by simp) fun u hu => ?_) ?_
  · unfold g__law_other
    rw [start, seq_nx ((if_f (by rw [w1, hb1])).trans rfl), seq_nx ((if_f (by rw [tw, b1])).trans rfl), seq_nx ((if_f (by rw [w2, b2])).trans rfl), seq_nx ((if_f (by rw [w3, b3])).trans rfl), seq_nx ((if_f (by rw [w4, b4])).trans rfl), seq_nx ((if_f (by rw [tw, b5])).trans rfl)]
    exact retO_ok (tup_ok (cons_ok (two_ok rfl (mod2_ok rfl rfl (by omega)) hz') (cons_ok rfl rfl)) (small_of (by simp)))
  · simp only [List.mem_cons, List.not_mem_nil, or_false] at hu
    rw [hu]; exact hd
  · rw [hgt_tup]; simp only [hgts]; omega
end
end G

set_option Elab.async false
set_option linter.all false
set_option maxRecDepth 100000
set_option maxHeartbeats 4000000
namespace G
open PySem PySem.Spec L2 M
theorem law_true (sc : List Int) (hlen : sc.length ≤ 63) (hb : ∀ i ∈ sc, Builtin.Int.intBits i ≤ 2 ^ 20) : F_law [.scr (sc.map D.int)] = .ok (.bl true) := by
  have hsl : ∀ k : Nat, k ≤ 100 → k ≤ sizeLine := fun k hk => small_of (by omega)
  obtain ⟨c0, hc0⟩ : ∃ c0 : Int, ixD (.lst (sc.map D.int ++ [.int 0])) (.int 0) = .ok (.int c0) := by
    cases sc with
    | nil => exact ⟨0, ixL0 _ _⟩
    | cons c r => exact ⟨c, ixL0 _ _⟩
  have hadd : addS (.scr (sc.map D.int)) (.lst [.int 0]) = .ok (.lst (sc.map D.int ++ [.int 0])) := must_pos (by simp only [List.length_map, List.length_cons, List.length_nil]; exact hsl _ (by omega))
  obtain ⟨lead, hlead, hl0⟩ := spread_makes c0 0 (by omega)
  obtain ⟨nm, hnm, h5⟩ := names_makes lead
  obtain ⟨ns, hn⟩ := five_fiv h5
  have hpow : ∀ (k : Nat) (env : Sl), k ≤ 40 → two (cI 10) (cI (k : Int)) powI env = .ok (.int (10 ^ k)) := fun k env hk => two_ok rfl rfl (by
    have := pow_ok (i := 10) (j := (k : Int)) ⟨by omega, by omega, by decide⟩
    simpa using this)
  generalize ha : lead / 10 ^ 20 % 1000 = a
  generalize hbb : (a + 1 + lead / 10 ^ 23 % 499) % 1000 = b
  generalize hcc : (a + 501 + lead / 10 ^ 26 % 499) % 1000 = c
  obtain ⟨fr, hfr⟩ : ∃ fr, fr = D.lst [.int a, .int b, .int c] := ⟨_, rfl⟩
  have hfr' : D.lst ([a, b, c].map D.int) = fr := by rw [hfr]; rfl
  generalize hS : D.scr (sc.map D.int) = S
  rw [hS] at hadd
  have hcut : ∀ x ∈ cutD (sc.map D.int) none (some 40), x ∈ sc.map D.int := fun x hx => List.mem_of_mem_drop (List.mem_of_mem_take hx)
  have hcl : (cutD (sc.map D.int) none (some 40)).length ≤ 63 := by
    unfold cutD
    rw [List.length_take, List.length_drop, List.length_map]
    omega
  obtain ⟨env1, l1, v5, v6, v7, v8, v9, v10, v11, v12, v13, v14, v15, v16, v17, hE, _⟩ := forD_inv2 (body := turnD (g2 (gN 5) (gN 6)) (seqO (setOs 7 (callF 2 F__law_spread (cons1 (rdS 6) (cons1 (two (rdS 5) (cI 1) addD) nil1))))
    (seqO (setOs 8 (callF 4 (F__law_term 6) (cons1 (two (rdS 7) (cI 3) divW) (cons1 (rdS 2) (cons1 (cI 3) (cons1 (rdS 4) nil1))))))
    (seqO (setOs 9 (app (cons1 (callF 2 (F__law_paths 64) (cons1 (rdS 8) (cons1 (tupF nil1) nil1))) nil1) lenD))
    (seqO (setO 10 cD)
    (seqO (forO (enumF (rdS 4)) (g2 (gN 16) (gN 17)) (dputO 10 (rdS 17) (callF 4 (F__law_term 6) (cons1 (callF 2 F__law_mixed (cons1 (rdS 7) (cons1 (two (cI 7) (rdS 16) addD) nil1))) (cons1 (rdS 2) (cons1 (two (two (cI 2) (app (cons1 (two (rdS 9) (cI 13) gtI) nil1) intBD) subI) (app (cons1 (two (rdS 9) (cI 40) gtI) nil1) intBD) subI) (cons1 (rdS 4) nil1)))))))
    (seqO (setOs 11 (chk (callF 2 (F__law_filled 64) (cons1 (rdS 8) (cons1 (rdB 10) nil1)))))
    (seqO (setOs 12 (callF 2 (F__law_paths 64) (cons1 (rdS 8) (cons1 (tupF nil1) nil1))))
    (seqO (setOs 13 (two (rdS 12) (two (callF 2 F__law_mixed (cons1 (rdS 7) (cons1 (cI 11) nil1))) (app (cons1 (rdS 12) nil1) lenD) modI) ixD))
    (seqO (setOs 14 (callF 4 F__law_other (cons1 (callF 2 F__law_mixed (cons1 (rdS 7) (cons1 (cI 12) nil1))) (cons1 (callF 2 F__law_part (cons1 (rdS 11) (cons1 (rdS 13) nil1))) (cons1 (rdS 2) (cons1 (rdS 4) nil1))))))
    (seqO (setOs 15 (callF 3 (F__law_put 64) (cons1 (rdS 11) (cons1 (rdS 13) (cons1 (rdS 14) nil1)))))
    (seqO (ifO (asB (two (two (rdS 7) (cI 3) modI) (cI 1) eqR)) (setOs 15 (callF 4 (F__law_term 6) (cons1 (callF 2 F__law_mixed (cons1 (rdS 7) (cons1 (cI 13) nil1))) (cons1 (rdS 2) (cons1 (cI 3) (cons1 (rdS 4) nil1)))))) nxO)
    (seqO (ifO (asB (two (callF 1 (F__law_count 64) (cons1 (rdS 15) nil1)) (cI 1000) gtI)) ctO nxO)
    (ifO (orB (notB (asB (callF 2 F__law_right (cons1 (rdS 8) (cons1 (rdS 15) nil1))))) (notB (asB (callF 2 F__law_right (cons1 (rdS 15) (cons1 (rdS 8) nil1)))))) (retO (cB false)) nxO))))))))))))))
    (fun ds env => ∃ v5 v6 v7 v8 v9 v10 v11 v12 v13 v14 v15 v16 v17 : Slot, env = [.shr S, .shr (.int lead), .shr nm, .shr (.int a), .shr fr, v5, v6, v7, v8, v9, v10, v11, v12, v13, v14, v15, v16, v17] ∧ ∀ d ∈ ds, ∃ (j : Nat) (i : Int), d = .tup [.int (j : Int), .int i] ∧ j ≤ 63)
    (by
      rintro d ds env ⟨v5, v6, v7, v8, v9, v10, v11, v12, v13, v14, v15, v16, v17, rfl, hd⟩
      obtain ⟨j, i, rfl, hj⟩ := hd d (by simp)
      obtain ⟨m, hm, hm2⟩ := spread_makes i ((j : Int) + 1) (by omega)
      obtain ⟨p, hp, gp⟩ := term_makes (fs := [a, b, c]) hn rfl 6 3 (m / 3) (by omega) (by omega)
      rw [hfr'] at hp
      have gphg := gp.hg
      have gpnm : num p ≤ 94 := gp.nm
      obtain ⟨qs, hq1, hq2, hq3, hq4⟩ := paths_makes 64 p gp.tk (by omega) (by omega) [] (by simp only [List.length_nil]; omega)
      have hq1 : F__law_paths 64 [p, .tup []] = .ok (.lst (qs.map (atP []))) := hq1
      generalize hmn : (((qs.map (atP [])).length : Nat) : Int) = mny
      have hdp : ∃ r : Nat, r ≤ 2 ∧ ∀ (x0 x1 x2 x3 x4 x5 x6 x7 x8 x10 x11 x12 x13 x14 x15 x16 x17 : Slot), (two (two (cI 2) (app (cons1 (two (rdS 9) (cI 13) gtI) nil1) intBD) subI) (app (cons1 (two (rdS 9) (cI 40) gtI) nil1) intBD) subI) [x0, x1, x2, x3, x4, x5, x6, x7, x8, .shr (.int mny), x10, x11, x12, x13, x14, x15, x16, x17] = .ok (.int (r : Int)) := by
        refine ⟨(2 - (if decide (mny > 13) = true then 1 else 0) - (if decide (mny > 40) = true then 1 else 0) : Int).toNat, by split <;> split <;> omega, fun x0 x1 x2 x3 x4 x5 x6 x7 x8 x10 x11 x12 x13 x14 x15 x16 x17 => ?_⟩
        have : (two (two (cI 2) (app (cons1 (two (rdS 9) (cI 13) gtI) nil1) intBD) subI) (app (cons1 (two (rdS 9) (cI 40) gtI) nil1) intBD) subI) [x0, x1, x2, x3, x4, x5, x6, x7, x8, .shr (.int mny), x10, x11, x12, x13, x14, x15, x16, x17] = .ok (.int (2 - (if decide (mny > 13) = true then 1 else 0) - (if decide (mny > 40) = true then 1 else 0))) :=
          two_ok (two_ok rfl (app_ok (cons_ok (two_ok rfl rfl rfl) rfl) rfl) rfl) (app_ok (cons_ok (two_ok rfl rfl rfl) rfl) rfl) rfl
        rw [this]
        congr 2
        split <;> split <;> omega
      obtain ⟨r, hr2, hdp⟩ := hdp
      rw [turn_ok (env' := [.shr S, .shr (.int lead), .shr nm, .shr (.int a), .shr fr, .shr (.int (j : Int)), .shr (.int i), v7, v8, v9, v10, v11, v12, v13, v14, v15, v16, v17]) rfl]
      have s1 : setOs 7 (callF 2 F__law_spread (cons1 (rdS 6) (cons1 (two (rdS 5) (cI 1) addD) nil1))) [.shr S, .shr (.int lead), .shr nm, .shr (.int a), .shr fr, .shr (.int (j : Int)), .shr (.int i), v7, v8, v9, v10, v11, v12, v13, v14, v15, v16, v17] = .ok (.nx [.shr S, .shr (.int lead), .shr nm, .shr (.int a), .shr fr, .shr (.int (j : Int)), .shr (.int i), .shr (.int m), v8, v9, v10, v11, v12, v13, v14, v15, v16, v17]) := (setOs_ok (call_ok (cons_ok rfl (cons_ok (add2_ok rfl rfl) rfl)) rfl hm)).trans rfl
      have s2 : setOs 8 (callF 4 (F__law_term 6) (cons1 (two (rdS 7) (cI 3) divW) (cons1 (rdS 2) (cons1 (cI 3) (cons1 (rdS 4) nil1))))) [.shr S, .shr (.int lead), .shr nm, .shr (.int a), .shr fr, .shr (.int (j : Int)), .shr (.int i), .shr (.int m), v8, v9, v10, v11, v12, v13, v14, v15, v16, v17] = .ok (.nx [.shr S, .shr (.int lead), .shr nm, .shr (.int a), .shr fr, .shr (.int (j : Int)), .shr (.int i), .shr (.int m), .shr p, v9, v10, v11, v12, v13, v14, v15, v16, v17]) := (setOs_ok (call_ok (ds := [.int (m / 3), nm, .int 3, fr]) (cons_ok (two_ok rfl rfl (divW_ok (by omega))) (cons_ok rfl (cons_ok rfl (cons_ok rfl rfl)))) rfl hp)).trans rfl
      have s3 : setOs 9 (app (cons1 (callF 2 (F__law_paths 64) (cons1 (rdS 8) (cons1 (tupF nil1) nil1))) nil1) lenD) [.shr S, .shr (.int lead), .shr nm, .shr (.int a), .shr fr, .shr (.int (j : Int)), .shr (.int i), .shr (.int m), .shr p, v9, v10, v11, v12, v13, v14, v15, v16, v17] = .ok (.nx [.shr S, .shr (.int lead), .shr nm, .shr (.int a), .shr fr, .shr (.int (j : Int)), .shr (.int i), .shr (.int m), .shr p, .shr (.int mny), v10, v11, v12, v13, v14, v15, v16, v17]) := (setOs_ok (app_ok (d := .int mny) (cons_ok (call_ok (ds := [p, .tup []]) (cons_ok rfl (cons_ok (tup_ok rfl (hsl _ (by simp))) rfl)) rfl hq1) rfl) (by rw [← hmn]; rfl))).trans rfl
      rw [seq_nx s1, seq_nx s2, seq_nx s3]
      rw [seq_nx (env' := [.shr S, .shr (.int lead), .shr nm, .shr (.int a), .shr fr, .shr (.int (j : Int)), .shr (.int i), .shr (.int m), .shr p, .shr (.int mny), .own (.dic (kys []) []), v11, v12, v13, v14, v15, v16, v17]) rfl]
      obtain ⟨env2, l2, l, es, j1, b1, rfl, len1, all1, _, _⟩ := forD_inv (body := turnD (g2 (gN 16) (gN 17)) (dputO 10 (rdS 17) (callF 4 (F__law_term 6) (cons1 (callF 2 F__law_mixed (cons1 (rdS 7) (cons1 (two (cI 7) (rdS 16) addD) nil1))) (cons1 (rdS 2) (cons1 (two (two (cI 2) (app (cons1 (two (rdS 9) (cI 13) gtI) nil1) intBD) subI) (app (cons1 (two (rdS 9) (cI 40) gtI) nil1) intBD) subI) (cons1 (rdS 4) nil1)))))))
        (fun ds env => ∃ (l : List Int) (es : List D) (x y : Slot), env = [.shr S, .shr (.int lead), .shr nm, .shr (.int a), .shr fr, .shr (.int (j : Int)), .shr (.int i), .shr (.int m), .shr p, .shr (.int mny), .own (.dic (kys l) es), v11, v12, v13, v14, v15, x, y] ∧ es.length = l.length ∧ (∀ d ∈ es, M.tk ns d = true ∧ hgt d ≤ 3) ∧ l.length + ds.length ≤ 3 ∧ ∀ d ∈ ds, ∃ k x : Int, d = .tup [.int k, .int x] ∧ 0 ≤ k ∧ k ≤ 10)
        (by
          rintro d ds env ⟨l, es, x0, y0, rfl, len, all, hl, hd2⟩
          obtain ⟨k, x, rfl, hk0, hk1⟩ := hd2 d (by simp)
          simp only [List.length_cons] at hl
          rw [turn_ok (env' := [.shr S, .shr (.int lead), .shr nm, .shr (.int a), .shr fr, .shr (.int (j : Int)), .shr (.int i), .shr (.int m), .shr p, .shr (.int mny), .own (.dic (kys l) es), v11, v12, v13, v14, v15, .shr (.int k), .shr (.int x)]) rfl]
          obtain ⟨m4, hm4, hb4⟩ := mixed_makes m (7 + k) hm2 (by omega)
          obtain ⟨u, hu, gu⟩ := term_makes (fs := [a, b, c]) hn rfl 6 r m4 (by omega) hb4
          rw [hfr'] at hu
          have guhg := gu.hg
          have hv : callF 4 (F__law_term 6) (cons1 (callF 2 F__law_mixed (cons1 (rdS 7) (cons1 (two (cI 7) (rdS 16) addD) nil1))) (cons1 (rdS 2) (cons1 (two (two (cI 2) (app (cons1 (two (rdS 9) (cI 13) gtI) nil1) intBD) subI) (app (cons1 (two (rdS 9) (cI 40) gtI) nil1) intBD) subI) (cons1 (rdS 4) nil1)))) [.shr S, .shr (.int lead), .shr nm, .shr (.int a), .shr fr, .shr (.int (j : Int)), .shr (.int i), .shr (.int m), .shr p, .shr (.int mny), .own (.dic (kys l) es), v11, v12, v13, v14, v15, .shr (.int k), .shr (.int x)] = .ok u :=
            call_ok (ds := [.int m4, nm, .int (r : Int), fr]) (cons_ok (call_ok (cons_ok rfl (cons_ok (add2_ok rfl rfl) rfl)) rfl hm4) (cons_ok rfl (cons_ok (hdp _ _ _ _ _ _ _ _ _ _ _ _ _ _ _ _ _) (cons_ok rfl rfl)))) rfl hu
          refine ⟨[.shr S, .shr (.int lead), .shr nm, .shr (.int a), .shr fr, .shr (.int (j : Int)), .shr (.int i), .shr (.int m), .shr p, .shr (.int mny), .own (.dic (kys (ins l x)) (putDs (kys l) es (.inl x) u)), v11, v12, v13, v14, v15, .shr (.int k), .shr (.int x)], ?_, ins l x, _, _, _, rfl, ?_, ?_, ?_, fun e he => hd2 e (by simp [he])⟩
          · show (Res.ok (kys l, es) >>= fun q => callF 4 (F__law_term 6) (cons1 (callF 2 F__law_mixed (cons1 (rdS 7) (cons1 (two (cI 7) (rdS 16) addD) nil1))) (cons1 (rdS 2) (cons1 (two (two (cI 2) (app (cons1 (two (rdS 9) (cI 13) gtI) nil1) intBD) subI) (app (cons1 (two (rdS 9) (cI 40) gtI) nil1) intBD) subI) (cons1 (rdS 4) nil1)))) [.shr S, .shr (.int lead), .shr nm, .shr (.int a), .shr fr, .shr (.int (j : Int)), .shr (.int i), .shr (.int m), .shr p, .shr (.int mny), .own (.dic (kys l) es), v11, v12, v13, v14, v15, .shr (.int k), .shr (.int x)] >>= _) = _
            rw [ev_ok, hv]
            show must ((kys l).length < sizeLine) (Res.ok (Out.nx [.shr S, .shr (.int lead), .shr nm, .shr (.int a), .shr fr, .shr (.int (j : Int)), .shr (.int i), .shr (.int m), .shr p, .shr (.int mny), .own (.dic (putKs (kys l) (.inl x)) (putDs (kys l) es (.inl x) u)), v11, v12, v13, v14, v15, .shr (.int k), .shr (.int x)])) = _
            rw [must_pos (by rw [kys_len]; exact Nat.lt_of_le_of_lt (show l.length ≤ 3 by omega) (by decide)), put_kys]
          · rw [put_len _ _ _ _ (by rw [kys_len]; exact len.symm), put_kys, kys_len]
          · intro e he
            rcases put_mem he with z | z
            · exact all e z
            · rw [z]; exact ⟨gu.tk, by omega⟩
          · have := ins_len l x; omega)
        (pairsFrom 0 [.int a, .int b, .int c]) [.shr S, .shr (.int lead), .shr nm, .shr (.int a), .shr fr, .shr (.int (j : Int)), .shr (.int i), .shr (.int m), .shr p, .shr (.int mny), .own (.dic (kys []) []), v11, v12, v13, v14, v15, v16, v17]
        ⟨[], [], v16, v17, rfl, rfl, (fun _ h => by cases h), by simp [pairs_len], by
          intro d hd
          simp only [pairsFrom, List.mem_cons, List.not_mem_nil, or_false] at hd
          rcases hd with rfl | rfl | rfl
          · exact ⟨0, a, rfl, by omega, by omega⟩
          · exact ⟨1, b, rfl, by omega, by omega⟩
          · exact ⟨2, c, rfl, by omega, by omega⟩⟩
      rw [seq_nx ((for_ok (ds := pairsFrom 0 [.int a, .int b, .int c]) (by rw [hfr]; rfl)).trans l2)]
      generalize hφ : look (kys l) es = φ
      have ftk : ∀ i, M.tk ns (φ i) = true := by rw [← hφ]; exact look_tk fun d hd => (all1 d hd).1
      have fhg : ∀ i, hgt (φ i) ≤ 3 := by rw [← hφ]; exact look_hgt (by omega) fun d hd => (all1 d hd).2
      have hfill : F__law_filled 64 [p, .dic (kys l) es] = .ok (sub φ p) := by rw [← hφ]; exact filled1 64 p gp.tk (by omega)
      have ttk : M.tk ns (sub φ p) = true := tk_sub ftk p gp.tk
      have thg := hgt_sub fhg p gp.tk
      have hsub : ∀ q, okP p q → okP (sub φ p) q := fun q h => ok_sub q p h
      generalize hT : sub φ p = t at hfill ttk thg hsub
      have s6 : setOs 11 (chk (callF 2 (F__law_filled 64) (cons1 (rdS 8) (cons1 (rdB 10) nil1)))) [.shr S, .shr (.int lead), .shr nm, .shr (.int a), .shr fr, .shr (.int (j : Int)), .shr (.int i), .shr (.int m), .shr p, .shr (.int mny), .own (.dic (kys l) es), v11, v12, v13, v14, v15, j1, b1] = .ok (.nx [.shr S, .shr (.int lead), .shr nm, .shr (.int a), .shr fr, .shr (.int (j : Int)), .shr (.int i), .shr (.int m), .shr p, .shr (.int mny), .own (.dic (kys l) es), .shr t, v12, v13, v14, v15, j1, b1]) := (setOs_ok (chk_ok (call_ok (cons_ok rfl (cons_ok rfl rfl)) rfl hfill) (imm_tk _ ttk))).trans rfl
      have s7 : setOs 12 (callF 2 (F__law_paths 64) (cons1 (rdS 8) (cons1 (tupF nil1) nil1))) [.shr S, .shr (.int lead), .shr nm, .shr (.int a), .shr fr, .shr (.int (j : Int)), .shr (.int i), .shr (.int m), .shr p, .shr (.int mny), .own (.dic (kys l) es), .shr t, v12, v13, v14, v15, j1, b1] = .ok (.nx [.shr S, .shr (.int lead), .shr nm, .shr (.int a), .shr fr, .shr (.int (j : Int)), .shr (.int i), .shr (.int m), .shr p, .shr (.int mny), .own (.dic (kys l) es), .shr t, .shr (.lst (qs.map (atP []))), v13, v14, v15, j1, b1]) := (setOs_ok (call_ok (ds := [p, .tup []]) (cons_ok rfl (cons_ok (tup_ok rfl (hsl _ (by simp))) rfl)) rfl hq1)).trans rfl
      obtain ⟨m5, hm5, hb5⟩ := mixed_makes m 11 hm2 (by omega)
      obtain ⟨m6, hm6, hb6⟩ := mixed_makes m 12 hm2 (by omega)
      obtain ⟨m7, hm7, hb7⟩ := mixed_makes m 13 hm2 (by omega)
      have hqp : 0 < (qs.map (atP [])).length := by rw [List.length_map]; exact List.length_pos_iff.mpr hq2
      obtain ⟨pd, hpd, hpm⟩ := ixL (ds := qs.map (atP [])) (i := m5 % (((qs.map (atP [])).length : Nat) : Int)) (Int.emod_nonneg _ (by omega)) (Int.emod_lt_of_pos _ (by omega))
      obtain ⟨q, hqm, rfl⟩ := List.mem_map.mp hpm
      obtain ⟨hok, hql⟩ := hq4 q hqm
      have eq0 : atP [] q = .tup (q.map nI) := by simp [atP]
      rw [eq0] at hpd
      have s8 : setOs 13 (two (rdS 12) (two (callF 2 F__law_mixed (cons1 (rdS 7) (cons1 (cI 11) nil1))) (app (cons1 (rdS 12) nil1) lenD) modI) ixD) [.shr S, .shr (.int lead), .shr nm, .shr (.int a), .shr fr, .shr (.int (j : Int)), .shr (.int i), .shr (.int m), .shr p, .shr (.int mny), .own (.dic (kys l) es), .shr t, .shr (.lst (qs.map (atP []))), v13, v14, v15, j1, b1] = .ok (.nx [.shr S, .shr (.int lead), .shr nm, .shr (.int a), .shr fr, .shr (.int (j : Int)), .shr (.int i), .shr (.int m), .shr p, .shr (.int mny), .own (.dic (kys l) es), .shr t, .shr (.lst (qs.map (atP []))), .shr (.tup (q.map nI)), v14, v15, j1, b1]) := (setOs_ok (two_ok rfl (mod2_ok (call_ok (cons_ok rfl (cons_ok rfl rfl)) rfl hm5) (app_ok (cons_ok rfl rfl) rfl) (by omega)) hpd)).trans rfl
      obtain ⟨pt, hpt, ptk, pthg⟩ := part_makes ttk (hsub q hok)
      obtain ⟨e, he, etk, ehg⟩ := other_makes hn a b c m6 hb6 ptk (by omega)
      rw [← hfr] at he
      have s9 : setOs 14 (callF 4 F__law_other (cons1 (callF 2 F__law_mixed (cons1 (rdS 7) (cons1 (cI 12) nil1))) (cons1 (callF 2 F__law_part (cons1 (rdS 11) (cons1 (rdS 13) nil1))) (cons1 (rdS 2) (cons1 (rdS 4) nil1))))) [.shr S, .shr (.int lead), .shr nm, .shr (.int a), .shr fr, .shr (.int (j : Int)), .shr (.int i), .shr (.int m), .shr p, .shr (.int mny), .own (.dic (kys l) es), .shr t, .shr (.lst (qs.map (atP []))), .shr (.tup (q.map nI)), v14, v15, j1, b1] = .ok (.nx [.shr S, .shr (.int lead), .shr nm, .shr (.int a), .shr fr, .shr (.int (j : Int)), .shr (.int i), .shr (.int m), .shr p, .shr (.int mny), .own (.dic (kys l) es), .shr t, .shr (.lst (qs.map (atP []))), .shr (.tup (q.map nI)), .shr e, v15, j1, b1]) := (setOs_ok (call_ok (ds := [.int m6, pt, nm, fr]) (cons_ok (call_ok (cons_ok rfl (cons_ok rfl rfl)) rfl hm6) (cons_ok (call_ok (cons_ok rfl (cons_ok rfl rfl)) rfl hpt) (cons_ok rfl (cons_ok rfl rfl)))) rfl he)).trans rfl
      obtain ⟨ch0, hch0, c0tk, c0hg⟩ := put_makes etk 64 q t (by omega) (by omega) ttk (hsub q hok)
      have s10 : setOs 15 (callF 3 (F__law_put 64) (cons1 (rdS 11) (cons1 (rdS 13) (cons1 (rdS 14) nil1)))) [.shr S, .shr (.int lead), .shr nm, .shr (.int a), .shr fr, .shr (.int (j : Int)), .shr (.int i), .shr (.int m), .shr p, .shr (.int mny), .own (.dic (kys l) es), .shr t, .shr (.lst (qs.map (atP []))), .shr (.tup (q.map nI)), .shr e, v15, j1, b1] = .ok (.nx [.shr S, .shr (.int lead), .shr nm, .shr (.int a), .shr fr, .shr (.int (j : Int)), .shr (.int i), .shr (.int m), .shr p, .shr (.int mny), .own (.dic (kys l) es), .shr t, .shr (.lst (qs.map (atP []))), .shr (.tup (q.map nI)), .shr e, .shr ch0, j1, b1]) := (setOs_ok (call_ok (cons_ok rfl (cons_ok rfl (cons_ok rfl rfl))) rfl hch0)).trans rfl
      rw [seq_nx s6, seq_nx s7, seq_nx s8, seq_nx s9, seq_nx s10]
      obtain ⟨w7, hw7, gw7⟩ := term_makes (fs := [a, b, c]) hn rfl 6 3 m7 (by omega) hb7
      rw [hfr'] at hw7
      have gw7hg := gw7.hg
      have hch : ∃ ch, M.tk ns ch = true ∧ hgt ch ≤ 50 ∧ ifO (asB (two (two (rdS 7) (cI 3) modI) (cI 1) eqR)) (setOs 15 (callF 4 (F__law_term 6) (cons1 (callF 2 F__law_mixed (cons1 (rdS 7) (cons1 (cI 13) nil1))) (cons1 (rdS 2) (cons1 (cI 3) (cons1 (rdS 4) nil1)))))) nxO [.shr S, .shr (.int lead), .shr nm, .shr (.int a), .shr fr, .shr (.int (j : Int)), .shr (.int i), .shr (.int m), .shr p, .shr (.int mny), .own (.dic (kys l) es), .shr t, .shr (.lst (qs.map (atP []))), .shr (.tup (q.map nI)), .shr e, .shr ch0, j1, b1] = .ok (.nx [.shr S, .shr (.int lead), .shr nm, .shr (.int a), .shr fr, .shr (.int (j : Int)), .shr (.int i), .shr (.int m), .shr p, .shr (.int mny), .own (.dic (kys l) es), .shr t, .shr (.lst (qs.map (atP []))), .shr (.tup (q.map nI)), .shr e, .shr ch, j1, b1]) := by
        have tq : asB (two (two (rdS 7) (cI 3) modI) (cI 1) eqR) [.shr S, .shr (.int lead), .shr nm, .shr (.int a), .shr fr, .shr (.int (j : Int)), .shr (.int i), .shr (.int m), .shr p, .shr (.int mny), .own (.dic (kys l) es), .shr t, .shr (.lst (qs.map (atP []))), .shr (.tup (q.map nI)), .shr e, .shr ch0, j1, b1] = .ok (m % 3 == 1) := asB_ok (two_ok (two_ok rfl rfl rfl) rfl eqR_int)
        by_cases hq : (m % 3 == 1) = true
        · refine ⟨w7, gw7.tk, by omega, (if_t (by rw [tq, hq])).trans ?_⟩
          exact (setOs_ok (call_ok (ds := [.int m7, nm, .int 3, fr]) (cons_ok (call_ok (cons_ok rfl (cons_ok rfl rfl)) rfl hm7) (cons_ok rfl (cons_ok rfl (cons_ok rfl rfl)))) rfl hw7)).trans rfl
        · have hq : (m % 3 == 1) = false := by simpa using hq
          exact ⟨ch0, c0tk, by omega, (if_f (by rw [tq, hq])).trans rfl⟩
      obtain ⟨ch, ctk, chg, s11⟩ := hch
      have hcount := count1 64 ch ctk (by omega)
      have t12 : asB (two (callF 1 (F__law_count 64) (cons1 (rdS 15) nil1)) (cI 1000) gtI) [.shr S, .shr (.int lead), .shr nm, .shr (.int a), .shr fr, .shr (.int (j : Int)), .shr (.int i), .shr (.int m), .shr p, .shr (.int mny), .own (.dic (kys l) es), .shr t, .shr (.lst (qs.map (atP []))), .shr (.tup (q.map nI)), .shr e, .shr ch, j1, b1] = .ok (decide ((1000 : Int) < ((num ch : Nat) : Int))) := asB_ok (two_ok (call_ok (cons_ok rfl rfl) rfl hcount) rfl rfl)
      rw [seq_nx s11]
      by_cases hbig : (1000 : Int) < ((num ch : Nat) : Int)
      · refine ⟨[.shr S, .shr (.int lead), .shr nm, .shr (.int a), .shr fr, .shr (.int (j : Int)), .shr (.int i), .shr (.int m), .shr p, .shr (.int mny), .own (.dic (kys l) es), .shr t, .shr (.lst (qs.map (atP []))), .shr (.tup (q.map nI)), .shr e, .shr ch, j1, b1], .inr ?_, _, _, _, _, _, _, _, _, _, _, _, _, _, rfl, fun e he => hd e (by simp [he])⟩
        exact seq_ct ((if_t (by rw [t12, decide_eq_true hbig])).trans rfl)
      · refine ⟨[.shr S, .shr (.int lead), .shr nm, .shr (.int a), .shr fr, .shr (.int (j : Int)), .shr (.int i), .shr (.int m), .shr p, .shr (.int mny), .own (.dic (kys l) es), .shr t, .shr (.lst (qs.map (atP []))), .shr (.tup (q.map nI)), .shr e, .shr ch, j1, b1], .inl ?_, _, _, _, _, _, _, _, _, _, _, _, _, _, rfl, fun e he => hd e (by simp [he])⟩
        rw [seq_nx ((if_f (by rw [t12, decide_eq_false hbig])).trans rfl)]
        have r1 := right2 gp.tk ctk (by omega) (by omega) (by omega) (by omega)
        have r2 := right2 ctk gp.tk (by omega) (by omega) (by omega) (by omega)
        have t13 : orB (notB (asB (callF 2 F__law_right (cons1 (rdS 8) (cons1 (rdS 15) nil1))))) (notB (asB (callF 2 F__law_right (cons1 (rdS 15) (cons1 (rdS 8) nil1))))) [.shr S, .shr (.int lead), .shr nm, .shr (.int a), .shr fr, .shr (.int (j : Int)), .shr (.int i), .shr (.int m), .shr p, .shr (.int mny), .own (.dic (kys l) es), .shr t, .shr (.lst (qs.map (atP []))), .shr (.tup (q.map nI)), .shr e, .shr ch, j1, b1] = .ok false :=
          or_ok (b := false) (b2 := false) (notB_ok (b := true) (asB_ok (call_ok (cons_ok rfl (cons_ok rfl rfl)) rfl r1))) (notB_ok (b := true) (asB_ok (call_ok (cons_ok rfl (cons_ok rfl rfl)) rfl r2)))
        exact (if_f t13).trans rfl)
    (pairsFrom 0 (cutD (sc.map D.int) none (some 40))) [.shr S, .shr (.int lead), .shr nm, .shr (.int a), .shr fr, .un, .un, .un, .un, .un, .un, .un, .un, .un, .un, .un, .un, .un]
    ⟨_, _, _, _, _, _, _, _, _, _, _, _, _, rfl, fun d hd => by
      obtain ⟨j, x, e, hj, hx⟩ := pairs_mem _ _ _ hd
      obtain ⟨i, _, rfl⟩ := List.mem_map.mp (hcut x hx)
      exact ⟨j, i, e, by omega⟩⟩
  subst hE
  refine run_t ?_
  show g_law F__law_spread F__law_names F__law_right (F__law_term 6) (F__law_filled 64) (F__law_paths 64) F__law_other (F__law_put 64) F__law_mixed F__law_part (F__law_count 64) [.shr S, .un, .un, .un, .un, .un, .un, .un, .un, .un, .un, .un, .un, .un, .un, .un, .un, .un] = _
  unfold g_law
  have s1 : setOs 1 (callF 2 F__law_spread (cons1 (two (two (rdS 0) (lstF (cons1 (cI 0) nil1)) addS) (cI 0) ixD) (cons1 (cI 0) nil1))) [.shr S, .un, .un, .un, .un, .un, .un, .un, .un, .un, .un, .un, .un, .un, .un, .un, .un, .un] = .ok (.nx [.shr S, .shr (.int lead), .un, .un, .un, .un, .un, .un, .un, .un, .un, .un, .un, .un, .un, .un, .un, .un]) :=
    (setOs_ok (call_ok (ds := [.int c0, .int 0]) (cons_ok (two_ok (two_ok rfl (lst_ok (cons_ok rfl rfl) (hsl _ (by simp))) hadd) rfl hc0) (cons_ok rfl rfl)) rfl hlead)).trans rfl
  have s2 : setOs 2 (callF 1 F__law_names (cons1 (rdS 1) nil1)) [.shr S, .shr (.int lead), .un, .un, .un, .un, .un, .un, .un, .un, .un, .un, .un, .un, .un, .un, .un, .un] = .ok (.nx [.shr S, .shr (.int lead), .shr nm, .un, .un, .un, .un, .un, .un, .un, .un, .un, .un, .un, .un, .un, .un, .un]) := (setOs_ok (call_ok (cons_ok rfl rfl) rfl hnm)).trans rfl
  have s3 : setOs 3 (two (two (rdS 1) (two (cI 10) (cI 20) powI) divW) (cI 1000) modI) [.shr S, .shr (.int lead), .shr nm, .un, .un, .un, .un, .un, .un, .un, .un, .un, .un, .un, .un, .un, .un, .un] = .ok (.nx [.shr S, .shr (.int lead), .shr nm, .shr (.int a), .un, .un, .un, .un, .un, .un, .un, .un, .un, .un, .un, .un, .un, .un]) :=
    (setOs_ok (mod2_ok (two_ok rfl (hpow 20 _ (by omega)) (divW_ok (by omega))) rfl (by omega))).trans (by rw [ha]; rfl)
  have s4 : setOs 4 (lstF (cons1 (rdS 3) (cons1 (two (two (two (rdS 3) (cI 1) addD) (two (two (rdS 1) (two (cI 10) (cI 23) powI) divW) (cI 499) modI) addD) (cI 1000) modI) (cons1 (two (two (two (rdS 3) (cI 501) addD) (two (two (rdS 1) (two (cI 10) (cI 26) powI) divW) (cI 499) modI) addD) (cI 1000) modI) nil1)))) [.shr S, .shr (.int lead), .shr nm, .shr (.int a), .un, .un, .un, .un, .un, .un, .un, .un, .un, .un, .un, .un, .un, .un] = .ok (.nx [.shr S, .shr (.int lead), .shr nm, .shr (.int a), .shr fr, .un, .un, .un, .un, .un, .un, .un, .un, .un, .un, .un, .un, .un]) :=
    (setOs_ok (lst_ok (cons_ok rfl (cons_ok (mod2_ok (add2_ok (add2_ok rfl rfl) (mod2_ok (two_ok rfl (hpow 23 _ (by omega)) (divW_ok (by omega))) rfl (by omega))) rfl (by omega)) (cons_ok (mod2_ok (add2_ok (add2_ok rfl rfl) (mod2_ok (two_ok rfl (hpow 26 _ (by omega)) (divW_ok (by omega))) rfl (by omega))) rfl (by omega)) rfl))) (hsl _ (by simp)))).trans (by rw [hbb, hcc, ← hfr]; rfl)
  rw [seq_nx s1, seq_nx s2, seq_nx s3, seq_nx s4]
  have hsc : slS S none (some 40) = .ok (.lst (cutD (sc.map D.int) none (some 40))) := by rw [← hS]; rfl
  have hen : enumF (slice3 (rdS 0) noneI (someI (cI 40)) slS) [.shr S, .shr (.int lead), .shr nm, .shr (.int a), .shr fr, .un, .un, .un, .un, .un, .un, .un, .un, .un, .un, .un, .un, .un] = .ok (pairsFrom 0 (cutD (sc.map D.int) none (some 40))) := by
    have : slice3 (rdS 0) noneI (someI (cI 40)) slS [.shr S, .shr (.int lead), .shr nm, .shr (.int a), .shr fr, .un, .un, .un, .un, .un, .un, .un, .un, .un, .un, .un, .un, .un] = .ok (.lst (cutD (sc.map D.int) none (some 40))) := slice_ok rfl rfl (someI_ok rfl) hsc
    unfold enumF
    rw [this]; rfl
  rw [seq_nx ((for_ok hen).trans l1)]
  obtain ⟨z0, hz0, hz0n⟩ := fiv_ix hn 0 (by omega) (by omega)
  have i1 : ixD fr (.int 1) = .ok (.int b) := by rw [hfr]; exact ixL1 _ _ _
  have k1 : M.tk ns (.tup [.str z0, .int a]) = true := tk_nd hz0n (by simp) fun u hu => by
    simp only [List.mem_cons, List.not_mem_nil, or_false] at hu; rw [hu]; rfl
  have k2 : ∀ x y : Int, M.tk ns (.tup [.str z0, .int x, .int y]) = true := fun x y => tk_nd hz0n (by simp) fun u hu => by
    simp only [List.mem_cons, List.not_mem_nil, or_false] at hu
    rcases hu with h | h <;> (rw [h]; rfl)
  have r1 := right2 (ns := ns) (p := .int a) (t := .tup [.str z0, .int a]) rfl k1 (by simp [hgt]) (by simp [hgt, hgts]) (by simp [num]) (by simp [num, nums])
  have r2 := right2 (ns := ns) (p := .tup [.str z0, .int a, .int a]) (t := .tup [.str z0, .int a, .int b]) (k2 _ _) (k2 _ _) (by simp [hgt, hgts]) (by simp [hgt, hgts]) (by simp [num, nums]) (by simp [num, nums])
  have t1 : notB (asB (callF 2 F__law_right (cons1 (rdS 3) (cons1 (tupF (cons1 (two (rdS 2) (cI 0) ixD) (cons1 (rdS 3) nil1))) nil1)))) [.shr S, .shr (.int lead), .shr nm, .shr (.int a), .shr fr, v5, v6, v7, v8, v9, v10, v11, v12, v13, v14, v15, v16, v17] = .ok false :=
    notB_ok (b := true) (asB_ok (call_ok (ds := [.int a, .tup [.str z0, .int a]]) (cons_ok rfl (cons_ok (tup_ok (cons_ok (two_ok rfl rfl hz0) (cons_ok rfl rfl)) (hsl _ (by simp))) rfl)) rfl r1))
  rw [seq_nx ((if_f t1).trans rfl)]
  exact retO_ok (call_ok (ds := [.tup [.str z0, .int a, .int a], .tup [.str z0, .int a, .int b]]) (cons_ok (tup_ok (cons_ok (two_ok rfl rfl hz0) (cons_ok rfl (cons_ok rfl rfl))) (hsl _ (by simp))) (cons_ok (tup_ok (cons_ok (two_ok rfl rfl hz0) (cons_ok rfl (cons_ok (two_ok rfl rfl i1) rfl))) (hsl _ (by simp))) rfl)) rfl r2)
end G

open PySem PySem.W PyProof.Rows
set_option maxRecDepth 100000 in
set_option maxHeartbeats 0 in
theorem PySem.Challenge.cw_endwise_k12_none_told_holds : PySem.Challenge.rw_endwise_k12_none_told.Holds := by
  w_on; o_law; k_head; (case hw => w_witness2)
  k_fill
  refine M.walk_law (l := PySem.Challenge.rw_endwise_k12_none_told) (n := 63) (k := 69) (x := "_law_script") (F := G.F_law) rfl (by decide) rfl ⟨rfl, by decide, by decide⟩ (fun w h Y => PySem.W.kIn_of Y) ?F G.law_true
  case F =>
    intro w mg fa h KX Gn hmg
    refine' G.all_mk KX Gn hmg ?a0 ?l0 ?c0 ?k0 ?a1 ?l1 ?c1 ?k1 ?a2 ?l2 ?c2 ?k2 ?a3 ?l3 ?c3 ?k3 ?a4 ?l4 ?c4 ?k4 ?a5 ?l5 ?c5 ?k5 ?a6 ?l6 ?c6 ?k6 ?a7 ?l7 ?c7 ?k7 ?a8 ?l8 ?c8 ?k8 ?a9 ?l9 ?c9 ?k9 ?a10 ?l10 ?c10 ?k10 ?a11 ?l11 ?c11 ?k11 ?a12 ?l12 ?c12 ?k12 ?a13 ?l13 ?c13 ?k13 ?a14 ?l14 ?c14 ?k14 ?a15 ?l15 ?c15 ?k15 ?a16 ?l16 ?c16 ?k16 ?a17 ?l17 ?c17 ?k17 ?a18 ?l18 ?c18 ?k18 ?a19 ?l19 ?c19 ?k19 ?a20 ?l20 ?c20 ?k20 ?a21 ?l21 ?c21 ?k21 ?z0 ?z1 ?z2 ?z3 ?z4 ?z5 ?z6 ?z7 ?z8 ?z9 ?z10 ?z11 ?y_MOST_LEVELS ?y_MOST_PARTS
    (case a0 => k_is)
    (case l0 => k_is)
    (case c0 => k_is)
    (case k0 => k_is)
    (case a1 => k_is)
    (case l1 => k_is)
    (case c1 => k_is)
    (case k1 => k_is)
    (case a2 => k_is)
    (case l2 => k_is)
    (case c2 => k_is)
    (case k2 => k_is)
    (case a3 => k_is)
    (case l3 => k_is)
    (case c3 => k_is)
    (case k3 => k_is)
    (case a4 => k_is)
    (case l4 => k_is)
    (case c4 => k_is)
    (case k4 => k_is)
    (case a5 => k_is)
    (case l5 => k_is)
    (case c5 => k_is)
    (case k5 => k_is)
    (case a6 => k_is)
    (case l6 => k_is)
    (case c6 => k_is)
    (case k6 => k_is)
    (case a7 => k_is)
    (case l7 => k_is)
    (case c7 => k_is)
    (case k7 => k_is)
    (case a8 => k_is)
    (case l8 => k_is)
    (case c8 => k_is)
    (case k8 => k_is)
    (case a9 => k_is)
    (case l9 => k_is)
    (case c9 => k_is)
    (case k9 => k_is)
    (case a10 => k_is)
    (case l10 => k_is)
    (case c10 => k_is)
    (case k10 => k_is)
    (case a11 => k_is)
    (case l11 => k_is)
    (case c11 => k_is)
    (case k11 => k_is)
    (case a12 => k_is)
    (case l12 => k_is)
    (case c12 => k_is)
    (case k12 => k_is)
    (case a13 => k_is)
    (case l13 => k_is)
    (case c13 => k_is)
    (case k13 => k_is)
    (case a14 => k_is)
    (case l14 => k_is)
    (case c14 => k_is)
    (case k14 => k_is)
    (case a15 => k_is)
    (case l15 => k_is)
    (case c15 => k_is)
    (case k15 => k_is)
    (case a16 => k_is)
    (case l16 => k_is)
    (case c16 => k_is)
    (case k16 => k_is)
    (case a17 => k_is)
    (case l17 => k_is)
    (case c17 => k_is)
    (case k17 => k_is)
    (case a18 => k_is)
    (case l18 => k_is)
    (case c18 => k_is)
    (case k18 => k_is)
    (case a19 => k_is)
    (case l19 => k_is)
    (case c19 => k_is)
    (case k19 => k_is)
    (case a20 => k_is)
    (case l20 => k_is)
    (case c20 => k_is)
    (case k20 => k_is)
    (case a21 => k_is)
    (case l21 => k_is)
    (case c21 => k_is)
    (case k21 => k_is)
    (case z0 => k_is)
    (case z1 => k_is)
    (case z2 => k_is)
    (case z3 => k_is)
    (case z4 => k_is)
    (case z5 => k_is)
    (case z6 => k_is)
    (case z7 => k_is)
    (case z8 => k_is)
    (case z9 => k_is)
    (case z10 => k_is)
    (case z11 => k_is)
    (case y_MOST_LEVELS => k_is)
    (case y_MOST_PARTS => k_is)
import PyProof.Rows.All
import Wide.All
import OpenK.AllK
import Wide.FinOn
import Lean
import PyProof.EqAt
import PyProof.EqKinds
import PyProof.TupleCall
import PyProof.NeKinds
import KE.IntBitsLaws
import KE.KDictList
import KE.KRevIter
import KE.KSortTup
import KE.KDictSum
import PyProof.EnumMake
import PyProof.EnumFor
import PyProof.LayNew
import PyProof.Rows.EnumRows
import PyProof.SumAny
import PyProof.ListRange
import PyProof.FString5
import PyProof.CollectIter
import PyProof.TupleOfSeq
import PyProof.Rows.Tup
import OpenK.KRaise
import PyProof.StationsW
import KE.KTryMore
import PyProof.NsDelKeeps
import KE.KEqDict
import PyProof.ExcArgs
import PyProof.Draws
import PyProof.ZipIter
import PyProof.Rows.ZipGen
import PyProof.DictWalks
import PyProof.Conv_int_bool
import PyProof.Rows.SeqMore
import PyProof.Rows.SetFrom
import PyProof.SetRoads
import PyProof.MeetsSeq2
import PyProof.FactsAll.NoneType_1
import PyProof.DictFindH
import PyProof.DictRoadsH
import PyProof.AttrMissHeap
import KE.KDictOf
import PySem.Challenge.RW_endwise_k51_calls_told
set_option Elab.async false
set_option linter.all false
set_option maxRecDepth 100000
namespace L2
open PySem PySem.Spec PyProof.Rows
abbrev Key := Sum Int Str
def Yh : Key → Value → Bool
  | .inl k, v => Value.isInt k v
  | .inr x, v => Value.isStrOf x v
def keyH (w : World) : Key → Int
  | .inl k => hashInt k
  | .inr x => hashStr w x
theorem j9 : ∀ {k : Key} {v : Value}, Yh k v = true → (∃ i t, k = Sum.inl i ∧ v = Value.int i t) ∨ (∃ x t, k = Sum.inr x ∧ v = Value.str x t)
  | .inl i, v, h => by
    obtain ⟨t, e⟩ := Value.isInt_shape (k := i) (v := v) h
    exact .inl ⟨i, t, rfl, e⟩
  | .inr x, v, h => by
    obtain ⟨t, e⟩ := Value.isStrOf_shape (x := x) (v := v) h
    exact .inr ⟨x, t, rfl, e⟩
theorem KO (i : Int) (t : Tok) : Yh (.inl i) (.int i t) = true := by simp [Yh, Value.isInt]
theorem KN (x : Str) (t : Tok) : Yh (.inr x) (.str x t) = true := by simp [Yh, Value.isStrOf]
theorem ja5 (a b : Int) : decide ((Sum.inl a : Key) = Sum.inl b) = (a == b) := by
  by_cases e : a = b
  · subst e; simp
  · have h : ¬ (Sum.inl a : Key) = Sum.inl b := fun q => e (Sum.inl.inj q)
    rw [decide_eq_false h]
    exact (beq_eq_false_iff_ne.mpr e).symm
theorem ja2 (a b : Str) : decide ((Sum.inr a : Key) = Sum.inr b) = decide (a = b) := by
  by_cases e : a = b
  · subst e; simp
  · have h : ¬ (Sum.inr a : Key) = Sum.inr b := fun q => e (Sum.inr.inj q)
    rw [decide_eq_false h, decide_eq_false e]
theorem ja4 (a : Int) (b : Str) : decide ((Sum.inl a : Key) = Sum.inr b) = false := decide_eq_false (fun q => nomatch q)
theorem ja3 (a : Str) (b : Int) : decide ((Sum.inr a : Key) = Sum.inl b) = false := decide_eq_false (fun q => nomatch q)
def jI (prog : Program) (w : World) : PySem.KeyKind prog w Key where
  is := Yh
  hash := keyH w
  inj := fun v a b ha hb => by
    rcases j9 ha with ⟨i, t, rfl, rfl⟩ | ⟨x, t, rfl, rfl⟩
    · rcases j9 hb with ⟨j, u, rfl, e⟩ | ⟨y, u, rfl, e⟩
      · injection e with e1 _; rw [e1]
      · exact nomatch e
    · rcases j9 hb with ⟨j, u, rfl, e⟩ | ⟨y, u, rfl, e⟩
      · exact nomatch e
      · injection e with e1 _; rw [e1]
  byValue := fun k v h => by
    rcases j9 h with ⟨i, t, rfl, rfl⟩ | ⟨x, t, rfl, rfl⟩ <;> rfl
  pyHash := fun hv h => by
    rcases j9 hv with ⟨i, t, rfl, rfl⟩ | ⟨x, t, rfl, rfl⟩
    · exact wpAny_pyHash_int h
    · exact wpAny_pyHash_str h
  eqBool := fun hu hv h => by
    rcases j9 hu with ⟨i, t, rfl, rfl⟩ | ⟨x, t, rfl, rfl⟩
    · rcases j9 hv with ⟨j, u, rfl, rfl⟩ | ⟨y, u, rfl, rfl⟩
      · rw [ja5] at h; exact wpAny_eqBool_int h
      · rw [ja4] at h; exact SeqAt.EqAt.int_str i t y u _ _ _ _ h
    · rcases j9 hv with ⟨j, u, rfl, rfl⟩ | ⟨y, u, rfl, rfl⟩
      · rw [ja3] at h; exact SeqAt.EqAt.str_int x t j u _ _ _ _ h
      · rw [ja2] at h; exact wpAny_eqBool_str h
  «strs» := fun k x t v h => by
    rcases j9 h with ⟨i, u, rfl, e⟩ | ⟨y, u, rfl, e⟩
    · exact nomatch e
    · injection e with e1 _
      subst e1
      cases v <;> rfl
theorem Wi (prog : Program) (w : World) (i : Int) (t : Tok) : (jI prog w).is (.inl i) (.int i t) = true := KO i t
theorem Wh (prog : Program) (w : World) (x : Str) (t : Tok) : (jI prog w).is (.inr x) (.str x t) = true := KN x t
end L2
namespace L2
open PySem PySem.Spec PyProof.Rows
inductive V where
  | non | bl (b : Bool) | int (i : Int) | str (x : Str) | byt (b : Array UInt8) | flt (b : UInt64) | ref (a : Addr) | ty (n : String)
  deriving DecidableEq
def RelV : V → Value → Prop
  | .non, u => u = Value.none
  | .bl b, u => u = Value.bool b
  | .int i, u => ∃ t, u = Value.int i t
  | .str x, u => ∃ t, u = Value.str x t
  | .byt b, u => ∃ t, u = Value.bytes b t
  | .flt b, u => ∃ t, u = Value.float b t
  | .ref a, u => u = Value.ref a
  | .ty n, u => u = Value.type n
abbrev Vals : List V → List Value → Prop := Paired RelV
theorem Vals.length {xs : List V} {us : List Value} (r : Vals xs us) : xs.length = us.length := Paired.length r
theorem Vals.get : ∀ {xs : List V} {us : List Value} {i : Nat} {x : V}, Vals xs us → xs[i]? = some x → ∃ u, us[i]? = some u ∧ RelV x u
  | _, _, _, _, .nil, e => by simp at e
  | _, _, 0, _, .cons r _, e => by simp at e; subst e; exact ⟨_, rfl, r⟩
  | _, _, i + 1, x, .cons _ t, e => by
    obtain ⟨u, h1, h2⟩ := Vals.get (i := i) (x := x) t (by simpa using e)
    exact ⟨u, by simpa using h1, h2⟩
theorem Vals.append : ∀ {xs ys : List V} {us ws : List Value}, Vals xs us → Vals ys ws → Vals (xs ++ ys) (us ++ ws)
  | _, _, _, _, .nil, s => s
  | _, _, _, _, .cons r t, s => .cons r (Vals.append t s)
theorem Vals.take : ∀ {xs : List V} {us : List Value} (n : Nat), Vals xs us → Vals (xs.take n) (us.take n)
  | _, _, 0, _ => .nil
  | _, _, _ + 1, .nil => .nil
  | _, _, n + 1, .cons r t => .cons r (Vals.take n t)
theorem Vals.drop : ∀ {xs : List V} {us : List Value} (n : Nat), Vals xs us → Vals (xs.drop n) (us.drop n)
  | _, _, 0, r => r
  | _, _, _ + 1, .nil => .nil
  | _, _, n + 1, .cons _ t => Vals.drop n t
def RelO : Option V → Option Value → Prop
  | some v, some u => RelV v u
  | none, none => True
  | _, _ => False
def KV {κ : Type} : List (κ × V) → List (κ × Value) → Prop := Paired fun (p : κ × V) (q : κ × Value) => p.1 = q.1 ∧ RelV p.2 q.2
def kV : Key → V
  | .inl i => .int i
  | .inr x => .str x
inductive HO where
  | lst (xs : List V)
  | tup (xs : List V)
  | dK (kvs : List (Key × V)) | dT (kvs : List (List Key × V))
  | set (S : Int → Bool) (n : Nat)
  | ins (C dx : Addr) (fs : List (Str × V))
  | own (x : Addr)
  | xd (fs : List (Str × V))
  | met (f x : Addr)
  | rng (lo hi : Int)
  | frz (o : Obj) (u : HO)
  | tbl (ps : Array Value)
  | ext (φ : Heap → Prop)
abbrev Hp := Addr → Option HO
def upd (H : Hp) (a : Addr) (o : HO) : Hp := fun b => if b = a then some o else H b
theorem jA {H : Hp} {a : Addr} {o : HO} : upd H a o a = some o := by unfold upd; rw [if_pos rfl]
theorem jJ {H : Hp} {a b : Addr} {o : HO} (h : b ≠ a) : upd H a o b = H b := by unfold upd; rw [if_neg h]
theorem jbT {H : Hp} {a b : Addr} {o u : HO} (h : H a = some o) (h' : H b = some u) (d : o ≠ u) : a ≠ b := by
  intro e; subst e; rw [h] at h'; exact d (Option.some.inj h')
theorem qf {H : Hp} {a b : Addr} {o : HO} (h : H a = some o) (h' : H b = none) : a ≠ b := by
  intro e; subst e; rw [h] at h'; cases h'
section
variable (P : Program) (w : World)
def ObjOk (H : Hp) (h : Heap) (a : Addr) : HO → Prop
  | .lst xs => xs.length ≤ sizeLine ∧ ∃ (its : List Value) (n : Nat), Vals xs its ∧ h.get? a = some { cls := .type "list", data := .seq its.toArray n }
  | .tup xs => xs.length ≤ sizeLine ∧ ∃ its : List Value, Vals xs its ∧ IsTup h a its.toArray
  | .dK kvs => kvs.length ≤ sizeLine ∧ (a == sysModules) = false ∧ ∃ vs, KV kvs vs ∧ h.DictOf (jI P w) a vs
  | .dT kvs => kvs.length ≤ sizeLine ∧ (a == sysModules) = false ∧ ∃ xs : List (List Key × Addr × Value),
      Paired (fun (p : List Key × V) (q : List Key × Addr × Value) => p.1 = q.1 ∧ H q.2.1 = some (.tup (p.1.map kV)) ∧ RelV p.2 q.2.2) kvs xs ∧
      ∃ o es ep, h.get? a = some o ∧ o.ExactDict ∧ o.data = .dict es ep ∧ es.toList = xs.map (entryOfKey (tupleKind (jI P w))) ∧ (xs.map (·.1)).Nodup
  | .set S n => h.SetOf (intKind P w) a S n
  | .ins C dx fs => H dx = some (.own a) ∧ fs.length ≤ 1000 ∧ dx ≠ a ∧ h.get? a = some (PySem.W.instObj C dx) ∧
      ∃ mA, h.Ns1 dx mA ∧ (∀ f, RelO (fs.lookup f) (mA f)) ∧ PySem.Within mA (fs.map (·.1))
  | .own _ => ∃ o, h.get? a = some o
  | .xd fs => ∃ mA, h.Ns1 a mA ∧ ∀ f, RelO (fs.lookup f) (mA f)
  | .rng lo hi => ∃ t u v, h.get? a = some { cls := .type "range", data := .fields #[.int lo t, .int hi u, .int 1 v] }
  | .frz o u => h.get? a = some o ∧ ObjOk H h a u
  | .tbl ps => h.get? a = some { cls := .none, data := .fields ps }
  | .met f x => h.get? a = some (PySem.W.methodObj (.ref f) (.ref x))
  | .ext φ => φ h ∧ (∃ o, h.get? a = some o) ∧ ∀ h1 h2 : Heap, φ h1 → (∀ o, h1.get? a = some o → h2.get? a = some o) → φ h2
def HOk (H : Hp) (h : Heap) : Prop := ∀ a o, H a = some o → ObjOk P w H h a o
end
section
variable {P : Program} {w : World} {H H' : Hp} {h h' : Heap} {a : Addr} {o : HO}
theorem ObjOk.lt (x : ObjOk P w H h a o) : a < h.objs.size := by
  cases o with
  | lst xs => obtain ⟨_, _, _, _, e⟩ := x; exact Heap.lt_size e
  | tup xs => obtain ⟨_, _, _, p⟩ := x; exact p.lt
  | dK kvs => obtain ⟨_, _, _, _, o, _, _, e, _⟩ := x; exact Heap.lt_size e
  | dT kvs => obtain ⟨_, _, _, _, o, _, _, e, _⟩ := x; exact Heap.lt_size e
  | set S n => obtain ⟨o, _, _, _, e, _⟩ := x; exact Heap.lt_size e
  | ins C dx fs => obtain ⟨_, _, _, e, _⟩ := x; exact Heap.lt_size e
  | own y => obtain ⟨_, e⟩ := x; exact Heap.lt_size e
  | xd fs => obtain ⟨_, ⟨_, _, _, e, _⟩, _⟩ := x; exact Heap.lt_size e
  | rng lo hi => obtain ⟨_, _, _, e⟩ := x; exact Heap.lt_size e
  | frz ob u => obtain ⟨e, _⟩ := x; exact Heap.lt_size e
  | tbl ps => exact Heap.lt_size (show h.get? a = some _ from x)
  | met f y => exact Heap.lt_size (show h.get? a = some _ from x)
  | ext φ => obtain ⟨_, ⟨_, e⟩, _⟩ := x; exact Heap.lt_size e
theorem Paired.mapP {α β : Type} {F G : α → β → Prop} : ∀ {l₁ : List α} {l₂ : List β}, Paired F l₁ l₂ → (∀ a b, F a b → G a b) → Paired G l₁ l₂
  | _, _, .nil, _ => .nil
  | _, _, .cons r t, f => .cons (f _ _ r) (Paired.mapP t f)
theorem ObjOk.stay (x : ObjOk P w H h a o) (k : ∀ b u, (b = a ∨ H b = some (.own a)) → h.get? b = some u → h'.get? b = some u)
    (ho : ∀ b, H b = some (.own a) → H' b = some (.own a)) (ht : ∀ b xs, H b = some (.tup xs) → H' b = some (.tup xs)) : ObjOk P w H' h' a o := by
  induction o with
  | lst xs => obtain ⟨z, its, n, r, e⟩ := x; exact ⟨z, its, n, r, k _ _ (.inl rfl) e⟩
  | tup xs => obtain ⟨z, its, r, ob, e, c⟩ := x; exact ⟨z, its, r, ob, k _ _ (.inl rfl) e, c⟩
  | dK kvs => obtain ⟨z, y, vs, r, ob, es, ep, e, c⟩ := x; exact ⟨z, y, vs, r, ob, es, ep, k _ _ (.inl rfl) e, c⟩
  | dT kvs =>
    obtain ⟨z, y, xs, r, ob, es, ep, e, c⟩ := x
    exact ⟨z, y, xs, Paired.mapP r fun p q z => ⟨z.1, ht _ _ z.2.1, z.2.2⟩, ob, es, ep, k _ _ (.inl rfl) e, c⟩
  | set S n => obtain ⟨ob, es, ep, t, e, c⟩ := x; exact ⟨ob, es, ep, t, k _ _ (.inl rfl) e, c⟩
  | ins C dx fs =>
    obtain ⟨d, z, ne, e, mA, ⟨od, es, ep, e2, c⟩, r⟩ := x
    exact ⟨ho _ d, z, ne, k _ _ (.inl rfl) e, mA, ⟨od, es, ep, k _ _ (.inr d) e2, c⟩, r⟩
  | own y => obtain ⟨ob, e⟩ := x; exact ⟨ob, k _ _ (.inl rfl) e⟩
  | xd fs => obtain ⟨mA, ⟨od, es, ep, e, c⟩, r⟩ := x; exact ⟨mA, ⟨od, es, ep, k _ _ (.inl rfl) e, c⟩, r⟩
  | rng lo hi => obtain ⟨t, u, v, e⟩ := x; exact ⟨t, u, v, k _ _ (.inl rfl) e⟩
  | frz ob u ih => obtain ⟨e, q⟩ := x; exact ⟨k _ _ (.inl rfl) e, ih q⟩
  | tbl ps =>
    have e : h.get? a = some { cls := .none, data := .fields ps } := x
    show h'.get? a = some { cls := .none, data := .fields ps }
    exact k a _ (.inl rfl) e
  | met f y =>
    have e : h.get? a = some (PySem.W.methodObj (.ref f) (.ref y)) := x
    show h'.get? a = some (PySem.W.methodObj (.ref f) (.ref y))
    exact k a _ (.inl rfl) e
  | ext φ => obtain ⟨p, ⟨o, e⟩, st⟩ := x; exact ⟨st _ _ p fun o q => k _ _ (.inl rfl) q, ⟨o, k _ _ (.inl rfl) e⟩, st⟩
theorem HOk.lt (x : HOk P w H h) (e : H a = some o) : a < h.objs.size := (x a o e).lt
theorem HOk.fresh (x : HOk P w H h) (e : h.objs.size ≤ a) : H a = none := by
  cases q : H a with
  | none => rfl
  | some u => exact absurd (Nat.lt_of_lt_of_le (x.lt q) e) (Nat.lt_irrefl _)
theorem HOk.kept (x : HOk P w H h) (k : ∀ b u, h.get? b = some u → h'.get? b = some u) : HOk P w H h' := fun a o e =>
  (x a o e).stay (fun b u _ q => k b u q) (fun _ q => q) fun _ _ q => q
theorem HOk.laid (x : HOk P w H h) (k : ∀ b u, h.get? b = some u → h'.get? b = some u) (hp : h.objs.size ≤ a) (new : ObjOk P w (upd H a o) h' a o) : HOk P w (upd H a o) h' := fun b u e => by
  have hn := x.fresh hp
  by_cases hb : b = a
  · subst hb; rw [jA] at e; cases e; exact new
  · rw [jJ hb] at e
    exact (x b u e).stay (fun c v _ q => k c v q) (fun c q => by rw [jJ (qf q hn)]; exact q) fun c xs q => by rw [jJ (qf q hn)]; exact q
end
def Rd (H : Hp) (a : Addr) (u : HO) : Prop := H a = some u ∨ ∃ o, H a = some (.frz o u)
theorem Rd.of {H : Hp} {a : Addr} {u : HO} (h : H a = some u) : Rd H a u := .inl h
theorem Rd.ok {P : Program} {w : World} {H : Hp} {h : Heap} {a : Addr} {u : HO} (r : Rd H a u) (x : HOk P w H h) : ObjOk P w H h a u := by
  rcases r with r | ⟨o, r⟩
  · exact x a u r
  · obtain ⟨_, q⟩ := x a _ r
    exact q
def Mut : Option HO → Prop
  | some (.lst _) => True
  | some (.dK _) => True
  | some (.dT _) => True
  | some (.set _ _) => True
  | some (.ins _ _ _) => True
  | some (.ext _) => True
  | _ => False
section
variable {P : Program} {w : World} {H : Hp} {h h' : Heap} {x e : Addr} {o' : HO}
theorem HOk.write (ok : HOk P w H h) (mu : Mut (H x)) (he : e = x ∨ H e = some (.own x)) (k : ∀ b u, b ≠ e → h.get? b = some u → h'.get? b = some u) (heo : ∃ u, h'.get? e = some u)
    (new : ObjOk P w (upd H x o') h' x o') : HOk P w (upd H x o') h' := fun b u q => by
  have nown : ∀ c y, H c = some (.own y) → c ≠ x := fun c y r z => by subst z; rw [r] at mu; exact mu
  have ntup : ∀ c xs, H c = some (.tup xs) → c ≠ x := fun c xs r z => by subst z; rw [r] at mu; exact mu
  by_cases hb : b = x
  · subst hb; rw [jA] at q; cases q; exact new
  · rw [jJ hb] at q
    by_cases hbe : b = e
    · have q' : H b = some (.own x) := by
        rcases he with z | z
        · exact absurd (hbe.trans z) hb
        · rw [hbe]; exact z
      rw [q] at q'; cases q'
      obtain ⟨v, hv⟩ := heo
      exact ⟨v, by rw [hbe]; exact hv⟩
    · refine (ok b u q).stay (fun c v hc r => k c v ?_ r) (fun c r => by rw [jJ (nown c b r)]; exact r) fun c xs r => by rw [jJ (ntup c xs r)]; exact r
      rcases hc with rfl | hc
      · exact hbe
      · rintro rfl
        rcases he with z | z
        · exact nown c b hc z
        · rw [hc] at z; cases z; exact hb rfl
end
structure Un (fs ex : List Addr) (H H' : Hp) (h h' : Heap) : Prop where
  keep : ∀ b o, h.get? b = some o → H b = none → b ∉ fs → b ∉ ex → h'.get? b = some o
  slot : ∀ b o, h.get? b = some o → H b = none → b ∈ fs → b ∉ ex → ∃ sl, h'.get? b = some { o with slots := sl }
  free : ∀ b o, h.get? b = some o → H b = none → b ∉ ex → H' b = none
  there : ∀ b o, h.get? b = some o → b ∉ ex → ∃ o', h'.get? b = some o'
  tups : ∀ b xs, H b = some (.tup xs) → H' b = some (.tup xs)
  frzs : ∀ b o u, H b = some (.frz o u) → H' b = some (.frz o u)
  tbls : ∀ b ps, H b = some (.tbl ps) → ∃ more, H' b = some (.tbl (ps ++ more))
section
variable {fs fs' ex ex' : List Addr} {H H1 H2 : Hp} {h h1 h2 h' : Heap} {a x e : Addr} {o : HO}
theorem Un.any (u : Un fs ex H H1 h h1) {b : Addr} {ob : Obj} (q : h.get? b = some ob) (n : H b = none) (hx : b ∉ ex) : ∃ sl, h1.get? b = some { ob with slots := sl } := by
  by_cases hb : b ∈ fs
  · exact u.slot b ob q n hb hx
  · exact ⟨ob.slots, u.keep b ob q n hb hx⟩
theorem Un.kept (k : ∀ b u, h.get? b = some u → h'.get? b = some u) : Un fs ex H H h h' :=
  ⟨fun b ob q _ _ _ => k b ob q, fun b ob q _ _ _ => ⟨ob.slots, k b ob q⟩, fun _ _ _ n _ => n, fun b ob q _ => ⟨ob, k b ob q⟩, fun _ _ q => q, fun _ _ _ q => q, fun _ ps q => ⟨#[], by rw [q]; simp⟩⟩
theorem Un.refl : Un fs ex H H h h := Un.kept fun _ _ q => q
theorem Un.laid (k : ∀ b u, h.get? b = some u → h'.get? b = some u) (hp : h.objs.size ≤ a) (hn : H a = none) : Un fs ex H (upd H a o) h h' where
  keep := fun b u q _ _ _ => k b u q
  slot := fun b u q _ _ _ => ⟨u.slots, k b u q⟩
  free := fun b u q n _ => by rw [jJ (Nat.ne_of_lt (Nat.lt_of_lt_of_le (Heap.lt_size q) hp))]; exact n
  there := fun b u q _ => ⟨u, k b u q⟩
  tups := fun b xs q => by rw [jJ (qf q hn)]; exact q
  frzs := fun b u xs q => by rw [jJ (qf q hn)]; exact q
  tbls := fun b ps q => ⟨#[], by rw [jJ (qf q hn), q]; simp⟩
theorem Un.write (mu : Mut (H x)) (he : e = x ∨ H e = some (.own x)) (k : ∀ b u, b ≠ e → h.get? b = some u → h'.get? b = some u) (heo : ∃ u, h'.get? e = some u) : Un fs ex H (upd H x o) h h' := by
  have hx : ∀ b, H b = none → b ≠ x := fun b n z => by subst z; rw [n] at mu; exact mu
  have hb : ∀ b, H b = none → b ≠ e := fun b n z => by
    subst z
    rcases he with r | r
    · exact hx b n r
    · rw [n] at r; cases r
  have hm : ∀ b u, H b = some u → ¬ Mut (some u) → b ≠ x := fun b u q nm z => by subst z; rw [q] at mu; exact nm mu
  refine ⟨fun b u q n _ _ => k b u (hb b n) q, fun b u q n _ _ => ⟨u.slots, k b u (hb b n) q⟩, fun b u q n _ => by rw [jJ (hx b n)]; exact n, fun b u q _ => ?_,
    fun b xs q => by rw [jJ (hm b _ q fun z => z)]; exact q, fun b u xs q => by rw [jJ (hm b _ q fun z => z)]; exact q, fun b ps q => ⟨#[], by rw [jJ (hm b _ q fun z => z), q]; simp⟩⟩
  by_cases hbe : b = e
  · subst hbe; exact heo
  · exact ⟨u, k b u hbe q⟩
end
def trk (h : Heap) (H : Hp) : List Addr := (List.range h.objs.size).filter fun a => (H a).isSome
def hidT (h : Heap) (H : Hp) : Heap := PySem.W.hideAll h (trk h H)
theorem K4 (h : Heap) (H : Hp) : (hidT h H).objs.size = h.objs.size := PySem.W.hideAll_size _ _
theorem UM {h : Heap} {H : Hp} {b : Addr} {o : Obj} (e : h.get? b = some o) (n : H b = none) : (hidT h H).get? b = some o :=
  PySem.W.hideAll_get _ e fun hm => by
    have q : (H b).isSome = true := (List.mem_filter.mp hm).2
    rw [n] at q; simp at q
theorem ug {h : Heap} {H : Hp} {b : Addr} {o : Obj} (e : (hidT h H).get? b = some o) : h.get? b = some o ∧ H b = none := by
  have e' : h.get? b = some o := PySem.W.of_hideAll (trk h H) e
  refine ⟨e', ?_⟩
  cases q : H b with
  | none => rfl
  | some x =>
    have hm : b ∈ trk h H := List.mem_filter.mpr ⟨List.mem_range.mpr (Heap.lt_size e'), by simp [q]⟩
    have z : (hidT h H).get? b = none := PySem.W.hideAll_none (trk h H) hm
    rw [z] at e; cases e
def u5 (g h : Heap) (L : Addr) : List (Addr × Obj) := (List.range h.objs.size).filterMap fun a => if a = L ∨ (g.get? a).isSome = true then none else (h.get? a).map fun o => (a, o)
def rest (g h : Heap) (L d : Addr) : List (Addr × Obj) := (u5 g h L).filter fun p => decide (p.1 ≠ d)
end L2
namespace L2
open PySem PySem.Spec PyProof.Rows
structure Mod (K : PySem.W.Frag) (mg : Str → Option Value) (base : Heap) : Prop where
  kin : K.In base
  glob : base.Ns mainGlobals mg
  blt : ∃ mb, base.Ns builtinsNs mb ∧ ∀ x : Str, x ≠ "__name__" → mb x = bootBuiltins x
  nolimit : base.NoLimit
structure Cx where
  prog : Program
  w : World
  K : PySem.W.Frag
  mg : Str → Option Value
  base : Heap
  A : Around
  N : List Str
  s₀ : Shared
  H₀ : Hp
  env : Env
  outer : List Env
  stack : List Env
  ex : List Addr
  fn : Str → Bool
  calm : Bool
  pn : List (Addr × Obj)
  xe : Value → Shared → Prop
def frs (l : List Env) : List Addr := l.filterMap (·.frame)
abbrev Cx.fs (X : Cx) : List Addr := frs X.outer
def Vis (sc : Scope) (x : Str) : Prop := sc.names.lookup x = some .local ∨ sc.names.lookup x = some .cell ∨ sc.names.lookup x = some .free
def Loc (sc : Scope) (x : Str) : Prop := sc.names.lookup x = some .local ∨ sc.names.lookup x = some .cell
def Look (env : Env) (h : Heap) (m : Str → Option Value) (x : Str) (u : Value) : Prop :=
  (env.kindOf x = some .local ∧ m x = some u) ∨ ((env.kindOf x = some .cell ∨ env.kindOf x = some .free) ∧ ∃ c, env.cells.lookup x = some c ∧ h.IsCell c (some u))
structure Cx.Ok (X : Cx) : Prop where
  mod : Mod X.K X.mg X.base
  kind : X.env.scope.kind = .function
  glob : X.env.globals = mainGlobals
  blt : X.env.builtins = builtinsNs
  above : X.s₀.heap.objs.size ≤ X.env.locals
  inj : ∀ x y c, X.env.cells.lookup x = some c → X.env.cells.lookup y = some c → x = y
  has : ∀ x, (X.env.kindOf x = some .cell ∨ X.env.kindOf x = some .free) → ∃ c, X.env.cells.lookup x = some c
  cab : ∀ x c, X.fn x = true → X.env.cells.lookup x = some c → X.s₀.heap.objs.size ≤ c
  hd : X.calm = true → X.A.handled = none
  frames : X.A.frames = some X.stack
  stk : X.stack = X.outer ∨ (X.stack = X.env :: X.outer ∧ X.env.frame = some X.env.locals)
  exf : ∀ b ∈ X.ex, b ≠ X.env.locals ∧ ∀ x c, X.env.cells.lookup x = some c → c ≠ b
  bs : ∀ b o, X.base.get? b = some o → X.s₀.heap.get? b = some o ∧ X.H₀ b = none
  bsz : X.base.objs.size ≤ X.s₀.heap.objs.size
  noex : ∀ b o, X.base.get? b = some o → b ∉ X.ex
  exfs : ∀ b ∈ X.ex, b ∉ X.fs
  funs : X.s₀.heap.FunFrames X.base X.outer
  frf : ∀ b ∈ X.fs, X.H₀ b = none
structure Inv (X : Cx) (pins : List (Addr × Obj)) (σ : List (Option V)) (H : Hp) (s : Shared) : Prop where
  ok : X.Ok
  os : s.os = X.s₀.os
  bare : AllBare s.gens
  base : Un X.fs X.ex X.H₀ H X.s₀.heap s.heap
  loc : ∃ m, s.heap.Ns X.env.locals m ∧ ∀ (i : Nat) (x : Str) (v : V), X.N[i]? = some x → σ[i]? = some (some v) → Vis X.env.scope x → ∃ u, RelV v u ∧ Look X.env s.heap m x u
  cell : ∀ x c, X.env.cells.lookup x = some c → ∃ v, s.heap.IsCell c v
  free : H X.env.locals = none
  freeC : ∀ x c, X.env.cells.lookup x = some c → H c = none
  pin : ∀ p ∈ X.pn ++ pins, s.heap.get? p.1 = some p.2 ∧ H p.1 = none ∧ p.1 ≠ X.env.locals ∧ p.1 ∉ X.fs ∧ ∀ v, p.2.data ≠ .cell v
  hok : HOk X.prog X.w H s.heap
  len : σ.length = X.N.length
section
variable {X : Cx} {pins : List (Addr × Obj)} {σ : List (Option V)} {H H' : Hp} {s : Shared} {h' : Heap}
theorem Cx.Ok.nofr (ok : X.Ok) {b : Addr} {o : Obj} (e : X.base.get? b = some o) : b ∉ X.fs := fun hb => by
  have := (ok.funs.mem hb).1
  rw [e] at this; cases this
theorem Inv.bs (I : Inv X pins σ H s) : ∀ b o, X.base.get? b = some o → s.heap.get? b = some o ∧ H b = none := fun b o e =>
  ⟨I.base.keep b o (I.ok.bs b o e).1 (I.ok.bs b o e).2 (I.ok.nofr e) (I.ok.noex b o e), I.base.free b o (I.ok.bs b o e).1 (I.ok.bs b o e).2 (I.ok.noex b o e)⟩
theorem Inv.bk (I : Inv X pins σ H s) : ∀ b o, X.base.get? b = some o → s.heap.get? b = some o := fun b o e => (I.bs b o e).1
theorem Inv.mod (I : Inv X pins σ H s) : Mod X.K X.mg X.base := I.ok.mod
theorem Inv.kIn (I : Inv X pins σ H s) : X.K.In s.heap := I.ok.mod.kin.keeps I.bk
theorem Inv.lt (I : Inv X pins σ H s) : X.env.locals < s.heap.objs.size := let ⟨_, hn, _⟩ := I.loc; hn.lt
theorem Inv.sz (I : Inv X pins σ H s) : X.s₀.heap.objs.size ≤ s.heap.objs.size := Nat.le_trans I.ok.above (Nat.le_of_lt I.lt)
theorem Inv.nofs (I : Inv X pins σ H s) {a : Addr} (h : s.heap.objs.size ≤ a) : a ∉ X.fs := fun hb => by
  obtain ⟨_, o, ho, _⟩ := I.ok.funs.mem hb
  exact absurd (Nat.lt_of_lt_of_le (Heap.lt_size ho) (Nat.le_trans I.sz h)) (Nat.lt_irrefl _)
theorem Inv.cne (I : Inv X pins σ H s) : ∀ x c, X.env.cells.lookup x = some c → c ≠ X.env.locals := fun x c e z => by
  obtain ⟨v, o, ho, hd⟩ := I.cell x c e
  obtain ⟨m, ⟨o', es, ep, ho', hd', _⟩, _⟩ := I.loc
  rw [z, ho'] at ho; cases ho; rw [hd'] at hd; cases hd
theorem Inv.funs (I : Inv X pins σ H s) : s.heap.FunFrames X.base X.outer := by
  have all : ∀ (l : List Env), (∀ b ∈ frs l, b ∈ X.fs) → X.s₀.heap.FunFrames X.base l → s.heap.FunFrames X.base l := by
    intro l
    induction l with
    | nil => intro _ _; trivial
    | cons env r ih =>
      intro hs hl
      obtain ⟨hk, ⟨L, o, hf, hn, ho, hd⟩, hr⟩ := hl
      have hL : L ∈ X.fs := hs L (by unfold frs; rw [List.filterMap_cons, hf]; exact List.mem_cons_self)
      obtain ⟨sl, e⟩ := I.base.slot L o ho (I.ok.frf L hL) hL fun z => I.ok.exfs L z hL
      exact ⟨hk, ⟨L, _, hf, hn, e, hd⟩, ih (fun b hb => hs b (by unfold frs; rw [List.filterMap_cons, hf]; exact List.mem_cons_of_mem _ hb)) hr⟩
  exact all X.outer (fun _ hb => hb) I.ok.funs
theorem Inv.stack (I : Inv X pins σ H s) : s.heap.FunFrames X.base X.stack := by
  rcases I.ok.stk with e | ⟨e, hf⟩
  · rw [e]; exact I.funs
  · rw [e]
    obtain ⟨m, hn, _⟩ := I.loc
    refine .cons (by rw [I.ok.kind]; decide) hf hn ?_ I.funs
    exact Heap.get?_none_of_le (Nat.le_trans I.ok.bsz I.ok.above)
theorem Inv.stkSub (I : Inv X pins σ H s) : ∀ b ∈ frs X.stack, b ∈ X.env.locals :: X.fs := fun b hb => by
  rcases I.ok.stk with e | ⟨e, hf⟩
  · rw [e] at hb; exact List.mem_cons_of_mem _ hb
  · rw [e] at hb
    unfold frs at hb
    rw [List.filterMap_cons, hf] at hb
    exact hb
theorem Inv.stkFree (I : Inv X pins σ H s) : ∀ b ∈ frs X.stack, H b = none := fun b hb => by
  rcases List.mem_cons.mp (I.stkSub b hb) with e | hb
  · rw [e]; exact I.free
  · obtain ⟨_, o, ho, _⟩ := I.ok.funs.mem hb
    exact I.base.free b o ho (I.ok.frf b hb) fun z => I.ok.exfs b z hb
theorem Inv.step {g' : Array GenState} {t' : Nat} {d' : Drawn} {ch : List Addr} (I : Inv X pins σ H s)
    (hch : ∀ b ∈ ch, (b ∈ X.ex ∨ X.s₀.heap.objs.size ≤ b) ∧ b ≠ X.env.locals ∧ (∀ x c, X.env.cells.lookup x = some c → c ≠ b) ∧ ∀ p ∈ X.pn ++ pins, p.1 ≠ b)
    (keep : ∀ b o, b ≠ X.env.locals → b ∉ X.fs → b ∉ ch → s.heap.get? b = some o → H b = none → h'.get? b = some o)
    (slot : ∀ b o, b ≠ X.env.locals → b ∈ X.fs → b ∉ ch → s.heap.get? b = some o → H b = none → ∃ sl, h'.get? b = some { o with slots := sl }) (free : ∀ b o, b ∉ ch → s.heap.get? b = some o → H b = none → H' b = none)
    (there : ∀ b o, b ∉ ch → s.heap.get? b = some o → ∃ o', h'.get? b = some o')
    (tups : ∀ b xs, H b = some (.tup xs) → H' b = some (.tup xs)) (frzs : ∀ b o u, H b = some (.frz o u) → H' b = some (.frz o u)) (tbls : ∀ b ps, H b = some (.tbl ps) → ∃ more, H' b = some (.tbl (ps ++ more)))
    (ns : ∀ m, s.heap.Ns X.env.locals m → h'.Ns X.env.locals m) (hok : HOk X.prog X.w H' h') (hg : AllBare g') :
    Inv X pins σ H' { s with heap := h', gens := g', drawn := d', toks := t' } := by
  have neL : ∀ b o, X.s₀.heap.get? b = some o → b ≠ X.env.locals := fun b o e => Nat.ne_of_lt (Nat.lt_of_lt_of_le (Heap.lt_size e) I.ok.above)
  have neC : ∀ b o, X.s₀.heap.get? b = some o → b ∉ X.ex → b ∉ ch := fun b o e hx hb => by
    rcases (hch b hb).1 with z | z
    · exact hx z
    · exact absurd (Nat.lt_of_lt_of_le (Heap.lt_size e) z) (Nat.lt_irrefl _)
  have cellK : ∀ x c, X.env.cells.lookup x = some c → ∀ v, s.heap.IsCell c v → h'.IsCell c v := fun x c e v ⟨o, ho, hd⟩ => by
    have nch : c ∉ ch := fun z => (hch c z).2.2.1 x c e rfl
    by_cases hc : c ∈ X.fs
    · obtain ⟨sl, q⟩ := slot c o (I.cne x c e) hc nch ho (I.freeC x c e)
      exact ⟨_, q, hd⟩
    · exact ⟨o, keep c o (I.cne x c e) hc nch ho (I.freeC x c e), hd⟩
  refine ⟨I.ok, I.os, hg, ⟨fun b o e n hb hx => ?_, fun b o e n hb hx => ?_, fun b o e n hx => ?_, fun b o e hx => ?_, fun b xs e => tups b xs (I.base.tups b xs e), fun b o xs e => frzs b o xs (I.base.frzs b o xs e), fun b ps e => ?_⟩, ?_, fun x c e => ?_, ?_, fun x c e => ?_, fun p hp => ?_, hok, I.len⟩
  · exact keep b o (neL b o e) hb (neC b o e hx) (I.base.keep b o e n hb hx) (I.base.free b o e n hx)
  · obtain ⟨sl, e1⟩ := I.base.slot b o e n hb hx
    obtain ⟨sl', e2⟩ := slot b _ (neL b o e) hb (neC b o e hx) e1 (I.base.free b o e n hx)
    exact ⟨sl', e2⟩
  · obtain ⟨o', e1⟩ := I.base.there b o e hx
    exact free b o' (neC b o e hx) e1 (I.base.free b o e n hx)
  · obtain ⟨o', e1⟩ := I.base.there b o e hx
    exact there b o' (neC b o e hx) e1
  · obtain ⟨m1, e1⟩ := I.base.tbls b ps e
    obtain ⟨m2, e2⟩ := tbls b _ e1
    exact ⟨m1 ++ m2, by rw [e2, Array.append_assoc]⟩
  · obtain ⟨m, hn, hl⟩ := I.loc
    refine ⟨m, ns m hn, fun i x v e1 e2 e3 => ?_⟩
    obtain ⟨u, r, l⟩ := hl i x v e1 e2 e3
    refine ⟨u, r, ?_⟩
    rcases l with l | ⟨k, c, e, z⟩
    · exact .inl l
    · exact .inr ⟨k, c, e, cellK x c e _ z⟩
  · obtain ⟨v, z⟩ := I.cell x c e
    exact ⟨v, cellK x c e v z⟩
  · obtain ⟨m, ⟨o, _, _, ho, _⟩, _⟩ := I.loc
    exact free _ o (fun z => (hch _ z).2.1 rfl) ho I.free
  · obtain ⟨v, o, ho, hd⟩ := I.cell x c e
    exact free c o (fun z => (hch c z).2.2.1 x c e rfl) ho (I.freeC x c e)
  · obtain ⟨e, n, ne, nf, d⟩ := I.pin p hp
    have nch : p.1 ∉ ch := fun z => (hch p.1 z).2.2.2 p hp rfl
    exact ⟨keep p.1 p.2 ne nf nch e n, free p.1 p.2 nch e n, ne, nf, d⟩
theorem Inv.un {t' : Nat} (I : Inv X pins σ H s) (u : Un X.fs [] H H' s.heap h') (hok : HOk X.prog X.w H' h') : Inv X pins σ H' { s with heap := h', toks := t' } := by
  obtain ⟨m, ⟨o, es, ep, ho, r⟩, _⟩ := id I.loc
  obtain ⟨sl, hL⟩ := u.any ho I.free (by simp)
  exact I.step (g' := s.gens) (d' := s.drawn) (ch := []) (fun _ z => nomatch z) (fun b o _ hb _ e n => u.keep b o e n hb (by simp)) (fun b o _ hb _ e n => u.slot b o e n hb (by simp)) (fun b o _ e n => u.free b o e n (by simp)) (fun b o _ e => u.there b o e (by simp)) u.tups u.frzs u.tbls (fun m' hm => by
    obtain ⟨o', es', ep', ho', r'⟩ := hm
    rw [ho] at ho'; cases ho'
    exact ⟨_, es', ep', hL, r'⟩) hok I.bare
theorem Inv.call {g' : Array GenState} {t' : Nat} {d' : Drawn} {ch : List Addr} (I : Inv X pins σ H s) (u : Un (frs X.stack) ch H H' s.heap h') (hok : HOk X.prog X.w H' h') (hg : AllBare g')
    (hch : ∀ b ∈ ch, (b ∈ X.ex ∨ X.s₀.heap.objs.size ≤ b) ∧ b ≠ X.env.locals ∧ (∀ x c, X.env.cells.lookup x = some c → c ≠ b) ∧ ∀ p ∈ X.pn ++ pins, p.1 ≠ b) :
    Inv X pins σ H' { s with heap := h', gens := g', drawn := d', toks := t' } := by
  obtain ⟨m, ⟨o, es, ep, ho, r⟩, _⟩ := id I.loc
  obtain ⟨sl, hL⟩ := u.any ho I.free fun z => (hch _ z).2.1 rfl
  exact I.step (ch := ch) hch (fun b o hL hb hc e n => u.keep b o e n (fun z => (List.mem_cons.mp (I.stkSub b z)).elim hL hb) hc) (fun b o _ _ hc e n => u.any e n hc) (fun b o hc e n => u.free b o e n hc) (fun b o hc e => u.there b o e hc) u.tups u.frzs u.tbls (fun m' hm => by
    obtain ⟨o', es', ep', ho', r'⟩ := hm
    rw [ho] at ho'; cases ho'
    exact ⟨_, es', ep', hL, r'⟩) hok hg
theorem Inv.turned {t' : Nat} {it : Addr} (I : Inv X pins σ H s) (k : ∀ b o, b ≠ it → s.heap.get? b = some o → h'.get? b = some o) (hn : H it = none) (hL : it ≠ X.env.locals)
    (h1 : it ∈ X.ex ∨ X.s₀.heap.objs.size ≤ it) (h2 : ∀ x c, X.env.cells.lookup x = some c → c ≠ it) (h3 : ∀ p ∈ X.pn ++ pins, p.1 ≠ it) : Inv X pins σ H { s with heap := h', toks := t' } := by
  have nit : ∀ b u, H b = some u → b ≠ it := fun b u e z => by rw [z, hn] at e; cases e
  refine I.step (g' := s.gens) (d' := s.drawn) (ch := [it]) (fun b hb => ?_) (fun b o _ _ hc e _ => k b o (fun z => hc (by simp [z])) e) (fun b o _ _ hc e _ => ⟨o.slots, k b o (fun z => hc (by simp [z])) e⟩) (fun _ _ _ _ n => n)
    (fun b o hc e => ⟨o, k b o (fun z => hc (by simp [z])) e⟩) (fun _ _ e => e) (fun _ _ _ e => e) (fun b ps e => ⟨#[], by rw [e]; simp⟩) (fun m hm => ?_) (fun b u e => ?_) I.bare
  · have e : b = it := by simpa using hb
    subst e
    exact ⟨h1, hL, h2, h3⟩
  · obtain ⟨o, es, ep, ho, r⟩ := hm
    exact ⟨o, es, ep, k _ o (Ne.symm hL) ho, r⟩
  · refine (I.hok b u e).stay (fun c v hc q => k c v ?_ q) (fun _ q => q) fun _ _ q => q
    rcases hc with z | z
    · rw [z]; exact nit b u e
    · exact nit c _ z
theorem Inv.tok (I : Inv X pins σ H s) (t : Nat) : Inv X pins σ H { s with toks := t } := I.un (h' := s.heap) (t' := t) Un.refl I.hok
theorem Inv.kept {t' : Nat} (I : Inv X pins σ H s) (k : ∀ b u, s.heap.get? b = some u → h'.get? b = some u) : Inv X pins σ H { s with heap := h', toks := t' } := I.un (Un.kept k) (I.hok.kept k)
theorem Inv.laid {a : Addr} {o : HO} {t' : Nat} (I : Inv X pins σ H s) (k : ∀ b u, s.heap.get? b = some u → h'.get? b = some u) (hp : s.heap.objs.size ≤ a) (new : ObjOk X.prog X.w (upd H a o) h' a o) :
    Inv X pins σ (upd H a o) { s with heap := h', toks := t' } := I.un (Un.laid k hp (I.hok.fresh hp)) (I.hok.laid k hp new)
theorem Inv.write {x e : Addr} {o : HO} {t' : Nat} (I : Inv X pins σ H s) (mu : Mut (H x)) (he : e = x ∨ H e = some (.own x)) (k : ∀ b u, b ≠ e → s.heap.get? b = some u → h'.get? b = some u) (heo : ∃ u, h'.get? e = some u)
    (new : ObjOk X.prog X.w (upd H x o) h' x o) : Inv X pins σ (upd H x o) { s with heap := h', toks := t' } := I.un (Un.write mu he k heo) (I.hok.write mu he k heo new)
theorem Inv.pins_of {pins' : List (Addr × Obj)} (I : Inv X pins σ H s) (h : ∀ p ∈ pins', s.heap.get? p.1 = some p.2 ∧ H p.1 = none ∧ p.1 ≠ X.env.locals ∧ p.1 ∉ X.fs ∧ ∀ v, p.2.data ≠ .cell v) : Inv X pins' σ H s :=
  ⟨I.ok, I.os, I.bare, I.base, I.loc, I.cell, I.free, I.freeC, fun p hp => (List.mem_append.mp hp).elim (fun z => I.pin p (List.mem_append_left _ z)) (h p), I.hok, I.len⟩
theorem W0 {N : List Str} (hN : N.Nodup) {i j : Nat} {x : Str} (a : N[i]? = some x) (b : N[j]? = some x) : i = j := by
  obtain ⟨h1, e1⟩ := List.getElem?_eq_some_iff.mp a
  obtain ⟨h2, e2⟩ := List.getElem?_eq_some_iff.mp b
  exact (List.getElem_inj hN).mp (e1.trans e2.symm)
theorem QO {M : Model} {A : Around} {E : Value → Shared → Prop} {i : Nat} {x : Str} {v : V} {u : Value} {Q : Unit → Shared → Prop} (I : Inv X pins σ H s) (hN : X.N.Nodup) (hi : X.N[i]? = some x) (hx : Loc X.env.scope x) (r : RelV v u)
    (h : ∀ s', Inv X pins (σ.set i (some v)) H s' → (∃ a, Heap.SameBut a s.heap s'.heap ∧ (a = X.env.locals ∨ X.env.cells.lookup x = some a)) → Q () s') (hf : X.fn x = true ∨ X.env.scope.names.lookup x = some .local := by first | exact .inl rfl | exact .inr rfl | assumption) : wpAny M A (storeName X.env x u) Q E s := by
  obtain ⟨m, hn, hl⟩ := id I.loc
  have hcls : (X.env.scope.kind == .class || (X.env.scope.kind == .module && X.env.locals != X.env.globals)) = false := by rw [I.ok.kind]; rfl
  have hiσ : i < σ.length := by rw [I.len]; exact (List.getElem?_eq_some_iff.mp hi).1
  have cne := I.cne
  have tracked : ∀ {a : Addr} {h' : Heap}, (∃ o, s.heap.get? a = some o ∧ H a = none) → Heap.SameBut a s.heap h' → HOk X.prog X.w H h' := fun {a h'} ha hs b ob e => by
    obtain ⟨_, _, hfree⟩ := ha
    refine (I.hok b ob e).stay (fun c w' hc q => (hs.2 c ?_).trans q) (fun _ q => q) fun _ _ q => q
    rintro rfl
    rcases hc with rfl | hc
    · rw [hfree] at e; cases e
    · rw [hfree] at hc; cases hc
  rcases hx with hk | hk
  · refine wpAny_storeName_local hk hn (fun h' hn' hs => ?_) hcls
    obtain ⟨oL, _, _, hoL, _⟩ := id hn
    refine h _ ⟨I.ok, I.os, I.bare, ⟨fun b o e n hb hx => ?_, fun b o e n hb hx => ?_, I.base.free, fun b o e hx => ?_, I.base.tups, I.base.frzs, I.base.tbls⟩, ⟨_, hn', fun j y v' e1 e2 e3 => ?_⟩, fun y c e => ?_, I.free, I.freeC, fun p hp => ?_, tracked ⟨oL, hoL, I.free⟩ hs, by simpa using I.len⟩ ⟨_, hs, .inl rfl⟩
    · exact (hs.2 b (Nat.ne_of_lt (Nat.lt_of_lt_of_le (Heap.lt_size e) I.ok.above))).trans (I.base.keep b o e n hb hx)
    · obtain ⟨sl, e1⟩ := I.base.slot b o e n hb hx
      exact ⟨sl, (hs.2 b (Nat.ne_of_lt (Nat.lt_of_lt_of_le (Heap.lt_size e) I.ok.above))).trans e1⟩
    · obtain ⟨o', e1⟩ := I.base.there b o e hx
      exact ⟨o', (hs.2 b (Nat.ne_of_lt (Nat.lt_of_lt_of_le (Heap.lt_size e) I.ok.above))).trans e1⟩
    · by_cases hj : j = i
      · subst hj
        rw [hi] at e1; cases e1
        rw [List.getElem?_set_self hiσ] at e2
        cases e2
        exact ⟨u, r, .inl ⟨hk, by simp⟩⟩
      · rw [List.getElem?_set_ne (Ne.symm hj)] at e2
        obtain ⟨u', r', q⟩ := hl j y v' e1 e2 e3
        refine ⟨u', r', ?_⟩
        rcases q with ⟨k, e⟩ | ⟨k, c, e, z⟩
        · refine .inl ⟨k, ?_⟩
          have : y ≠ x := fun e => hj (W0 hN e1 (e ▸ hi))
          simp [this, e]
        · exact .inr ⟨k, c, e, z.sameBut hs (cne y c e)⟩
    · obtain ⟨w', z⟩ := I.cell y c e
      exact ⟨w', z.sameBut hs (cne y c e)⟩
    · obtain ⟨e, n, ne, nf, d⟩ := I.pin p hp
      exact ⟨(hs.2 p.1 ne).trans e, n, ne, nf, d⟩
  · have hfn : X.fn x = true := by
      rcases hf with z | z
      · exact z
      · rw [z] at hk; cases hk
    obtain ⟨c, hc⟩ := I.ok.has x (.inl hk)
    obtain ⟨w', z⟩ := I.cell x c hc
    refine wpAny_storeName_cell I.ok.kind hk hc z (fun h' hc' hs => ?_)
    obtain ⟨oc, hoc, hocd⟩ := id z
    refine h { s with heap := h' } ⟨I.ok, I.os, I.bare, ⟨fun b o e n hb hx => ?_, fun b o e n hb hx => ?_, I.base.free, fun b o e hx => ?_, I.base.tups, I.base.frzs, I.base.tbls⟩, ⟨m, hn.sameBut hs (Ne.symm (cne x c hc)), fun j y v' e1 e2 e3 => ?_⟩, fun y c' e => ?_, I.free, I.freeC, fun p hp => ?_, tracked ⟨oc, hoc, I.freeC x c hc⟩ hs, by simpa using I.len⟩ ⟨c, hs, .inr hc⟩
    · exact (hs.2 b (Nat.ne_of_lt (Nat.lt_of_lt_of_le (Heap.lt_size e) (I.ok.cab x c hfn hc)))).trans (I.base.keep b o e n hb hx)
    · obtain ⟨sl, e1⟩ := I.base.slot b o e n hb hx
      exact ⟨sl, (hs.2 b (Nat.ne_of_lt (Nat.lt_of_lt_of_le (Heap.lt_size e) (I.ok.cab x c hfn hc)))).trans e1⟩
    · obtain ⟨o', e1⟩ := I.base.there b o e hx
      exact ⟨o', (hs.2 b (Nat.ne_of_lt (Nat.lt_of_lt_of_le (Heap.lt_size e) (I.ok.cab x c hfn hc)))).trans e1⟩
    · by_cases hj : j = i
      · subst hj
        rw [hi] at e1; cases e1
        rw [List.getElem?_set_self hiσ] at e2
        cases e2
        exact ⟨u, r, .inr ⟨.inl hk, c, hc, hc'⟩⟩
      · rw [List.getElem?_set_ne (Ne.symm hj)] at e2
        obtain ⟨u', r', q⟩ := hl j y v' e1 e2 e3
        refine ⟨u', r', ?_⟩
        rcases q with q | ⟨k, c', e, z'⟩
        · exact .inl q
        · refine .inr ⟨k, c', e, z'.sameBut hs ?_⟩
          rintro rfl
          exact hj (W0 hN e1 (I.ok.inj _ _ _ e hc ▸ hi))
    · by_cases hcc : c' = c
      · subst hcc; exact ⟨_, hc'⟩
      · obtain ⟨w2, z2⟩ := I.cell y c' e
        exact ⟨w2, z2.sameBut hs hcc⟩
    · obtain ⟨e, n, ne, nf, d⟩ := I.pin p hp
      refine ⟨(hs.2 p.1 ?_).trans e, n, ne, nf, d⟩
      intro q
      rw [q, hoc] at e
      have q' : oc = p.2 := Option.some.inj e
      exact d w' (by rw [← q']; exact hocd)
theorem JY {M : Model} {A : Around} {E : Value → Shared → Prop} {i : Nat} {x : Str} {v : V} {u : Value} {Q : Unit → Shared → Prop} (I : Inv X pins σ H s) (hN : X.N.Nodup) (hi : X.N[i]? = some x) (hx : Loc X.env.scope x) (r : RelV v u)
    (h : ∀ s', Inv X pins (σ.set i (some v)) H s' → Q () s') (hf : X.fn x = true ∨ X.env.scope.names.lookup x = some .local := by first | exact .inl rfl | exact .inr rfl | assumption) : wpAny M A (storeName X.env x u) Q E s :=
  QO I hN hi hx r (fun s' I' _ => h s' I') hf
theorem Inv.call' {s' : Shared} {ch : List Addr} (I : Inv X pins σ H s) (ho : s'.os = s.os) (u : Un (frs X.stack) ch H H' s.heap s'.heap) (hok : HOk X.prog X.w H' s'.heap) (hg : AllBare s'.gens)
    (hch : ∀ b ∈ ch, (b ∈ X.ex ∨ X.s₀.heap.objs.size ≤ b) ∧ b ≠ X.env.locals ∧ (∀ x c, X.env.cells.lookup x = some c → c ≠ b) ∧ ∀ p ∈ X.pn ++ pins, p.1 ≠ b) : Inv X pins σ H' s' := by
  obtain ⟨h', g', d', t', o'⟩ := s'
  have e : o' = s.os := ho
  subst e
  exact I.call (g' := g') (t' := t') (d' := d') u hok hg hch
end
abbrev XK := Value → Option Addr → Hp → Prop
abbrev St := List (Option V)
abbrev VK := V → Hp → Prop
abbrev TE := St → Hp → VK → Prop
abbrev TT := St → Hp → (Bool → Hp → Prop) → Prop
abbrev TA := St → Hp → (List V → Hp → Prop) → Prop
structure Ends where
  nx : St → Hp → Prop
  rt : VK
  bk : St → Hp → Prop := fun _ _ => False
  ct : St → Hp → Prop := fun _ _ => False
abbrev TS := Ends → St → Hp → Prop
def EP (X : Cx) (pins : List (Addr × Obj)) (σ : St) (Q : VK) (u : Value) (s' : Shared) : Prop := ∃ v H', Inv X pins σ H' s' ∧ RelV v u ∧ Q v H'
def TP (X : Cx) (pins : List (Addr × Obj)) (σ : St) (Q : Bool → Hp → Prop) (b : Bool) (s' : Shared) : Prop := ∃ H', Inv X pins σ H' s' ∧ Q b H'
def AP (X : Cx) (pins : List (Addr × Obj)) (σ : St) (Q : List V → Hp → Prop) (us : List Value) (s' : Shared) : Prop := ∃ vs H', Inv X pins σ H' s' ∧ Vals vs us ∧ Q vs H'
def SP (X : Cx) (pins : List (Addr × Obj)) (D : Ends) (f : Flow) (s' : Shared) : Prop :=
  match f with
  | .next => ∃ σ' H', Inv X pins σ' H' s' ∧ D.nx σ' H'
  | .brk => ∃ σ' H', Inv X pins σ' H' s' ∧ D.bk σ' H'
  | .cont => ∃ σ' H', Inv X pins σ' H' s' ∧ D.ct σ' H'
  | .ret u => ∃ v σ' H', Inv X pins σ' H' s' ∧ RelV v u ∧ D.rt v H'
def PE (X : Cx) (e : Expr) (t : TE) : Prop :=
  ∀ (pins : List (Addr × Obj)) (s : Shared) (σ : St) (H : Hp) (Q : VK), Inv X pins σ H s → t σ H Q → wpAny (model X.prog X.w) X.A (eval e X.env) (EP X pins σ Q) X.xe s
def PT (X : Cx) (e : Expr) (t : TT) : Prop :=
  ∀ (pins : List (Addr × Obj)) (s : Shared) (σ : St) (H : Hp) (Q : Bool → Hp → Prop), Inv X pins σ H s → t σ H Q → wpAny (model X.prog X.w) X.A (isTrue e X.env (eval e X.env)) (TP X pins σ Q) X.xe s
def PW (X : Cx) (e : Expr) (t : TT) : Prop :=
  ∀ (whole : Sem Value) (pins : List (Addr × Obj)) (s : Shared) (σ : St) (H : Hp) (Q : Bool → Hp → Prop), Inv X pins σ H s → t σ H Q → wpAny (model X.prog X.w) X.A (isTrue e X.env whole) (TP X pins σ Q) X.xe s
theorem PW.pt {X : Cx} {e : Expr} {t : TT} (h : PW X e t) : PT X e t := h _
def PA (X : Cx) (es : List Expr) (t : TA) : Prop :=
  ∀ (pos : Pos) (pins : List (Addr × Obj)) (s : Shared) (σ : St) (H : Hp) (Q : List V → Hp → Prop), Inv X pins σ H s → t σ H Q → wpAny (model X.prog X.w) X.A (spliced (backTo pos (starEach es X.env))) (AP X pins σ Q) X.xe s
def PS (X : Cx) (st : Stmt) (t : TS) : Prop :=
  ∀ (pins : List (Addr × Obj)) (s : Shared) (σ : St) (H : Hp) (D : Ends), Inv X pins σ H s → t D σ H → wpAny (model X.prog X.w) X.A (exec st X.env) (SP X pins D) X.xe s
def PSs (X : Cx) (st : List Stmt) (t : TS) : Prop :=
  ∀ (pins : List (Addr × Obj)) (s : Shared) (σ : St) (H : Hp) (D : Ends), Inv X pins σ H s → t D σ H → wpAny (model X.prog X.w) X.A (execs st X.env) (SP X pins D) X.xe s
theorem thn {α : Type} {t : Sem α} {Q Q' : α → Shared → Prop} {M : Model} {A : Around} {E : Value → Shared → Prop} {s : Shared} (h : wpAny M A t Q E s) (hQ : ∀ a s, Q a s → Q' a s) : wpAny M A t Q' E s := wpAny_mono h hQ fun _ _ x => x
end L2
namespace L2
open PySem PySem.Spec PyProof.Rows
section
variable {X : Cx}
def tVar (i : Nat) : TE := fun σ H Q => ∃ v, σ[i]? = some (some v) ∧ Q v H
def tC (v : V) : TE := fun _ H Q => Q v H
theorem wf {i : Nat} {x : Str} {pos : Pos} (hN : X.N[i]? = some x) (hv : Vis X.env.scope x) (hd : (x == ("__debug__" : Str)) = false := by decide) (hcd : (x == ("__classdict__" : Str)) = false := by decide) : PE X (.Name x pos) (tVar i) := by
  intro pins s σ H Q I h
  obtain ⟨v, e, h⟩ := h
  obtain ⟨m, hn, hl⟩ := I.loc
  obtain ⟨u, r, l⟩ := hl i x v hN e hv
  have fin : EP X pins σ Q u s := ⟨v, H, I, r, h⟩
  rcases l with ⟨hk, hm⟩ | ⟨hk, c, hc, hcell⟩
  · exact wpAny_Name (wpAny_loadName_local I.ok.kind hk hn hm fin) hd
  · rcases hk with hk | hk
    · exact wpAny_Name (wpAny_loadName_cell I.ok.kind hk hc hcell fin) hd
    · exact wpAny_Name (wpAny_loadName_free I.ok.kind hk hc hcell fin hcd) hd
theorem jaK {i j pos} : PE X (.Constant (.int i) j pos) (tC (.int i)) := fun _ _ _ H _ I h => wpAny_Constant_int ⟨.int i, H, I.tok _, ⟨_, rfl⟩, h⟩
theorem jbP {b j pos} : PE X (.Constant (.bool b) j pos) (tC (.bl b)) := fun _ _ _ H _ I h => Constant_bool ⟨.bl b, H, I, rfl, h⟩
theorem jaH {j pos} : PE X (.Constant .none j pos) (tC .non) := fun _ _ _ H _ I h => Constant_none ⟨.non, H, I, rfl, h⟩
theorem jaE {x j pos} : PE X (.Constant (.str x) j pos) (tC (.str x)) := fun _ _ _ H _ I h => Calls.Constant_str ⟨.str x, H, I.tok _, ⟨_, rfl⟩, h⟩
def Gl (X : Cx) (x : Str) : Prop := X.env.kindOf x = some .globalImplicit
theorem Wn {E : Value → Shared → Prop} {pins : List (Addr × Obj)} {s : Shared} {σ : St} {H : Hp} {x : Str} {u : Value} {pos : Pos} {Q : Value → Shared → Prop} (I : Inv X pins σ H s) (hg : Gl X x) (hm : X.mg x = some u) (h : Q u s)
    (hd : (x == ("__debug__" : Str)) = false := by decide) : wpAny (model X.prog X.w) X.A (eval (.Name x pos) X.env) Q E s :=
  Calls.Name_function_global I.ok.kind hg (Calls.loadGlobal_global (by rw [I.ok.glob]; exact I.mod.glob.keeps I.bk) hm h) hd
theorem y0 {E : Value → Shared → Prop} {pins : List (Addr × Obj)} {s : Shared} {σ : St} {H : Hp} {x : Str} {u : Value} {pos : Pos} {Q : Value → Shared → Prop} (I : Inv X pins σ H s) (hg : Gl X x) (hm : X.mg x = none) (hv : bootBuiltins x = some u) (h : Q u s)
    (hn : x ≠ "__name__" := by decide) (hd : (x == ("__debug__" : Str)) = false := by decide) : wpAny (model X.prog X.w) X.A (eval (.Name x pos) X.env) Q E s := by
  obtain ⟨mb, h1, h2⟩ := I.mod.blt
  exact Calls.Name_function_global I.ok.kind hg (Calls.loadGlobal_builtin (by rw [I.ok.glob]; exact I.mod.glob.keeps I.bk) hm (by rw [I.ok.blt]; exact h1.keeps I.bk) ((h2 x hn).trans hv) h) hd
theorem Kg {x : Str} {v : V} {u : Value} {pos : Pos} (hg : Gl X x) (hm : X.mg x = some u) (r : RelV v u) (hd : (x == ("__debug__" : Str)) = false := by decide) : PE X (.Name x pos) (tC v) :=
  fun _ _ _ H _ I h => Wn I hg hm ⟨v, H, I, r, h⟩ hd
theorem v0 {x : Str} {v : V} {u : Value} {pos : Pos} (hg : Gl X x) (hm : X.mg x = none) (hv : bootBuiltins x = some u) (r : RelV v u) (hn : x ≠ "__name__" := by decide) (hd : (x == ("__debug__" : Str)) = false := by decide) : PE X (.Name x pos) (tC v) :=
  fun _ _ _ H _ I h => y0 I hg hm hv ⟨v, H, I, r, h⟩ hn hd
variable {a b : Expr} {ta tb : TE} {pos : Pos}
def tB (t : TE) : TT := fun σ H Q => t σ H fun x H1 => ∃ c, x = .bl c ∧ Q c H1
theorem jau {e : Expr} {t : TE} (h : PE X e t) (he : ∀ whole, isTrue e X.env whole = (do let v ← whole; standAt e.pos; holding [v] (truthy v)) := by intro _; rfl) : PT X e (tB t) := by
  intro pins s σ H Q I hw
  refine isTrue_plain (thn (h pins s σ H _ I hw) fun v s1 ⟨x, H1, I1, r1, q1⟩ => ?_) (he _)
  obtain ⟨d, rfl, q⟩ := q1
  cases r1
  exact wpAny_truthy_bool ⟨H1, I1, q⟩
variable {tA tB' : TT} {rest : List Expr}
def tAnd (t u : TT) : TT := fun σ H Q => t σ H fun c H1 => if c = true then u σ H1 Q else Q false H1
def tOr (t u : TT) : TT := fun σ H Q => t σ H fun c H1 => if c = true then Q true H1 else u σ H1 Q
def tNot (t : TT) : TT := fun σ H Q => t σ H fun c H1 => Q (!c) H1
theorem vP (ha : PT X a tA) : PW X (.BoolOp .And [a] pos) tA := by
  intro wh pins s σ H Q I h
  refine isTrue_and (thn (ha pins s σ H Q I h) fun c s1 e => ?_)
  cases c with
  | true => exact isTrue_and_nil e
  | false => exact e
theorem jaq (ha : PT X a tA) : PW X (.BoolOp .Or [a] pos) tA := by
  intro wh pins s σ H Q I h
  refine isTrue_or (thn (ha pins s σ H Q I h) fun c s1 e => ?_)
  cases c with
  | false => exact isTrue_or_nil e
  | true => exact e
theorem jar (ha : PT X a tA) (hb : PW X (.BoolOp .And (b :: rest) pos) tB') : PW X (.BoolOp .And (a :: b :: rest) pos) (tAnd tA tB') := by
  intro wh pins s σ H Q I h
  refine isTrue_and (thn (ha pins s σ H _ I h) fun c s1 ⟨H1, I1, q1⟩ => ?_)
  cases c with
  | true => exact hb wh pins s1 σ H1 Q I1 q1
  | false => exact ⟨H1, I1, q1⟩
theorem jbO (ha : PT X a tA) (hb : PW X (.BoolOp .Or (b :: rest) pos) tB') : PW X (.BoolOp .Or (a :: b :: rest) pos) (tOr tA tB') := by
  intro wh pins s σ H Q I h
  refine isTrue_or (thn (ha pins s σ H _ I h) fun c s1 ⟨H1, I1, q1⟩ => ?_)
  cases c with
  | true => exact ⟨H1, I1, q1⟩
  | false => exact hb wh pins s1 σ H1 Q I1 q1
theorem jav (ha : PT X a tA) : PT X (.UnaryOp .Not a pos) (tNot tA) := by
  intro pins s σ H Q I h
  exact isTrue_not (ha pins s σ H (fun c H1 => Q (!c) H1) I h)
def jbL (ta tb : TE) : TE := fun σ H Q => ta σ H fun x H1 => ∃ c, x = .bl c ∧ if c = true then tb σ H1 Q else Q (.bl false) H1
def jbD (ta : TE) : TE := fun σ H Q => ta σ H fun x H1 => ∃ c, x = .bl c ∧ Q (.bl (!c)) H1
theorem jaF {op} {t : TE} (h : PE X a t) : PE X (.BoolOp op [a] pos) t := fun pins s σ H Q I hw => BoolOp_one (h pins s σ H Q I hw)
theorem jaN (ha : PE X a ta) (hb : PE X (.BoolOp .And (b :: rest) pos) tb) : PE X (.BoolOp .And (a :: b :: rest) pos) (jbL ta tb) := by
  intro pins s σ H Q I h
  refine BoolOp_and (thn (ha pins s σ H _ I h) fun v s1 ⟨x, H1, I1, r1, q1⟩ => ?_)
  obtain ⟨c, rfl, q1⟩ := q1
  cases r1
  refine wpAny_truthy_bool ?_
  cases c with
  | true => exact hb pins s1 σ H1 Q I1 q1
  | false => exact ⟨.bl false, H1, I1, rfl, q1⟩
theorem jaG (ha : PE X a ta) : PE X (.UnaryOp .Not a pos) (jbD ta) := by
  intro pins s σ H Q I h
  refine UnaryOp_ (thn (ha pins s σ H _ I h) fun v s1 ⟨x, H1, I1, r1, q1⟩ => ?_)
  obtain ⟨c, rfl, q1⟩ := q1
  cases r1
  exact not_of (wpAny_truthy_bool ⟨.bl (!c), H1, I1, rfl, q1⟩)
def tIf (t : TT) (ta tb : TE) : TE := fun σ H Q => t σ H fun c H1 => if c = true then ta σ H1 Q else tb σ H1 Q
theorem Uj {c : Expr} (hc : PT X c tA) (ha : PE X a ta) (hb : PE X b tb) : PE X (.IfExp c a b pos) (tIf tA ta tb) := by
  intro pins s σ H Q I h
  refine wpAny_IfExp (thn (hc pins s σ H _ I h) fun d s1 ⟨H1, I1, q1⟩ => ?_)
  cases d with
  | true => exact ha pins s1 σ H1 Q I1 q1
  | false => exact hb pins s1 σ H1 Q I1 q1
end
end L2
namespace L2
open PySem PySem.Spec PyProof.Rows
def SqL (K : PySem.W.Frag) (H : Hp) (a : Addr) (xs : List V) : Prop :=
  Rd H a (.lst xs) ∨
    ∃ (o : Obj) (its : Array Value) (n : Nat), K.lookup a = some o ∧ o.cls = .type "list" ∧ o.dict = none ∧ o.data = .seq its n ∧ its.size ≤ sizeLine ∧ Vals xs its.toList
def SqT (K : PySem.W.Frag) (H : Hp) (a : Addr) (xs : List V) : Prop :=
  Rd H a (.tup xs) ∨
    ∃ (o : Obj) (its : Array Value) (n : Nat), K.lookup a = some o ∧ o.cls = .type "tuple" ∧ o.data = .seq its n ∧ its.size ≤ sizeLine ∧ Vals xs its.toList
def absV : Value → Option V
  | .none => some .non
  | .bool b => some (.bl b)
  | .int i _ => some (.int i)
  | .str x _ => some (.str x)
  | .bytes b _ => some (.byt b)
  | .float b _ => some (.flt b)
  | .ref a => some (.ref a)
  | .type n => some (.ty n)
  | _ => none
theorem RelV.abs {x : V} {u : Value} (r : RelV x u) : absV u = some x := by
  cases x with
  | non => cases r; rfl
  | bl _ => cases r; rfl
  | int _ => obtain ⟨t, rfl⟩ := r; rfl
  | str _ => obtain ⟨t, rfl⟩ := r; rfl
  | byt _ => obtain ⟨t, rfl⟩ := r; rfl
  | flt _ => obtain ⟨t, rfl⟩ := r; rfl
  | ref _ => cases r; rfl
  | ty _ => cases r; rfl
theorem RelV.inj {x y : V} {u : Value} (r : RelV x u) (q : RelV y u) : x = y := Option.some.inj (r.abs.symm.trans q.abs)
theorem Vals.inj : ∀ {xs ys : List V} {us : List Value}, Vals xs us → Vals ys us → xs = ys
  | _, _, _, .nil, .nil => rfl
  | _, _, _, .cons r t, .cons r' t' => by rw [r.inj r', Vals.inj t t']
section
variable {X : Cx} {pins : List (Addr × Obj)} {σ : St} {H : Hp} {s : Shared} {a : Addr} {xs ys : List V}
theorem SqL.of {K : PySem.W.Frag} (h : H a = some (.lst xs)) : SqL K H a xs := .inl (.inl h)
theorem SqT.of {K : PySem.W.Frag} (h : H a = some (.tup xs)) : SqT K H a xs := .inl (.inl h)
theorem Inv.list (I : Inv X pins σ H s) (h : SqL X.K H a xs) : ∃ its : List Value, Vals xs its ∧ PlainL s.heap a its.toArray ∧ xs.length ≤ sizeLine := by
  rcases h with h | ⟨o, its, n, hk, hc, hd, hs, hz, r⟩
  · obtain ⟨z, its, n, r, e⟩ := h.ok I.hok
    exact ⟨its, r, ⟨_, n, e, rfl, rfl, rfl⟩, z⟩
  · refine ⟨its.toList, r, ⟨o, n, I.kIn a o hk, hc, hd, by simpa using hs⟩, ?_⟩
    have e := r.length
    simp only [Array.length_toList] at e
    omega
theorem Inv.tuple (I : Inv X pins σ H s) (h : SqT X.K H a xs) : ∃ its : List Value, Vals xs its ∧ IsTup s.heap a its.toArray ∧ xs.length ≤ sizeLine := by
  rcases h with h | ⟨o, its, n, hk, hc, hs, hz, r⟩
  · obtain ⟨z, its, r, p⟩ := h.ok I.hok
    exact ⟨its, r, p, z⟩
  · refine ⟨its.toList, r, ⟨o, I.kIn a o hk, hc, n, by simpa using hs⟩, ?_⟩
    have e := r.length
    simp only [Array.length_toList] at e
    omega
theorem Inv.list_inj (I : Inv X pins σ H s) (h : SqL X.K H a xs) (h' : SqL X.K H a ys) : xs = ys := by
  obtain ⟨its, r, ⟨o, n, e, _, _, d⟩, _⟩ := I.list h
  obtain ⟨its', r', ⟨o', n', e', _, _, d'⟩, _⟩ := I.list h'
  rw [e] at e'; cases e'
  rw [d] at d'
  injection d' with d1 _
  have : its = its' := by simpa using congrArg Array.toList d1
  subst this
  exact r.inj r'
theorem Inv.tuple_inj (I : Inv X pins σ H s) (h : SqT X.K H a xs) (h' : SqT X.K H a ys) : xs = ys := by
  obtain ⟨its, r, ⟨o, e, _, n, d⟩, _⟩ := I.tuple h
  obtain ⟨its', r', ⟨o', e', _, n', d'⟩, _⟩ := I.tuple h'
  rw [e] at e'; cases e'
  rw [d] at d'
  injection d' with d1 _
  have : its = its' := by simpa using congrArg Array.toList d1
  subst this
  exact r.inj r'
end
abbrev Cx.wish (X : Cx) (E : Value → Shared → Prop) : Cx := { X with xe := E }
abbrev Cx.nox (X : Cx) : Cx := X.wish fun _ _ => False
theorem Cx.Ok.wish {X : Cx} (ok : X.Ok) (E : Value → Shared → Prop) : (X.wish E).Ok :=
  ⟨ok.mod, ok.kind, ok.glob, ok.blt, ok.above, ok.inj, ok.has, ok.cab, ok.hd, ok.frames, ok.stk, ok.exf, ok.bs, ok.bsz, ok.noex, ok.exfs, ok.funs, ok.frf⟩
theorem Cx.Ok.unwish {X : Cx} {E : Value → Shared → Prop} (ok : (X.wish E).Ok) : X.Ok :=
  ⟨ok.mod, ok.kind, ok.glob, ok.blt, ok.above, ok.inj, ok.has, ok.cab, ok.hd, ok.frames, ok.stk, ok.exf, ok.bs, ok.bsz, ok.noex, ok.exfs, ok.funs, ok.frf⟩
section
variable {X : Cx} {pins : List (Addr × Obj)} {σ : St} {H : Hp} {s : Shared} {E : Value → Shared → Prop}
theorem Inv.wish (I : Inv X pins σ H s) (E : Value → Shared → Prop) : Inv (X.wish E) pins σ H s := ⟨I.ok.wish E, I.os, I.bare, I.base, I.loc, I.cell, I.free, I.freeC, I.pin, I.hok, I.len⟩
theorem Inv.unwish (I : Inv (X.wish E) pins σ H s) : Inv X pins σ H s := ⟨I.ok.unwish, I.os, I.bare, I.base, I.loc, I.cell, I.free, I.freeC, I.pin, I.hok, I.len⟩
theorem SP.unwish {D : Ends} {f : Flow} {s' : Shared} (h : SP (X.wish E) pins D f s') : SP X pins D f s' := by
  cases f with
  | next => obtain ⟨σ', H', I, q⟩ := h; exact ⟨σ', H', I.unwish, q⟩
  | brk => obtain ⟨σ', H', I, q⟩ := h; exact ⟨σ', H', I.unwish, q⟩
  | cont => obtain ⟨σ', H', I, q⟩ := h; exact ⟨σ', H', I.unwish, q⟩
  | ret u => obtain ⟨v, σ', H', I, r, q⟩ := h; exact ⟨v, σ', H', I.unwish, r, q⟩
theorem PSs.nox {st : List Stmt} {t : TS} (h : PSs X.nox st t) : PSs X st t := fun pins s σ H D I hw =>
  wpAny_mono (h pins s σ H D (I.wish _) hw) (fun _ _ q => q.unwish) fun _ _ z => False.elim z
end
section
variable {X : Cx} {st : Stmt} {rest : List Stmt} {t u : TS} {e : Expr} {te : TE} {pos : Pos}
def jbE : TS := fun D σ H => D.nx σ H
def tSeq (t u : TS) : TS := fun D σ H => t { D with nx := u D } σ H
theorem Y8 : PSs X [] jbE := fun _ _ σ H _ I h => wpAny_execs_nil ⟨σ, H, I, h⟩
theorem WR (h1 : PS X st t) (h2 : PSs X rest u) : PSs X (st :: rest) (tSeq t u) := by
  intro pins s σ H D I h
  refine wpAny_execs_cons (thn (h1 pins s σ H { D with nx := u D } I h) fun f s1 q => ?_)
  cases f with
  | next =>
    obtain ⟨σ', H', I', q⟩ := q
    exact h2 pins s1 σ' H' D I' q
  | ret v => exact q
  | brk => exact q
  | cont => exact q
theorem Y7 (h1 : PS X st t) : PSs X [st] t := by
  intro pins s σ H D I h
  refine wpAny_execs_cons (thn (h1 pins s σ H D I h) fun f s1 q => ?_)
  cases f with
  | next => exact wpAny_execs_nil q
  | ret v => exact q
  | brk => exact q
  | cont => exact q
theorem Inv.quiet {pins : List (Addr × Obj)} {σ : St} {H : Hp} {s : Shared} (I : Inv X pins σ H s) : interactive X.env = false := by simp [interactive, I.ok.kind]
def jbH (te : TE) : TS := fun D σ H => te σ H fun _ H1 => D.nx σ H1
theorem J6 (he : PE X e te) (hs : swapsWith e none pos.line X.env = pure false := by rfl) : PS X (.Expr e pos) (jbH te) := by
  intro pins s σ H D I h
  exact wpAny_Expr_any (thn (he pins s σ H _ I h) fun v s1 ⟨x, H1, I1, r1, q1⟩ => ⟨σ, H1, I1, q1⟩) I.quiet hs
def tRet (te : TE) : TS := fun D σ H => te σ H D.rt
theorem Y9 (he : PE X e te) : PS X (.Return (some e) pos) (tRet te) := by
  intro pins s σ H D I h
  exact wpAny_Return_some (thn (he pins s σ H _ I h) fun v s1 ⟨x, H1, I1, r1, q1⟩ => ⟨x, σ, H1, I1, r1, q1⟩)
def tIfS (c : TT) (t u : TS) : TS := fun D σ H => c σ H fun b H1 => if b = true then t D σ H1 else u D σ H1
theorem jaw {c : Expr} {a b : List Stmt} {tc : TT} (hc : PT X c tc) (ha : PSs X a t) (hb : PSs X b u) : PS X (.If c a b pos) (tIfS tc t u) := by
  intro pins s σ H D I h
  refine wpAny_If (thn (hc pins s σ H _ I h) fun d s1 ⟨H1, I1, q1⟩ => ?_)
  cases d with
  | true => exact ha pins s1 σ H1 D I1 q1
  | false => exact hb pins s1 σ H1 D I1 q1
end
abbrev TG := V → St → Hp → (St → Hp → Prop) → Prop
abbrev TGs := List V → St → Hp → (St → Hp → Prop) → Prop
def PG (X : Cx) (target : Expr) (t : TG) : Prop :=
  ∀ (pins : List (Addr × Obj)) (s : Shared) (σ : St) (H : Hp) (v : V) (u : Value) (Q : St → Hp → Prop), Inv X pins σ H s → RelV v u → t v σ H Q →
    wpAny (model X.prog X.w) X.A (assign target X.env u) (fun _ s' => ∃ σ' H', Inv X pins σ' H' s' ∧ Q σ' H') X.xe s
def PGs (X : Cx) (ts : List Expr) (t : TGs) : Prop :=
  ∀ (pins : List (Addr × Obj)) (s : Shared) (σ : St) (H : Hp) (vs : List V) (us : List Value) (Q : St → Hp → Prop), Inv X pins σ H s → Vals vs us → t vs σ H Q →
    wpAny (model X.prog X.w) X.A (assignInOrder ((assignEach ts X.env).map (·.2)) us) (fun _ s' => ∃ σ' H', Inv X pins σ' H' s' ∧ Q σ' H') X.xe s
abbrev TIp := V → V → Hp → VK → Prop
def PIp (X : Cx) (op : Operator) (t : TIp) : Prop :=
  ∀ (pins : List (Addr × Obj)) (s : Shared) (σ : St) (H : Hp) (x y : V) (v u : Value) (Q : VK), Inv X pins σ H s → RelV x v → RelV y u → t x y H Q →
    wpAny (model X.prog X.w) X.A (inplaceOp op v u) (EP X pins σ Q) X.xe s
section
variable {X : Cx} {pos : Pos}
def jbd (i : Nat) : TG := fun v σ H Q => Q (σ.set i (some v)) H
theorem vV {i : Nat} {x : Str} (hN : X.N.Nodup) (hi : X.N[i]? = some x) (hx : Loc X.env.scope x) (hf : X.fn x = true ∨ X.env.scope.names.lookup x = some .local := by first | exact .inl rfl | exact .inr rfl | assumption) : PG X (.Name x pos) (jbd i) := by
  intro pins s σ H v u Q I r h
  exact wpAny_assign_Name (JY I hN hi hx r (fun s' I' => ⟨_, H, I', h⟩) hf)
def gNil : TGs := fun vs σ H Q => vs = [] ∧ Q σ H
def jbX (t : TG) (u : TGs) : TGs := fun vs σ H Q => ∃ v r, vs = v :: r ∧ t v σ H fun σ' H' => u r σ' H' Q
theorem vU : PGs X [] gNil := by
  intro pins s σ H vs us Q I r h
  obtain ⟨e, h⟩ := h
  subst e
  cases r
  exact assignInOrder_nil ⟨σ, H, I, h⟩
theorem WW {e : Expr} {es : List Expr} {t : TG} {u : TGs} (h1 : PG X e t) (h2 : PGs X es u)
    (hs : (assignEach (e :: es) X.env).map (·.2) = assign e X.env :: (assignEach es X.env).map (·.2) := by rfl) : PGs X (e :: es) (jbX t u) := by
  intro pins s σ H vs us Q I r h
  obtain ⟨v, vr, e1, h⟩ := h
  subst e1
  cases r with
  | cons r rr =>
    rw [hs]
    refine assignInOrder_cons (thn (h1 pins s σ H _ _ _ I r h) fun _ s1 ⟨σ1, H1, I1, q1⟩ => ?_)
    exact h2 pins s1 σ1 H1 _ _ Q I1 rr q1
def gTup (K : PySem.W.Frag) (n : Nat) (t : TGs) : TG := fun v σ H Q => ∃ a xs, v = .ref a ∧ SqT K H a xs ∧ xs.length = n ∧ t xs σ H Q
theorem jaC {es : List Expr} {k : Nat} {t : TGs} {n : Nat} (hc : X.calm = true) (h : PGs X es t)
    (hn : (assignEach es X.env).length = n := by rfl) (hst : (assignEach es X.env).findIdx? (·.1) = none := by rfl) : PG X (.Tuple es k pos) (gTup X.K n t) := by
  intro pins s σ H v u Q I r hw
  obtain ⟨a, xs, e1, hq, hl, hw⟩ := hw
  subst e1
  cases r
  obtain ⟨its, rv, ht, hz⟩ := I.tuple hq
  refine assign_Tuple_tuple (I.ok.hd hc) ht (by simp [hn, ← hl, rv.length]) hst fun h' hx => ?_
  have I1 : Inv X pins σ H { s with heap := h' } := I.kept (t' := s.toks) fun b o e => hx b o (Nat.ne_of_lt (Heap.lt_size e)) e
  exact h pins _ σ H xs _ Q I1 (by simpa using rv) hw
def tAsg (te : TE) (g : TG) : TS := fun D σ H => te σ H fun x H1 => g x σ H1 D.nx
theorem jaA {tg e : Expr} {te : TE} {g : TG} (he : PE X e te) (hg : PG X tg g) (hs : swapsWithSole [tg] e pos.line X.env = pure false := by rfl) (hw : swappedStores [tg] e X.env = pure none := by rfl)
    (h1 : (assignEach [tg] X.env).map (·.2) = [assign tg X.env] := by rfl) : PS X (.Assign [tg] e pos) (tAsg te g) := by
  intro pins s σ H D I h
  refine wpAny_Assign_stores (thn (he pins s σ H _ I h) fun v s1 ⟨x, H1, I1, r1, q1⟩ => ?_) hs hw
  rw [h1]
  exact thn (hg pins s1 σ H1 x v _ I1 r1 q1) fun _ s2 q => q
theorem kT {i : Nat} {x : Str} {e : Expr} {te : TE} {pos' : Pos} (hN : X.N.Nodup) (hi : X.N[i]? = some x) (hx : Loc X.env.scope x) (he : PE X e te) (hs : swapsWith e (some (.Name x pos')) pos.line X.env = pure false := by rfl) (hf : X.fn x = true ∨ X.env.scope.names.lookup x = some .local := by first | exact .inl rfl | exact .inr rfl | assumption) :
    PS X (.Assign [.Name x pos'] e pos) (tAsg te (jbd i)) := by
  intro pins s σ H D I h
  refine wpAny_Assign_Name (thn (he pins s σ H _ I h) fun v s1 ⟨y, H1, I1, r1, q1⟩ => ?_) hs
  exact JY I1 hN hi hx r1 (fun s2 I2 => ⟨_, H1, I2, q1⟩) hf
def tAug (i : Nat) (te : TE) (ti : TIp) : TS := fun D σ H => ∃ x, σ[i]? = some (some x) ∧ te σ H fun y H1 => ti x y H1 fun z H2 => D.nx (σ.set i (some z)) H2
theorem jaz {i : Nat} {x : Str} {e : Expr} {te : TE} {op : Operator} {ti : TIp} {pos' : Pos} (hN : X.N.Nodup) (hi : X.N[i]? = some x) (hx : Loc X.env.scope x) (he : PE X e te) (ho : PIp X op ti) (hf : X.fn x = true ∨ X.env.scope.names.lookup x = some .local := by first | exact .inl rfl | exact .inr rfl | assumption) :
    PS X (.AugAssign (.Name x pos') op e pos) (tAug i te ti) := by
  intro pins s σ H D I h
  obtain ⟨v, e1, h⟩ := h
  obtain ⟨m, hn, hl⟩ := I.loc
  have vis : Vis X.env.scope x := by rcases hx with k | k; exact .inl k; exact .inr (.inl k)
  obtain ⟨u, r, l⟩ := hl i x v hi e1 vis
  refine wpAny_AugAssign_Name ?_
  have go : wpAny (model X.prog X.w) X.A (eval e X.env) (fun w s₂ => wpAny (model X.prog X.w) X.A (inplaceOp op u w) (fun r s₃ => wpAny (model X.prog X.w) X.A (storeName X.env x r) (fun _ => SP X pins D .next) X.xe s₃) X.xe s₂) X.xe s := by
    refine thn (he pins s σ H _ I h) fun w s1 ⟨y, H1, I1, r1, q1⟩ => ?_
    refine thn (ho pins s1 σ H1 v y u w _ I1 r r1 q1) fun z s2 ⟨zv, H2, I2, r2, q2⟩ => ?_
    exact JY I2 hN hi hx r2 (fun s3 I3 => ⟨_, H2, I3, q2⟩) hf
  rcases l with ⟨hk, hm⟩ | ⟨hk, c, hc, hcell⟩
  · exact wpAny_loadName_local I.ok.kind hk hn hm go
  · rcases hk with hk | hk
    · exact wpAny_loadName_cell I.ok.kind hk hc hcell go
    · rcases hx with k | k
      · have : X.env.scope.names.lookup x = some .free := hk
        rw [k] at this; cases this
      · have : X.env.scope.names.lookup x = some .free := hk
        rw [k] at this; cases this
def ipI (f : Int → Int → Int) : TIp := fun x y H Q => ∃ i j, x = .int i ∧ y = .int j ∧ Q (.int (f i j)) H
theorem vh : PIp X .Add (ipI fun i j => i + j) := by
  intro pins s σ H x y v u Q I r1 r2 h
  obtain ⟨i, j, e1, e2, q⟩ := h
  subst e1; subst e2
  obtain ⟨t, rfl⟩ := r1
  obtain ⟨t', rfl⟩ := r2
  exact iadd_int ⟨.int _, H, I.tok _, ⟨_, rfl⟩, q⟩
end
section
variable {X : Cx} {pos : Pos}
def jae (c : TT) (tb : TS) : TS := fun D σ H => ∃ W : Nat → St → Hp → Prop, (∃ m, W m σ H) ∧ ∀ m σ H, W m σ H →
  c σ H fun b H1 => if b = true then ∃ N : St → Hp → Prop, (∀ σ' H', N σ' H' → ∃ m', m' < m ∧ W m' σ' H') ∧ tb { D with nx := N, ct := N, bk := D.nx } σ H1 else D.nx σ H1
theorem Uf {c : Expr} {body : List Stmt} {tc : TT} {tb : TS} (hp : PassesOwn (model X.prog X.w) X.A X.env X.xe) (hc : PT X c tc) (hb : PSs X body tb) : PS X (.While c body [] pos) (jae tc tb) := by
  intro pins s σ H D I h
  obtain ⟨W, ⟨m0, w0⟩, turn⟩ := h
  refine wpAny_While (codeAny_whileLoop (fun n s' => ∃ σ' H', Inv X pins σ' H' s' ∧ W n σ' H') ?_ m0 ⟨σ, H, I, w0⟩)
  rintro n s1 ⟨σ1, H1, I1, w1⟩
  refine wpAny_passesOwn hp (thn (hc pins s1 σ1 H1 _ I1 (turn n σ1 H1 w1)) fun b s2 ⟨H2, I2, q2⟩ => ?_)
  cases b with
  | true =>
    obtain ⟨N, hN, q2⟩ := q2
    rw [if_pos rfl]
    refine wpAny_passesOwn hp (thn (hb pins s2 σ1 H2 _ I2 q2) fun f s3 q3 => ?_)
    cases f with
    | next =>
      obtain ⟨σ3, H3, I3, n3⟩ := q3
      obtain ⟨m', hm, w3⟩ := hN σ3 H3 n3
      exact ⟨m', hm, σ3, H3, I3, w3⟩
    | cont =>
      obtain ⟨σ3, H3, I3, n3⟩ := q3
      obtain ⟨m', hm, w3⟩ := hN σ3 H3 n3
      exact ⟨m', hm, σ3, H3, I3, w3⟩
    | brk => exact q3
    | ret v => exact q3
  | false =>
    rw [if_neg Bool.false_ne_true]
    exact wpAny_execs_nil ⟨σ1, H2, I2, q2⟩
end
structure It where
  go : Nat → Hp → Prop
  yld : Nat → Hp → V → Hp → Prop
  stop : Nat → Hp → Prop
def FpOk (X : Cx) (pins : List (Addr × Obj)) (H : Hp) (b : Addr) : Prop :=
  H b = none ∧ b ≠ X.env.locals ∧ b ∉ X.fs ∧ (b ∈ X.ex ∨ X.s₀.heap.objs.size ≤ b) ∧ (∀ x c, X.env.cells.lookup x = some c → c ≠ b) ∧ ∀ p ∈ X.pn ++ pins, p.1 ≠ b
theorem Inv.fpOk {X : Cx} {pins : List (Addr × Obj)} {σ : St} {H H' : Hp} {s : Shared} {b : Addr} (I : Inv X pins σ H s) (hb : s.heap.objs.size ≤ b) (hn : H' b = none) : FpOk X pins H' b := by
  refine ⟨hn, Nat.ne_of_gt (Nat.lt_of_lt_of_le I.lt hb), I.nofs hb, .inr (Nat.le_trans I.sz hb), fun x c e z => ?_, fun p hp z => ?_⟩
  · obtain ⟨v, q⟩ := I.cell x c e
    exact absurd (Nat.lt_of_lt_of_le q.lt (by rw [z]; exact hb)) (Nat.lt_irrefl _)
  · exact absurd (Nat.lt_of_lt_of_le (Heap.lt_size (I.pin p hp).1) (by rw [z]; exact hb)) (Nat.lt_irrefl _)
structure Turn (P : Program) (w : World) (K : PySem.W.Frag) (tg : Expr) (J : It) (fp : List Addr) (it : Addr) (tn : Nat → Heap → Prop) : Prop where
  mem : it ∈ fp
  obj : ∀ i h, tn i h → ∀ b ∈ fp, ∃ o, h.get? b = some o ∧ ∀ v, o.data ≠ .cell v
  keep : ∀ i h h', tn i h → (∀ b ∈ fp, ∀ o, h.get? b = some o → h'.get? b = some o) → tn i h'
  item : ∀ (X : Cx), X.prog = P → X.w = w → X.K = K → X.calm = true → ∀ (i : Nat) (pins : List (Addr × Obj)) (s : Shared) (σ : St) (H : Hp) (E : Value → Shared → Prop), Inv X pins σ H s → (∀ b ∈ fp, FpOk X pins H b) → tn i s.heap → J.go i H →
    wpAny (model P w) X.A (pyNext (.ref it)) (fun r s1 => ∃ u, r = some u ∧
      wpAny (model P w) X.A (letOwnedTupleGo tg (.ref it) u) (fun _ s2 => ∃ x H', Inv X pins σ H' s2 ∧ RelV x u ∧ J.yld i H x H' ∧ tn (i + 1) s2.heap ∧ ∀ b ∈ fp, H' b = none) E s1) E s
  done : ∀ (X : Cx), X.prog = P → X.w = w → X.K = K → X.calm = true → ∀ (i : Nat) (pins : List (Addr × Obj)) (s : Shared) (σ : St) (H : Hp) (E : Value → Shared → Prop), Inv X pins σ H s → (∀ b ∈ fp, FpOk X pins H b) → tn i s.heap → J.stop i H →
    wpAny (model P w) X.A (pyNext (.ref it)) (fun r s1 => r = none ∧ Inv X pins σ H s1) E s
  self : ∀ (A : Around) (i : Nat) (s : Shared) (Q : Value → Shared → Prop) (E : Value → Shared → Prop), tn i s.heap → Q (.ref it) s → wpAny (model P w) A (pyIter (.ref it)) Q E s
abbrev TI := St → Hp → (It → Hp → Prop) → Prop
def PIE (X : Cx) (pins : List (Addr × Obj)) (σ : St) (tg : Expr) (R : It → Hp → Prop) (itv : Value) (s2 : Shared) : Prop :=
  ∃ (it : Addr) (fp : List Addr) (tn : Nat → Heap → Prop) (J : It) (H' : Hp), itv = .ref it ∧ Inv X pins σ H' s2 ∧ Turn X.prog X.w X.K tg J fp it tn ∧ tn 0 s2.heap ∧ (∀ b ∈ fp, FpOk X pins H' b) ∧ R J H'
def PI (X : Cx) (tg iter : Expr) (wi : TI) : Prop :=
  ∀ (pins : List (Addr × Obj)) (s : Shared) (σ : St) (H : Hp) (R : It → Hp → Prop), Inv X pins σ H s → wi σ H R →
    wpAny (model X.prog X.w) X.A (eval iter X.env) (fun v s1 => wpAny (model X.prog X.w) X.A (pyIter v) (PIE X pins σ tg R) X.xe s1) X.xe s
theorem Va {M : Model} {A : Around} {E : Value → Shared → Prop} {s : Shared} {tg : Expr} {it : Addr} {u : Value} {o : Obj} {n : String} {vs : Array Value} {Q : Unit → Shared → Prop} (ho : s.heap.get? it = some o) (hc : o.cls = .type n) (hd : o.data = .fields vs)
    (hn : ["enumerate", "zip", "dict_itemiterator", "dict_reverseitemiterator", "odict_iterator", "itertools.zip_longest", "itertools.pairwise"].contains n = false) (hQ : Q () s) : wpAny M A (letOwnedTupleGo tg (.ref it) u) Q E s := by
  unfold letOwnedTupleGo
  cases tg <;> first
    | exact wpAny_pure hQ
    | (cases u <;> first
        | exact wpAny_pure hQ
        | (refine wpAny_bind (wpAny_load ho ?_)
           rw [hc, hd]
           show wpAny M A (if (["enumerate", "zip", "dict_itemiterator", "dict_reverseitemiterator", "odict_iterator", "itertools.zip_longest", "itertools.pairwise"].contains n && vs[0]? == some (rawInt _)) = true then _ else _) Q E s
           rw [if_neg (by intro h; rw [hn, Bool.false_and] at h; cases h)]
           exact wpAny_pure hQ))
def Itl (K : PySem.W.Frag) (a : Addr) : It :=
  ⟨fun i H => ∃ xs x, SqL K H a xs ∧ xs[i]? = some x, fun i H x H' => H' = H ∧ ∀ xs, SqL K H a xs → xs[i]? = some x, fun i H => ∃ xs, SqL K H a xs ∧ xs.length ≤ i⟩
def Itt (K : PySem.W.Frag) (a : Addr) : It :=
  ⟨fun i H => ∃ xs x, SqT K H a xs ∧ xs[i]? = some x, fun i H x H' => H' = H ∧ ∀ xs, SqT K H a xs → xs[i]? = some x, fun i H => ∃ xs, SqT K H a xs ∧ xs.length ≤ i⟩
def Itr (lo : Int) (n : Nat) : It := ⟨fun i _ => i < n, fun i H x H' => H' = H ∧ x = .int (lo + i), fun i _ => n ≤ i⟩
theorem QM {P : Program} {w : World} {K : PySem.W.Frag} {tg : Expr} (a it : Addr) : Turn P w K tg (Itl K a) [it] it (fun i h => h.IsListIter it a i) where
  mem := by simp
  obj := fun i h st b hb => by
    have e : b = it := by simpa using hb
    subst e
    obtain ⟨o, e, c, d⟩ := st
    exact ⟨o, e, fun v z => by rw [d] at z; cases z⟩
  keep := fun i h h' st k => st.at fun o e => k it (by simp) o e
  item := by
    intro X hP hw hK hc i pins s σ H E I hf st hg
    subst hP hw hK
    obtain ⟨xs, x, hq, hx⟩ := hg
    obtain ⟨its, rv, p, hz⟩ := I.list hq
    obtain ⟨u, hu, ru⟩ := rv.get hx
    obtain ⟨f0, f1, f2, f3, f4, f5⟩ := hf it (by simp)
    refine wpAny_pyNext_list_item st p.isList (x := u) (by simpa using hu) fun h' st' sb => ?_
    have I1 : Inv X pins σ H { s with heap := h' } := I.turned (t' := s.toks) (fun b o hb e => (sb.2 b hb).trans e) f0 f1 f3 f4 f5
    obtain ⟨o, e, c, d⟩ := id st'
    exact ⟨u, rfl, Va (s := { s with heap := h' }) e c d (by decide) ⟨x, H, I1, ru, ⟨rfl, fun ys hy => by rw [I.list_inj hy hq]; exact hx⟩, st', fun b hb => (hf b hb).1⟩⟩
  done := by
    intro X hP hw hK hc i pins s σ H E I hf st hg
    subst hP hw hK
    obtain ⟨xs, hq, hx⟩ := hg
    obtain ⟨its, rv, p, hz⟩ := I.list hq
    obtain ⟨f0, f1, f2, f3, f4, f5⟩ := hf it (by simp)
    have hl := rv.length
    exact wpAny_pyNext_list_end (I.ok.hd hc) st p.isList (by simp; omega) fun h' eb => ⟨rfl, I.turned (t' := s.toks) (fun b o hb e => eb b o hb e) f0 f1 f3 f4 f5⟩
  self := fun _ _ _ _ _ st h => wpAny_pyIter_listiter st h
theorem XS {P : Program} {w : World} {K : PySem.W.Frag} {tg : Expr} (a it : Addr) : Turn P w K tg (Itt K a) [it] it (fun i h => h.IsTupleIter it a i) where
  mem := by simp
  obj := fun i h st b hb => by
    have e : b = it := by simpa using hb
    subst e
    obtain ⟨o, e, c, d⟩ := st
    exact ⟨o, e, fun v z => by rw [d] at z; cases z⟩
  keep := fun i h h' st k => st.at fun o e => k it (by simp) o e
  item := by
    intro X hP hw hK hc i pins s σ H E I hf st hg
    subst hP hw hK
    obtain ⟨xs, x, hq, hx⟩ := hg
    obtain ⟨its, rv, p, hz⟩ := I.tuple hq
    obtain ⟨u, hu, ru⟩ := rv.get hx
    obtain ⟨f0, f1, f2, f3, f4, f5⟩ := hf it (by simp)
    refine wpAny_pyNext_tuple_item st (show s.heap.IsTuple a its.toArray from p) (x := u) (by simpa using hu) fun h' st' sb => ?_
    have I1 : Inv X pins σ H { s with heap := h' } := I.turned (t' := s.toks) (fun b o hb e => (sb.2 b hb).trans e) f0 f1 f3 f4 f5
    obtain ⟨o, e, c, d⟩ := id st'
    exact ⟨u, rfl, Va (s := { s with heap := h' }) e c d (by decide) ⟨x, H, I1, ru, ⟨rfl, fun ys hy => by rw [I.tuple_inj hy hq]; exact hx⟩, st', fun b hb => (hf b hb).1⟩⟩
  done := by
    intro X hP hw hK hc i pins s σ H E I hf st hg
    subst hP hw hK
    obtain ⟨xs, hq, hx⟩ := hg
    obtain ⟨its, rv, p, hz⟩ := I.tuple hq
    obtain ⟨f0, f1, f2, f3, f4, f5⟩ := hf it (by simp)
    have hl := rv.length
    exact wpAny_pyNext_tuple_end (I.ok.hd hc) st (show s.heap.IsTuple a its.toArray from p) (by simp; omega) fun h' eb => ⟨rfl, I.turned (t' := s.toks) (fun b o hb e => eb b o hb e) f0 f1 f3 f4 f5⟩
  self := fun _ _ _ _ _ st h => wpAny_pyIter_tupleiter st h
theorem XT {P : Program} {w : World} {K : PySem.W.Frag} {tg : Expr} (it : Addr) (lo : Int) (n : Nat) : Turn P w K tg (Itr lo n) [it] it (fun i h => IsRangeIter h it (lo + (i : Nat) * 1) ((n : Int) - (i : Nat)) 1) where
  mem := by simp
  obj := fun i h st b hb => by
    have e : b = it := by simpa using hb
    subst e
    exact ⟨_, st, fun v z => by
      have z' : Data.fields _ = Data.cell v := z
      cases z'⟩
  keep := fun i h h' st k => k it (by simp) _ st
  item := by
    intro X hP hw hK hc i pins s σ H E I hf st hg
    subst hP hw hK
    obtain ⟨f0, f1, f2, f3, f4, f5⟩ := hf it (by simp)
    have W := Walks.range (prog := X.prog) (w := X.w) (I.ok.hd hc) it lo 1 n
    refine W.item i s _ _ hg st fun v h' tk hv st' kk => ?_
    obtain ⟨t, rfl⟩ := hv
    have I1 : Inv X pins σ H { s with heap := h', toks := tk } := I.turned (fun b o hb e => kk b o (by simpa using hb) e) f0 f1 f3 f4 f5
    refine ⟨_, rfl, Va (s := { s with heap := h', toks := tk }) (n := "range_iterator") st' rfl rfl (by decide) ⟨.int (lo + i), H, I1, ⟨t, ?_⟩, ⟨rfl, rfl⟩, st', fun b hb => (hf b hb).1⟩⟩
    rw [Int.mul_one]
  done := by
    intro X hP hw hK hc i pins s σ H E I hf st hg
    subst hP hw hK
    obtain ⟨f0, f1, f2, f3, f4, f5⟩ := hf it (by simp)
    exact wpAny_pyNext_range_end (I.ok.hd hc) st (by have : n ≤ i := hg; omega) fun h' eb => ⟨rfl, I.turned (t' := s.toks) (fun b o hb e => eb b o hb e) f0 f1 f3 f4 f5⟩
  self := fun _ _ _ _ _ st h => wpAny_pyIter_rangeiter st h
end L2
namespace L2
open PySem PySem.Spec PyProof.Rows
section
variable {X : Cx} {tg : Expr}
theorem Ub {pins : List (Addr × Obj)} {σ : St} {H : Hp} {s : Shared} {R : It → Hp → Prop} {E : Value → Shared → Prop} {lo hi : Int} {t u v : Tok} {tk : Nat} (I : Inv X pins σ H s) (h1 : -(2 ^ 62) ≤ lo) (h2 : lo < 2 ^ 62) (h3 : -(2 ^ 62) ≤ hi) (h4 : hi < 2 ^ 62)
    (q : R (Itr lo (hi - lo).toNat) H) : wpAny (model X.prog X.w) X.A (pyIter (.ref s.heap.objs.size)) (PIE X pins σ tg R) E { s with heap := s.heap.push { cls := .type "range", data := .fields #[.int lo t, .int hi u, .int 1 v] }, toks := tk } := by
  refine wpAny_pyIter_range (IsRange.new ..) (small_one h1 h2 h3 h4) ?_
  have I1 : Inv X pins σ H { s with heap := s.heap.push { cls := .type "range", data := .fields #[.int lo t, .int hi u, .int 1 v] }, toks := tk } := I.kept fun b o e => Heap.get?_push_of_some _ e
  refine ⟨(s.heap.push { cls := .type "range", data := .fields #[.int lo t, .int hi u, .int 1 v] }).objs.size, [(s.heap.push { cls := .type "range", data := .fields #[.int lo t, .int hi u, .int 1 v] }).objs.size], _, _, H, rfl,
    I1.kept (t' := tk) fun b o e => Heap.get?_push_of_some _ e, XT _ lo (hi - lo).toNat, ?_, fun b hb => ?_, q⟩
  · have e1 : lo + ((0 : Nat) : Int) * 1 = lo := by simp
    have e2 : (((hi - lo).toNat : Nat) : Int) - ((0 : Nat) : Int) = Builtin.Range.rangeSize lo hi 1 := by rw [rangeSize_one]; split <;> omega
    show IsRangeIter _ _ (lo + ((0 : Nat) : Int) * 1) ((((hi - lo).toNat : Nat) : Int) - ((0 : Nat) : Int)) 1
    rw [e1, e2]
    exact Heap.get?_push_size _ rfl
  · have e : b = (s.heap.push { cls := .type "range", data := .fields #[.int lo t, .int hi u, .int 1 v] }).objs.size := by simpa using hb
    subst e
    exact I1.fpOk (Nat.le_refl _) (I1.hok.fresh (Nat.le_refl _))
def jbW (ta : TA) : TI := fun σ H R => ta σ H fun vs H1 => ∃ j : Int, vs = [.int j] ∧ -(2 ^ 62) ≤ j ∧ j < 2 ^ 62 ∧ R (Itr 0 j.toNat) H1
theorem Kf {a : Expr} {ta : TA} {p pos : Pos} (hg : Gl X "range") (hm : X.mg "range" = none) (ha : PA X [a] ta) (hs : starEach [a] X.env = [(false, eval a X.env)] := by rfl) : PI X tg (.Call (.Name "range" p) [a] [] pos) (jbW ta) := by
  intro pins s σ H R I h
  refine Call_ (y0 I hg hm boot_range (PyProof.Rows.callWith_type1 (thn (ha pos pins s σ H _ I h) fun us s1 ⟨vs, H1, I1, r1, q1⟩ => ?_) hs rfl))
  obtain ⟨j, e, q1, q2, q⟩ := q1
  subst e
  cases r1 with
  | cons r rr =>
    cases rr
    obtain ⟨t, rfl⟩ := r
    exact call_range_1 (Ub I1 (by omega) (by omega) q1 q2 (by simpa using q))
def tFor (wi : TI) (g : TG) (tb : TS) : TS := fun D σ H => wi σ H fun J H1 => ∃ W : Nat → Nat → St → Hp → Prop, (∃ m, W 0 m σ H1) ∧ ∀ i m σ H, W i m σ H →
  (J.stop i H ∧ D.nx σ H) ∨ (J.go i H ∧ ∃ N : St → Hp → Prop, (∀ σ' H', N σ' H' → ∃ m', m' < m ∧ W (i + 1) m' σ' H') ∧ ∀ x H', J.yld i H x H' → g x σ H' fun σ2 H2 => tb { D with nx := N, ct := N, bk := D.nx } σ2 H2)
def QX (fp : List Addr) (h : Heap) : List (Addr × Obj) := fp.filterMap fun b => (h.get? b).map fun o => (b, o)
theorem xo {fp : List Addr} {h : Heap} {b : Addr} {o : Obj} (hb : b ∈ fp) (e : h.get? b = some o) : (b, o) ∈ QX fp h := List.mem_filterMap.mpr ⟨b, hb, by rw [e]; rfl⟩
theorem Kt {fp : List Addr} {h : Heap} {p : Addr × Obj} (hp : p ∈ QX fp h) : p.1 ∈ fp ∧ h.get? p.1 = some p.2 := by
  obtain ⟨b, hb, e⟩ := List.mem_filterMap.mp hp
  cases q : h.get? b with
  | none => rw [q] at e; cases e
  | some o =>
    rw [q] at e
    have e' : (b, o) = p := Option.some.inj e
    subst e'
    exact ⟨hb, q⟩
theorem Inv.pinned {pins : List (Addr × Obj)} {σ : St} {H : Hp} {s : Shared} {fp : List Addr} (I : Inv X pins σ H s) (hf : ∀ b ∈ fp, FpOk X pins H b) (ho : ∀ b ∈ fp, ∃ o, s.heap.get? b = some o ∧ ∀ v, o.data ≠ .cell v) : Inv X (pins ++ QX fp s.heap) σ H s :=
  I.pins_of fun p hp => (List.mem_append.mp hp).elim (fun z => I.pin p (List.mem_append_right _ z)) fun z => by
    obtain ⟨hb, e⟩ := Kt z
    obtain ⟨f0, f1, f2, _⟩ := hf p.1 hb
    obtain ⟨o, e', d⟩ := ho p.1 hb
    rw [e] at e'; cases e'
    exact ⟨e, f0, f1, f2, d⟩
theorem Inv.unpinned {pins pl : List (Addr × Obj)} {σ : St} {H : Hp} {s : Shared} (I : Inv X (pins ++ pl) σ H s) : Inv X pins σ H s := I.pins_of fun p hp => I.pin p (List.mem_append_right _ (List.mem_append_left _ hp))
theorem jax {iter : Expr} {body : List Stmt} {wi : TI} {g : TG} {tb : TS} {pos : Pos} (hp : PassesOwn (model X.prog X.w) X.A X.env X.xe) (hc : X.calm = true) (hi : PI X tg iter wi) (hg : PG X tg g) (hb : PSs X body tb)
    (hs : ∀ x, foldedSetIterable iter X.env x = pure x := by intro _; rfl) : PS X (.For tg iter body [] pos) (tFor wi g tb) := by
  intro pins s σ H D I h
  refine wpAny_For (thn (hi pins s σ H _ I h) fun v s1 h1 => thn h1 fun itv s2 h2 => ?_) hs
  obtain ⟨it, fp, tn, J, H2, e, I2, T, st2, f2, W, ⟨m0, w0⟩, turn⟩ := h2
  subst e
  have stat : ∀ {H' : Hp}, (∀ b ∈ fp, H' b = none) → ∀ b ∈ fp, FpOk X pins H' b := fun hn b hb => ⟨hn b hb, (f2 b hb).2⟩
  refine codeAny_forLoop_any (fun n s' => ∃ i σ' H', Inv X pins σ' H' s' ∧ tn i s'.heap ∧ (∀ b ∈ fp, H' b = none) ∧ W i n σ' H') ?_ m0 ⟨0, σ, H2, I2, st2, fun b hb => (f2 b hb).1, w0⟩
  rintro n s3 ⟨i, σ3, H3, I3, st3, fr3, w3⟩
  rcases turn i n σ3 H3 w3 with ⟨stop, qn⟩ | ⟨go, N, hN, step⟩
  · refine wpAny_passesOwn hp (thn (T.done X rfl rfl rfl hc i pins s3 σ3 H3 X.xe I3 (stat fr3) st3 stop) fun r s4 ⟨hr, I4⟩ => ?_)
    subst hr
    exact wpAny_execs_nil ⟨σ3, H3, I4, qn⟩
  · refine wpAny_passesOwn hp (thn (T.item X rfl rfl rfl hc i pins s3 σ3 H3 X.xe I3 (stat fr3) st3 go) fun r s4 ⟨u, hr, h4⟩ => ?_)
    subst hr
    refine wpAny_passesOwn hp (thn h4 fun _ s5 ⟨x, H5, I5, r5, y5, st5, fr5⟩ => ?_)
    have I5' := I5.pinned (stat fr5) (T.obj _ _ st5)
    refine wpAny_passesOwn hp (thn (hg _ s5 σ3 H5 x u _ I5' r5 (step x H5 y5)) fun _ s6 ⟨σ6, H6, I6, q6⟩ => ?_)
    refine wpAny_passesOwn hp (thn (hb _ s6 σ6 H6 _ I6 q6) fun f s7 q7 => ?_)
    have again : ∀ {σ7 : St} {H7 : Hp}, Inv X (pins ++ QX fp s5.heap) σ7 H7 s7 → N σ7 H7 → ∃ m, m < n ∧ ∃ i σ' H', Inv X pins σ' H' s7 ∧ tn i s7.heap ∧ (∀ b ∈ fp, H' b = none) ∧ W i m σ' H' := fun {σ7 H7} I7 n7 => by
      obtain ⟨m', hm, w7⟩ := hN σ7 H7 n7
      refine ⟨m', hm, i + 1, σ7, H7, I7.unpinned, T.keep _ _ _ st5 fun b hb o e => (I7.pin (b, o) (List.mem_append_right _ (List.mem_append_right _ (xo hb e)))).1, fun b hb => ?_, w7⟩
      obtain ⟨o, e, d⟩ := T.obj _ _ st5 b hb
      exact (I7.pin (b, o) (List.mem_append_right _ (List.mem_append_right _ (xo hb e)))).2.1
    cases f with
    | next => obtain ⟨σ7, H7, I7, n7⟩ := q7; exact again I7 n7
    | cont => obtain ⟨σ7, H7, I7, n7⟩ := q7; exact again I7 n7
    | brk => obtain ⟨σ7, H7, I7, q7⟩ := q7; exact ⟨σ7, H7, I7.unpinned, q7⟩
    | ret v => obtain ⟨x7, σ7, H7, I7, r7, q7⟩ := q7; exact ⟨x7, σ7, H7, I7.unpinned, r7, q7⟩
end
end L2
namespace L2
open PySem PySem.Spec PyProof.Rows
abbrev R2 := V → V → Hp → VK → Prop
def OpR (X : Cx) (f : Value → Value → Sem Value) (r : R2) : Prop :=
  ∀ (pins : List (Addr × Obj)) (s : Shared) (σ : St) (H : Hp) (x y : V) (v u : Value) (Q : VK), Inv X pins σ H s → RelV x v → RelV y u → r x y H Q →
    wpAny (model X.prog X.w) X.A (f v u) (EP X pins σ Q) X.xe s
def CallR (X : Cx) (f : Value) (r : List V → Hp → VK → Prop) : Prop :=
  ∀ (pins : List (Addr × Obj)) (s : Shared) (σ : St) (H : Hp) (xs : List V) (us : List Value) (Q : VK), Inv X pins σ H s → Vals xs us → r xs H Q →
    wpAny (model X.prog X.w) X.A (call f us) (EP X pins σ Q) X.xe s
def TruR (X : Cx) (r : V → Hp → (Bool → Hp → Prop) → Prop) : Prop :=
  ∀ (pins : List (Addr × Obj)) (s : Shared) (σ : St) (H : Hp) (x : V) (v : Value) (Q : Bool → Hp → Prop), Inv X pins σ H s → RelV x v → r x H Q →
    wpAny (model X.prog X.w) X.A (truthy v) (TP X pins σ Q) X.xe s
def tOp (r : R2) (ta tb : TE) : TE := fun σ H Q => ta σ H fun x H1 => tb σ H1 fun y H2 => r x y H2 Q
def rI (C : Int → Int → Prop) (g : Int → Int → V) : R2 := fun x y H Q => ∃ i j, x = .int i ∧ y = .int j ∧ C i j ∧ Q (g i j) H
def rI0 (g : Int → Int → V) : R2 := fun x y H Q => ∃ i j, x = .int i ∧ y = .int j ∧ Q (g i j) H
section
variable {X : Cx} {a b c : Expr} {ta tb tc : TE} {pos : Pos}
theorem binT (ha : PE X a ta) (hb : PE X b tb) {pins : List (Addr × Obj)} {s : Shared} {σ : St} {H : Hp} {R : V → V → Hp → Prop} (I : Inv X pins σ H s)
    (h : ta σ H fun x H1 => tb σ H1 fun y H2 => R x y H2) {Q : Value → Shared → Prop} {f : Value → Value → Sem Value}
    (hf : ∀ v u s2 x y H2, Inv X pins σ H2 s2 → RelV x v → RelV y u → R x y H2 → wpAny (model X.prog X.w) X.A (f v u) Q X.xe s2) :
    wpAny (model X.prog X.w) X.A (eval a X.env) (fun v s₁ => wpAny (model X.prog X.w) X.A (eval b X.env) (fun u s₂ => wpAny (model X.prog X.w) X.A (f v u) Q X.xe s₂) X.xe s₁) X.xe s := by
  refine thn (ha pins s σ H _ I h) fun v s1 ⟨x, H1, I1, r1, q1⟩ => ?_
  refine thn (hb pins s1 σ H1 _ I1 q1) fun u s2 ⟨y, H2, I2, r2, q2⟩ => ?_
  exact hf v u s2 x y H2 I2 r1 r2 q2
theorem vW {op : Operator} {r : R2} (ho : OpR X (binaryOp op) r) (ha : PE X a ta) (hb : PE X b tb) : PE X (.BinOp a op b pos) (tOp r ta tb) := by
  intro pins s σ H Q I h
  exact wpAny_BinOp (binT ha hb I h fun v u s2 x y H2 I2 rx ry q => ho pins s2 σ H2 x y v u Q I2 rx ry q)
theorem opI {f : Value → Value → Sem Value} {C : Int → Int → Prop} {g : Int → Int → Int}
    (rule : ∀ (i j : Int) (t u : Tok) (s : Shared) (Q : Value → Shared → Prop) (E : Value → Shared → Prop), C i j → Q (.int (g i j) s.toks) { s with toks := s.toks + 1 } → wpAny (model X.prog X.w) X.A (f (.int i t) (.int j u)) Q E s) :
    OpR X f (rI C fun i j => .int (g i j)) := by
  intro pins s σ H x y v u Q I rx ry h
  obtain ⟨i, j, rfl, rfl, hc, q⟩ := h
  obtain ⟨t, rfl⟩ := rx
  obtain ⟨t', rfl⟩ := ry
  exact rule i j t t' s _ _ hc ⟨.int (g i j), H, I.tok _, ⟨_, rfl⟩, q⟩
theorem opI0 {f : Value → Value → Sem Value} {g : Int → Int → Int}
    (rule : ∀ (i j : Int) (t u : Tok) (s : Shared) (Q : Value → Shared → Prop) (E : Value → Shared → Prop), Q (.int (g i j) s.toks) { s with toks := s.toks + 1 } → wpAny (model X.prog X.w) X.A (f (.int i t) (.int j u)) Q E s) :
    OpR X f (rI0 fun i j => .int (g i j)) := by
  intro pins s σ H x y v u Q I rx ry h
  obtain ⟨i, j, rfl, rfl, q⟩ := h
  obtain ⟨t, rfl⟩ := rx
  obtain ⟨t', rfl⟩ := ry
  exact rule i j t t' s _ _ ⟨.int (g i j), H, I.tok _, ⟨_, rfl⟩, q⟩
theorem opB0 {f : Value → Value → Sem Value} {g : Int → Int → Bool}
    (rule : ∀ (i j : Int) (t u : Tok) (s : Shared) (Q : Value → Shared → Prop) (E : Value → Shared → Prop), Q (.bool (g i j)) s → wpAny (model X.prog X.w) X.A (f (.int i t) (.int j u)) Q E s) :
    OpR X f (rI0 fun i j => .bl (g i j)) := by
  intro pins s σ H x y v u Q I rx ry h
  obtain ⟨i, j, rfl, rfl, q⟩ := h
  obtain ⟨t, rfl⟩ := rx
  obtain ⟨t', rfl⟩ := ry
  exact rule i j t t' s _ _ ⟨.bl (g i j), H, I, rfl, q⟩
def CDiv (i j : Int) : Prop := 0 < j ∧ j < 1073741824
def CPow (i j : Int) : Prop := 0 ≤ j ∧ j ≤ 1000000 ∧ i.natAbs < 2 ^ 64
theorem op_add : OpR X (binaryOp .Add) (rI0 fun i j => .int (i + j)) := opI0 fun _ _ _ _ _ _ _ q => add_int q
theorem Kn : OpR X (binaryOp .Sub) (rI0 fun i j => .int (i - j)) := opI0 fun _ _ _ _ _ _ _ q => sub_int q
theorem Kp : OpR X (binaryOp .FloorDiv) (rI CDiv fun i j => .int (i / j)) := opI fun i j _ _ _ _ _ hc q => by
  have h1 : (0 : Int) < j := hc.1
  have h2 : j < 1073741824 := hc.2
  exact floordiv_int (by omega) (by rw [Int.fdiv_eq_ediv_of_nonneg i (by omega)]; exact q) (.inl (PyProof.noPylong_small (by omega)))
theorem zC : OpR X (binaryOp .Mod) (rI (fun _ j => 0 < j) fun i j => .int (i % j)) := opI fun i j _ _ _ _ _ hc q => by
  have h1 : (0 : Int) < j := hc
  exact mod_int' (by omega) (by rw [Int.fmod_eq_emod_of_nonneg i (by omega)]; exact q)
theorem Q4 : OpR X (binaryOp .Pow) (rI CPow fun i j => .int (i ^ j.toNat)) := opI fun _ _ _ _ _ _ _ hc q => pow_int_small hc.1 hc.2.1 hc.2.2 q
end
section
variable {X : Cx} {a b c : Expr} {ta tb tc : TE} {pos : Pos}
theorem jbf {pins : List (Addr × Obj)} {σ : St} {H : Hp} {s : Shared} {Q : VK} {k k' : Bool} (I : Inv X pins σ H s) (q : Q (.bl k) H) (e : k = k') : EP X pins σ Q (.bool k') s := by
  subst e
  exact ⟨.bl k, H, I, rfl, q⟩
theorem jbQ : OpR X (compareOp .Lt) (rI0 fun i j => .bl (decide (i < j))) := opB0 fun _ _ _ _ _ _ _ q => lt_int q
theorem X5 : OpR X (compareOp .LtE) (rI0 fun i j => .bl (decide (i ≤ j))) := opB0 fun _ _ _ _ _ _ _ q => le_int q
theorem Ut : OpR X (compareOp .Gt) (rI0 fun i j => .bl (decide (j < i))) := opB0 fun _ _ _ _ _ _ _ q => gt_int q
theorem Ko : OpR X (compareOp .In) (fun x y H Q => ∃ i j, x = .str i ∧ y = .str j ∧ Q (.bl (!(Builtin.Str.occurrences j i 0 j.length 1).isEmpty)) H) := by
  intro pins s σ H x y v u Q I rx ry h
  obtain ⟨i, j, rfl, rfl, q⟩ := h
  obtain ⟨t, rfl⟩ := rx
  obtain ⟨t', rfl⟩ := ry
  exact in_str (jbf I q rfl)
theorem OpR.or {f : Value → Value → Sem Value} {r r' : R2} (h : OpR X f r) (h' : OpR X f r') : OpR X f (fun x y H Q => r x y H Q ∨ r' x y H Q) := by
  intro pins s σ H x y v u Q I rx ry q
  rcases q with q | q
  · exact h pins s σ H x y v u Q I rx ry q
  · exact h' pins s σ H x y v u Q I rx ry q
theorem kY (b : Expr) {op : CmpOp} (h : op ≠ .In := by decide) (h2 : op ≠ .NotIn := by decide) : behindInMarks op b = false := by
  have e1 : (op == CmpOp.In) = false := by cases op <;> first | rfl | exact absurd rfl h
  have e2 : (op == CmpOp.NotIn) = false := by cases op <;> first | rfl | exact absurd rfl h2
  cases b <;> simp [behindInMarks, e1, e2]
theorem vY {op : CmpOp} {r : R2} (ho : OpR X (compareOp op) r) (ha : PE X a ta) (hb : PE X b tb) (hm : behindInMarks op b = false) : PE X (.Compare a [op] [b] pos) (tOp r ta tb) := by
  intro pins s σ H Q I h
  exact wpAny_Compare1 (binT ha hb I h fun v u s2 x y H2 I2 rx ry q => ho pins s2 σ H2 x y v u Q I2 rx ry q) hm
def vC (t : TE) : TT := fun σ H Q => t σ H fun x H' => ∃ k, x = .bl k ∧ Q k H'
theorem vQ {op : CmpOp} {r : R2} (ho : OpR X (compareOp op) r) (ha : PE X a ta) (hb : PE X b tb) (hm : behindInMarks op b = false) : PT X (.Compare a [op] [b] pos) (vC (tOp r ta tb)) := by
  intro pins s σ H Q I h
  refine wpAny_isTrue_Compare1 (thn (ha pins s σ H _ I h) fun v s1 ⟨x, H1, I1, r1, q1⟩ => thn (hb pins s1 σ H1 _ I1 q1) fun u s2 ⟨y, H2, I2, r2, q2⟩ =>
    thn (ho pins s2 σ H2 x y v u _ I2 r1 r2 q2) fun c s3 ⟨z, H3, I3, r3, k, e, q3⟩ => ?_) hm
  subst e
  cases r3
  exact wpAny_truthy_bool ⟨H3, I3, q3⟩
def YU (r r' : R2) (ta tb tc : TE) : TE := fun σ H Q => ta σ H fun x H1 => tb σ H1 fun y H2 => r x y H2 fun z H3 => ∃ k, z = .bl k ∧
  (if k = true then tc σ H3 fun w' H4 => r' y w' H4 Q else Q (.bl false) H3)
theorem Um {op op' : CmpOp} {r r' : R2} (ho : OpR X (compareOp op) r) (ho' : OpR X (compareOp op') r') (ha : PE X a ta) (hb : PE X b tb) (hc : PE X c tc)
    (hm : lastMarks [op, op'] [b, c] = false := by with_unfolding_all rfl) : PE X (.Compare a [op, op'] [b, c] pos) (YU r r' ta tb tc) := by
  intro pins s σ H Q I h
  refine Compare_chain (thn (ha pins s σ H _ I h) fun v s1 ⟨x, H1, I1, r1, q1⟩ => chain_link (thn (hb pins s1 σ H1 _ I1 q1) fun u s2 ⟨y, H2, I2, r2, q2⟩ =>
    thn (ho pins s2 σ H2 x y v u _ I2 r1 r2 q2) fun d s3 ⟨z, H3, I3, r3, k, e, q3⟩ => ?_)) hm
  subst e
  cases r3
  refine wpAny_truthy_bool ?_
  cases k with
  | false => exact ite_ff ⟨.bl false, H3, I3, rfl, q3⟩
  | true => exact ite_tt (chain_last (thn (hc pins s3 σ H3 _ I3 q3) fun w' s4 ⟨z', H4, I4, r4, q4⟩ => ho' pins s4 σ H4 y z' u w' Q I4 r2 r4 q4))
theorem Ue {op op' : CmpOp} {r r' : R2} (ho : OpR X (compareOp op) r) (ho' : OpR X (compareOp op') r') (ha : PE X a ta) (hb : PE X b tb) (hc : PE X c tc)
    (hm : lastMarks [op, op'] [b, c] = false := by with_unfolding_all rfl) : PT X (.Compare a [op, op'] [b, c] pos) (vC (YU r r' ta tb tc)) := by
  intro pins s σ H Q I h
  refine isTrue_chain (thn (ha pins s σ H _ I h) fun v s1 ⟨x, H1, I1, r1, q1⟩ => test_link (thn (hb pins s1 σ H1 _ I1 q1) fun u s2 ⟨y, H2, I2, r2, q2⟩ =>
    thn (ho pins s2 σ H2 x y v u _ I2 r1 r2 q2) fun d s3 ⟨z, H3, I3, r3, k, e, q3⟩ => ?_)) hm
  subst e
  cases r3
  refine wpAny_truthy_bool ?_
  cases k with
  | false =>
    obtain ⟨k', e', q'⟩ := q3
    cases e'
    exact ite_ff ⟨H3, I3, q'⟩
  | true =>
    refine ite_tt (test_last (thn (hc pins s3 σ H3 _ I3 q3) fun w' s4 ⟨z', H4, I4, r4, q4⟩ => thn (ho' pins s4 σ H4 y z' u w' _ I4 r2 r4 q4) fun d' s5 ⟨z2, H5, I5, r5, k2, e2, q5⟩ => ?_))
    subst e2
    cases r5
    exact wpAny_truthy_bool ⟨H5, I5, q5⟩
def TruV (K : PySem.W.Frag) (x : V) (H : Hp) (k : Bool) : Prop :=
  match x with
  | .non => k = false
  | .bl b => k = b
  | .int i => k = (i != 0)
  | .str y => y.length ≤ sizeLine ∧ k = ((y.length : Int) != 0)
  | .byt y => y.size ≤ sizeLine ∧ k = ((y.size : Int) != 0)
  | .ref p => (∃ xs, SqL K H p xs ∧ k = !xs.isEmpty) ∨ (∃ xs, SqT K H p xs ∧ k = !xs.isEmpty) ∨ ∃ kvs, H p = some (.dK kvs) ∧ k = !kvs.isEmpty
  | _ => False
theorem Yi {κ : Type} {kvs : List (κ × V)} {vs : List (κ × Value)} (r : KV kvs vs) : (!vs.isEmpty) = !kvs.isEmpty := by
  cases r <;> rfl
theorem JN {xs : List V} {its : List Value} (r : Vals xs its) : (!its.toArray.isEmpty) = !xs.isEmpty := by
  cases r <;> simp
theorem JK : (sizeLine : Nat) < 2 ^ 63 := by rw [sizeLine_eq]; decide
theorem jab : TruR X (fun x H Q => ∃ k, TruV X.K x H k ∧ Q k H) := by
  intro pins s σ H x v Q I rx h
  obtain ⟨k, e, q⟩ := h
  have hl := JK
  have hs : sizeLine = 16777216 := sizeLine_eq
  cases x with
  | non =>
    cases rx
    have e' : k = false := e
    subst e'
    exact truthy_none ⟨H, I, q⟩
  | bl b =>
    cases rx
    have e' : k = b := e
    subst e'
    exact wpAny_truthy_bool ⟨H, I, q⟩
  | int i =>
    obtain ⟨t, rfl⟩ := rx
    have e' : k = (i != 0) := e
    subst e'
    exact PySem.P.truthy_int ⟨H, I, q⟩
  | str y =>
    obtain ⟨t, rfl⟩ := rx
    obtain ⟨hy, e'⟩ : y.length ≤ sizeLine ∧ k = ((y.length : Int) != 0) := e
    subst e'
    exact PySem.P.truthy_str (by omega) ⟨H, I.tok _, q⟩
  | byt y =>
    obtain ⟨t, rfl⟩ := rx
    obtain ⟨hy, e'⟩ : y.size ≤ sizeLine ∧ k = ((y.size : Int) != 0) := e
    subst e'
    exact PySem.W.truthy_bytes (by omega) ⟨H, I.tok _, q⟩
  | ref p =>
    cases rx
    have e' : (∃ xs, SqL X.K H p xs ∧ k = !xs.isEmpty) ∨ (∃ xs, SqT X.K H p xs ∧ k = !xs.isEmpty) ∨ ∃ kvs, H p = some (.dK kvs) ∧ k = !kvs.isEmpty := e
    rcases e' with ⟨xs, hx, e'⟩ | ⟨xs, hx, e'⟩ | ⟨kvs, hx, e'⟩
    · subst e'
      obtain ⟨its, r, pl, hz⟩ := I.list hx
      have hlen := r.length
      exact wpAny_truthy_list pl.isList (by simp only [List.size_toArray]; omega) ⟨H, I.tok _, by rw [JN r]; exact q⟩
    · subst e'
      obtain ⟨its, r, pl, hz⟩ := I.tuple hx
      have hlen := r.length
      exact truthy_tuple pl (by simp only [List.size_toArray]; omega) ⟨H, I.tok _, by rw [JN r]; exact q⟩
    · subst e'
      obtain ⟨hz, hS, vs, r, m⟩ : kvs.length ≤ sizeLine ∧ (p == sysModules) = false ∧ ∃ vs, KV kvs vs ∧ s.heap.DictOf (jI X.prog X.w) p vs := I.hok p _ hx
      have hlen : kvs.length = vs.length := Paired.length r
      exact wpAny_truthy_dict hS m (by omega) ⟨H, I.tok _, by rw [Yi r]; exact q⟩
  | _ => exact (show False from e).elim
theorem Ud (ha : PE X a ta) (he : ∀ whole, isTrue a X.env whole = (do let v ← whole; standAt a.pos; holding [v] (truthy v))) :
    PT X a (fun σ H Q => ta σ H fun x H' => ∃ k, TruV X.K x H' k ∧ Q k H') := by
  intro pins s σ H Q I h
  exact isTrue_plain (thn (ha pins s σ H _ I h) fun v s1 ⟨x, H1, I1, r1, q1⟩ => jab pins s1 σ H1 x v Q I1 r1 q1) (he _)
theorem op_add_str : OpR X (binaryOp .Add) (fun x y H Q => ∃ i j, x = .str i ∧ y = .str j ∧ i.length + j.length ≤ sizeLine ∧ Q (.str (i ++ j)) H) := by
  intro pins s σ H x y v u Q I rx ry h
  obtain ⟨i, j, rfl, rfl, hz, q⟩ := h
  obtain ⟨t, rfl⟩ := rx
  obtain ⟨t', rfl⟩ := ry
  exact add_str (fun t' tk => ⟨.str (i ++ j), H, I.tok _, ⟨_, rfl⟩, q⟩) hz
theorem yq {x : V} {us : List Value} (r : Vals [x] us) : ∃ u, us = [u] ∧ RelV x u := by
  cases r with
  | cons r1 r2 => cases r2; exact ⟨_, rfl, r1⟩
theorem vA {x y : V} {us : List Value} (r : Vals [x, y] us) : ∃ u w', us = [u, w'] ∧ RelV x u ∧ RelV y w' := by
  cases r with
  | cons r1 r2 =>
    cases r2 with
    | cons r3 r4 => cases r4; exact ⟨_, _, rfl, r1, r3⟩
theorem q9 : CallR X (.builtin "divmod") (fun xs H Q => ∃ i j, xs = [.int i, .int j] ∧ CDiv i j ∧ ∀ p, H p = none → Q (.ref p) (upd H p (.tup [.int (i / j), .int (i % j)]))) := by
  intro pins s σ H xs us Q I r h
  obtain ⟨i, j, rfl, ⟨h1, h2⟩, q⟩ := h
  obtain ⟨u, w', rfl, ⟨t, rfl⟩, ⟨t', rfl⟩⟩ := vA r
  refine divmod_int (by omega) ?_ (.inl (PyProof.noPylong_small (by omega)))
  rw [Int.fdiv_eq_ediv_of_nonneg i (by omega), Int.fmod_eq_emod_of_nonneg i (by omega)]
  have hn : H s.heap.objs.size = none := I.hok.fresh (Nat.le_refl _)
  refine ⟨.ref s.heap.objs.size, _, ?_, rfl, q _ hn⟩
  refine I.laid (fun b o e => Heap.get?_push_of_some _ e) (Nat.le_refl _) ⟨by simp only [List.length_cons, List.length_nil]; rw [sizeLine_eq]; decide, [.int (i / j) s.toks, .int (i % j) (s.toks + 1)], .cons ⟨_, rfl⟩ (.cons ⟨_, rfl⟩ .nil), ?_⟩
  exact ⟨_, Heap.get?_push_size s.heap rfl, rfl, 0, rfl⟩
end
end L2
namespace L2
open PySem PySem.Spec PyProof.Rows
structure ObjM (h : Heap) (x dx C : Addr) (mA : Str → Option Value) : Prop where
  obj : h.get? x = some (PySem.W.instObj C dx)
  ns : h.Ns1 dx mA
  ne : dx ≠ x
theorem KJ {h : Heap} {dx : Addr} {mA : Str → Option Value} (n : h.Ns1 dx mA) : ∃ od, h.get? dx = some od ∧ ∀ name, PySem.W.lookIn name od = some (mA name) := by
  obtain ⟨o, es, ep, ho, hd, hk, _, hm⟩ := n
  refine ⟨o, ho, fun name => ?_⟩
  have e := hm name
  unfold nsFind findBy at e
  rw [← Array.find?_toList] at e
  unfold PySem.W.lookIn
  rw [hd]
  dsimp only
  split
  · rename_i y q
    rw [q] at e
    exact congrArg some e
  · rename_i q
    rw [q] at e
    have a : es.toList.any (·.refKey) = false := by
      rw [List.any_eq_false]
      intro y hy
      obtain ⟨z, t, hkey⟩ := hk y (Array.mem_toList_iff.mp hy)
      simp [DictEntry.refKey, hkey]
    have a' : ¬ es.toList.any (·.refKey) = true := by rw [a]; exact Bool.false_ne_true
    rw [if_neg a']
    exact congrArg some e
theorem ObjM.look {h : Heap} {x dx C : Addr} {mA : Str → Option Value} (I : ObjM h x dx C mA) : ∃ od, PySem.W.InstAt h x (PySem.W.instObj C dx) C (some od) ∧ ∀ name, PySem.W.lookIn name od = some (mA name) :=
  let ⟨od, ho, hl⟩ := KJ I.ns
  ⟨od, ⟨I.obj, rfl, rfl, ho⟩, hl⟩
section
variable {prog : Program} {w : World} {A : Around} {E : Value → Shared → Prop} {s : Shared} {K : PySem.W.Frag} {x dx C f : Addr} {mA : Str → Option Value} {name : Str} {v : Value}
theorem uC {expr : Bool} {Q : Value → Shared → Prop} (X : K.In s.heap) (I : ObjM s.heap x dx C mA) (hg : PySem.W.plainGet K C name = true) (hh : PySem.W.hasDictIn K C = true)
    (ha : PySem.W.findIn K (.ref C) name = some none) (hv : mA name = some v) (hv' : PySem.W.handedIn v = true) (h : Q v { s with toks := s.toks + 1 }) :
    wpAny (model prog w) A (getAttr (.ref x) name expr) Q E s := by
  obtain ⟨od, J, hl⟩ := I.look
  exact PySem.W.get_value X J (PySem.W.plainGet_of hg).1 (PySem.W.findObj_own hh ha rfl (by rw [hl, hv])) hv' h
theorem UR {pl : Sem Bool} {Q : Value × List Value → Shared → Prop} (X : K.In s.heap) (I : ObjM s.heap x dx C mA) (hg : PySem.W.plainGet K C name = true)
    (hf : PySem.W.findIn K (.ref C) name = some (some (.ref f))) (ht : PySem.W.isFn K (.ref f) = true) (hv : mA name = none) (h : Q (.ref f, [.ref x]) s) :
    wpAny (model prog w) A (getMethod (.ref x) name pl) Q E s := by
  obtain ⟨od, J, hl⟩ := I.look
  exact PySem.W.method_fn X J (PySem.W.plainGet_of hg).1 (PySem.W.plainGet_of hg).2 hf (beq_iff_eq.mp ht) (by show (PySem.W.lookIn name od).map (·.isSome) = some false; rw [hl, hv]; rfl) h
theorem vH {ns : List Str} {Q : Unit → Shared → Prop} (X : K.In s.heap) (I : ObjM s.heap x dx C mA)
    (hs : PySem.W.findIn K (.ref C) "__setattr__" = some (some (.builtin "object.__setattr__"))) (hp : PySem.W.plainOver K C = true) (ht : PySem.W.takerIn K C name = some none) (hh : PySem.W.hasDictIn K C = true)
    (hw : PySem.Within mA ns) (hsz : ns.length ≤ sizeLine)
    (h : ∀ h', ObjM h' x dx C (fun y => if y = name then some v else mA y) → Heap.SameBut dx s.heap h' → Q () { s with heap := h', toks := s.toks + 2 }) :
    wpAny (model prog w) A (setAttr (.ref x) name v) Q E s := by
  obtain ⟨od, J, hl⟩ := I.look
  refine PySem.W.set_plain X J hs (PySem.W.osa_open (s := { s with toks := s.toks + 1 }) (r := none) X J hp ht fun b => ?_)
  obtain ⟨cd, hc, hd'⟩ := PySem.W.any_some hh
  have hx : s.heap.get? x = some ⟨.ref C, some dx, .plain, #[]⟩ := I.obj
  refine wpAny_bind (wpAny_pure (wpAny_bind (wpAny_bind (wpAny_loadPart hx (wpAny_bind (PySem.W.Looks.here (s := { s with toks := s.toks + 1 }) (PySem.W.looks_clsIn X hc) ?_))))))
  rw [hd']
  refine wpAny_pure (a := some dx) (wpAny_bind (wpAny_pure (wpAny_bind ?_)))
  refine wpAny_nsSet1 (s := { s with toks := s.toks + 1 }) I.ns fun h' hn2 hs2 => ?_
  obtain ⟨oD, esD, epD, hoD, hdD, hcD⟩ := hn2.count (PySem.Within.cons name v hw)
  refine wpAny_bind (wpAny_lookBehind hoD (by rw [hdD]; exact pastItsLine_dict (Nat.le_trans hcD (by rw [List.length_cons]; omega))) ?_)
  exact wpAny_pure (h _ ⟨(hs2.2 _ (Ne.symm I.ne)).trans I.obj, hn2, I.ne⟩ hs2)
theorem UD {R : Result → Shared → Prop} {vs : List Value} {kw : List (Str × Value)} (X : K.In s.heap) (hm : PySem.W.makesIn K C = true)
    (hi : PySem.W.findIn K (.ref C) "__init__" = some (some (.ref f))) (hf : PySem.W.typeIn K (.ref f) = some (.type "function"))
    (h : codeAny (model prog w) (A.under (.builtin "type.__call__" ⟨.ref C :: vs, kw⟩)) (.call (.ref f) ⟨.ref (s.heap.objs.size + 1) :: vs, kw⟩) (PySem.W.InitBack (s.heap.objs.size + 1) R)
      { s with heap := (s.heap.push PySem.W.emptyDict).push (PySem.W.instObj C s.heap.objs.size) }) :
    codeAny (model prog w) A (.call (.ref C) ⟨vs, kw⟩) R s := by
  obtain ⟨hh, g, d, t, os⟩ := s
  exact PySem.W.make_core (PySem.W.makes_of X hm) (PySem.W.looks_findIn X hi) (fun self => PySem.W.bind_fn X self hf) (.inl rfl) h
end
def putF (f : Str) (v : V) : List (Str × V) → List (Str × V)
  | [] => [(f, v)]
  | (g, x) :: r => if g = f then (g, v) :: r else (g, x) :: putF f v r
theorem yX (f g : Str) (v : V) : ∀ fs : List (Str × V), (putF f v fs).lookup g = if g = f then some v else fs.lookup g
  | [] => by
    show List.lookup g [(f, v)] = _
    by_cases h : g = f
    · have hb : (g == f) = true := beq_iff_eq.mpr h
      simp only [List.lookup, hb, if_pos h]
    · have hb : (g == f) = false := beq_eq_false_iff_ne.mpr h
      simp only [List.lookup, hb, if_neg h]
  | (k, x) :: r => by
    have ih := yX f g v r
    rw [show putF f v ((k, x) :: r) = (if k = f then (k, v) :: r else (k, x) :: putF f v r) from rfl]
    by_cases hk : k = f
    · rw [if_pos hk]
      by_cases h : g = k
      · have hb : (g == k) = true := beq_iff_eq.mpr h
        simp only [List.lookup, hb, if_pos (h.trans hk)]
      · have hb : (g == k) = false := beq_eq_false_iff_ne.mpr h
        simp only [List.lookup, hb, if_neg (fun e : g = f => h (e.trans hk.symm))]
    · rw [if_neg hk]
      by_cases h : g = k
      · have hb : (g == k) = true := beq_iff_eq.mpr h
        simp only [List.lookup, hb, if_neg (fun e : g = f => hk (h.symm.trans e))]
      · have hb : (g == k) = false := beq_eq_false_iff_ne.mpr h
        simp only [List.lookup, hb]
        exact ih
theorem y4 (f : Str) (v : V) : ∀ fs : List (Str × V), f ∈ (putF f v fs).map (·.1) ∧ ∀ g, g ∈ fs.map (·.1) → g ∈ (putF f v fs).map (·.1)
  | [] => ⟨by simp [putF], fun g h => by simp at h⟩
  | (k, x) :: r => by
    obtain ⟨i1, i2⟩ := y4 f v r
    rw [show putF f v ((k, x) :: r) = (if k = f then (k, v) :: r else (k, x) :: putF f v r) from rfl]
    by_cases hk : k = f
    · rw [if_pos hk]
      subst hk
      exact ⟨by simp, fun g h => by simpa using h⟩
    · rw [if_neg hk]
      refine ⟨?_, fun g h => ?_⟩
      · rw [List.map_cons]
        exact List.mem_cons_of_mem _ i1
      · rw [List.map_cons] at h ⊢
        rcases List.mem_cons.mp h with e | e
        · exact List.mem_cons.mpr (.inl e)
        · exact List.mem_cons_of_mem _ (i2 g e)
theorem yZ (f : Str) (v : V) : ∀ fs : List (Str × V), (putF f v fs).length ≤ fs.length + 1
  | [] => by simp [putF]
  | (k, x) :: r => by
    have ih := yZ f v r
    rw [show putF f v ((k, x) :: r) = (if k = f then (k, v) :: r else (k, x) :: putF f v r) from rfl]
    by_cases hk : k = f
    · rw [if_pos hk, List.length_cons, List.length_cons]; omega
    · rw [if_neg hk, List.length_cons, List.length_cons]; omega
theorem RelO.some_of {v : V} {o : Option Value} (r : RelO (some v) o) : ∃ u, o = some u ∧ RelV v u := by
  cases o with
  | none => exact (show False from r).elim
  | some u => exact ⟨u, rfl, r⟩
theorem RelO.none_of {o : Option Value} (r : RelO none o) : o = none := by
  cases o with
  | none => rfl
  | some u => exact (show False from r).elim
theorem K9 {v : V} {u : Value} (r : RelV v u) : PySem.W.handedIn u = true := by
  cases v with
  | non => cases (show u = Value.none from r); rfl
  | bl b => cases (show u = Value.bool b from r); rfl
  | int i => obtain ⟨t, e⟩ := (show ∃ t, u = Value.int i t from r); cases e; rfl
  | str x => obtain ⟨t, e⟩ := (show ∃ t, u = Value.str x t from r); cases e; rfl
  | byt b => obtain ⟨t, e⟩ := (show ∃ t, u = Value.bytes b t from r); cases e; rfl
  | flt b => obtain ⟨t, e⟩ := (show ∃ t, u = Value.float b t from r); cases e; rfl
  | ref a => cases (show u = Value.ref a from r); rfl
  | ty n => cases (show u = Value.type n from r); rfl
section
variable {P : Program} {w : World} {H H' : Hp} {h h' : Heap} {a C dx : Addr} {fs fs' : List (Str × V)}
theorem Qq (hok : HOk P w H h) (e : H a = some (.ins C dx fs)) : ∃ mA, ObjM h a dx C mA ∧ (∀ f, RelO (fs.lookup f) (mA f)) ∧ PySem.Within mA (fs.map (·.1)) ∧ fs.length ≤ 1000 ∧ H dx = some (.own a) := by
  obtain ⟨d, z, ne, ob, mA, n, r, q⟩ := (show ObjOk P w H h a (.ins C dx fs) from hok a _ e)
  exact ⟨mA, ⟨ob, n, ne⟩, r, q, z, d⟩
end
structure Cls (K : PySem.W.Frag) (C : Addr) : Prop where
  pg : PySem.W.plainGet K C Str.empty = true
  hd : PySem.W.hasDictIn K C = true
  po : PySem.W.plainOver K C = true
  sa : PySem.W.findIn K (.ref C) "__setattr__" = some (some (.builtin "object.__setattr__"))
theorem Cls.get {K : PySem.W.Frag} {C : Addr} (c : Cls K C) (f : Str) : PySem.W.plainGet K C f = true := c.pg
def NoAttr (K : PySem.W.Frag) (C : Addr) (f : Str) : Prop := PySem.W.findIn K (.ref C) f = some none
theorem NoAttr.taker {K : PySem.W.Frag} {C : Addr} {f : Str} (n : NoAttr K C f) : PySem.W.takerIn K C f = some none := by
  unfold PySem.W.takerIn
  rw [show PySem.W.findIn K (.ref C) f = some none from n]
  rfl
structure Meth (K : PySem.W.Frag) (C : Addr) (m : Str) (f : Addr) : Prop where
  at_ : PySem.W.findIn K (.ref C) m = some (some (.ref f))
  fn : PySem.W.isFn K (.ref f) = true
  kp : PySem.W.keepIn K (.ref f) = true
section
variable {X : Cx} {pins : List (Addr × Obj)} {σ : St} {H : Hp} {s : Shared} {a C dx : Addr} {fs : List (Str × V)} {f : Str} {v : V} {A : Around} {E : Value → Shared → Prop}
theorem Yo {b : Bool} {Q : Value → Shared → Prop} (I : Inv X pins σ H s) (e : H a = some (.ins C dx fs)) (c : Cls X.K C) (n : NoAttr X.K C f) (l : fs.lookup f = some v)
    (h : ∀ u s', Inv X pins σ H s' → RelV v u → Q u s') : wpAny (model X.prog X.w) A (getAttr (.ref a) f b) Q E s := by
  obtain ⟨mA, O, r, _, _, _⟩ := Qq I.hok e
  obtain ⟨u, hu, ru⟩ := RelO.some_of (v := v) (o := mA f) (by rw [← l]; exact r f)
  exact uC I.kIn O (c.get f) c.hd n hu (K9 ru) (h u _ (I.tok _) ru)
theorem Yn {m : Str} {g : Addr} {pl : Sem Bool} {Q : Value × List Value → Shared → Prop} (I : Inv X pins σ H s) (e : H a = some (.ins C dx fs)) (c : Cls X.K C) (k : Meth X.K C m g) (l : fs.lookup m = none)
    (h : Q (.ref g, [.ref a]) s) : wpAny (model X.prog X.w) A (getMethod (.ref a) m pl) Q E s := by
  obtain ⟨mA, O, r, _, _, _⟩ := Qq I.hok e
  have hn : mA m = none := RelO.none_of (by rw [← l]; exact r m)
  exact UR I.kIn O (c.get m) k.at_ k.fn hn h
theorem XZ {y : V} {u : Value} {Q : Unit → Shared → Prop} (I : Inv X pins σ H s) (e : H a = some (.ins C dx fs)) (c : Cls X.K C) (n : NoAttr X.K C f) (hl : fs.length < 1000) (ry : RelV y u)
    (h : ∀ s', Inv X pins σ (upd H a (.ins C dx (putF f y fs))) s' → Q () s') : wpAny (model X.prog X.w) A (setAttr (.ref a) f u) Q E s := by
  obtain ⟨mA, O, r, wi, _, ho⟩ := Qq I.hok e
  have hz : (fs.map (·.1)).length ≤ sizeLine := by rw [List.length_map, sizeLine_eq]; omega
  refine vH I.kIn O c.sa c.po n.taker c.hd wi hz fun h' O' sb => h _ ?_
  have hd : ∃ o, h'.get? dx = some o := let ⟨o, _, _, e', _⟩ := O'.ns; ⟨o, e'⟩
  refine I.write (x := a) (e := dx) (by rw [e]; exact True.intro) (.inr ho) (fun b q hb z => (sb.2 b hb).trans z) hd ?_
  refine ⟨by rw [jJ O.ne]; exact ho, ?_, O.ne, O'.obj, _, O'.ns, fun g => ?_, fun g hg => ?_⟩
  · have := yZ f y fs; omega
  · show RelO ((putF f y fs).lookup g) (if g = f then some u else mA g)
    rw [yX]
    by_cases q : g = f
    · rw [if_pos q, if_pos q]; exact ry
    · rw [if_neg q, if_neg q]; exact r g
  · by_cases q : g = f
    · rw [q]; exact (y4 f y fs).1
    · refine (y4 f y fs).2 g (wi g fun z => hg ?_)
      show (if g = f then some u else mA g) = none
      rw [if_neg q]; exact z
theorem Inv.made (I : Inv X pins σ H s) : Inv X pins σ (upd (upd H s.heap.objs.size (.own (s.heap.objs.size + 1))) (s.heap.objs.size + 1) (.ins C s.heap.objs.size []))
    { s with heap := (s.heap.push PySem.W.emptyDict).push (PySem.W.instObj C s.heap.objs.size) } := by
  have e1 : (s.heap.push PySem.W.emptyDict).get? s.heap.objs.size = some PySem.W.emptyDict := Heap.get?_push_size s.heap rfl
  have e2 : ((s.heap.push PySem.W.emptyDict).push (PySem.W.instObj C s.heap.objs.size)).get? (s.heap.objs.size + 1) = some (PySem.W.instObj C s.heap.objs.size) := by
    have := Heap.get?_push_size (s.heap.push PySem.W.emptyDict) (o := PySem.W.instObj C s.heap.objs.size) rfl
    rwa [Heap.size_push] at this
  have e3 : (s.heap.push PySem.W.emptyDict).Ns s.heap.objs.size (fun _ => none) := ⟨PySem.W.emptyDict, #[], _, e1, rfl, (fun e he => absurd he (by simp)), fun _ => rfl⟩
  have I1 := I.laid (a := s.heap.objs.size) (o := .own (s.heap.objs.size + 1)) (h' := s.heap.push PySem.W.emptyDict) (t' := s.toks) (fun b u q => Heap.get?_push_of_some _ q) (Nat.le_refl _) ⟨_, e1⟩
  refine I1.laid (a := s.heap.objs.size + 1) (o := .ins C s.heap.objs.size []) (t' := s.toks) (fun b u q => Heap.get?_push_of_some _ q) (Nat.le_of_eq (Heap.size_push _ _)) ?_
  have ne : s.heap.objs.size ≠ s.heap.objs.size + 1 := Nat.ne_of_lt (Nat.lt_succ_self _)
  refine ⟨by rw [jJ ne, jA], Nat.zero_le _, ne, e2, fun _ => none, (Heap.Ns1.of_empty e3).at fun o q => Heap.get?_push_of_some _ q, fun _ => True.intro, fun y hy => absurd rfl hy⟩
theorem uZ {prog : Program} {w : World} {env : Env} {e : Expr} {f : Str} {pos : Pos} {s : Shared} {Q : Value → Shared → Prop} (hb : attributeBase e f env (eval e env) = eval e env)
    (h : wpAny (model prog w) A (eval e env) (fun o s₁ => wpAny (model prog w) A (getAttr o f true) Q E s₁) E s) : wpAny (model prog w) A (eval (.Attribute e f pos) env) Q E s :=
  Attribute_any_ h (by rw [arm_eval_Attribute, hb])
end
def tFld (K : PySem.W.Frag) (ta : TE) (f : Str) : TE := fun σ H Q => ta σ H fun x H1 => ∃ a C dx fs v, x = .ref a ∧ H1 a = some (.ins C dx fs) ∧ Cls K C ∧ NoAttr K C f ∧ fs.lookup f = some v ∧ Q v H1
def sFld (K : PySem.W.Frag) (ta tv : TE) (f : Str) : TS := fun D σ H => tv σ H fun y H1 => ta σ H1 fun x H2 => ∃ a C dx fs, x = .ref a ∧ H2 a = some (.ins C dx fs) ∧ Cls K C ∧ NoAttr K C f ∧ fs.length < 1000 ∧
  D.nx σ (upd H2 a (.ins C dx (putF f y fs)))
section
variable {X : Cx} {o e value : Expr} {f : Str} {pos pos' tpos : Pos} {ta tv : TE}
theorem jaL (he : PE X e ta) (hb : attributeBase e f X.env (eval e X.env) = eval e X.env) : PE X (.Attribute e f pos) (tFld X.K ta f) := by
  intro pins s σ H Q I h
  refine uZ hb (thn (he pins s σ H _ I h) fun u s1 ⟨x, H1, I1, rx, a, C, dx, fs, v, ex, ea, c, n, l, q⟩ => ?_)
  subst ex
  obtain rfl : u = Value.ref a := rx
  exact Yo I1 ea c n l fun u' s2 I2 ru => ⟨v, H1, I2, ru, q⟩
theorem jay (ha : PE X o ta) (hv : PE X value tv) (hs : swapsWith value (some (.Attribute o f pos')) pos.line X.env = pure false) : PS X (.Assign [.Attribute o f pos'] value pos) (sFld X.K ta tv f) := by
  intro pins s σ H D I h
  refine plainObj_wpAny_Assign_Attribute (thn (hv pins s σ H _ I h) fun u s1 ⟨y, H1, I1, ry, q⟩ => thn (ha pins s1 σ H1 _ I1 q) fun ov s2 ⟨x, H2, I2, rx, a, C, dx, fs, ex, ea, c, n, l, q2⟩ => ?_) hs
  subst ex
  obtain rfl : ov = Value.ref a := rx
  exact XZ I2 ea c n l ry fun s3 I3 => ⟨σ, _, I3, q2⟩
end
section
variable {X : Cx} {pins : List (Addr × Obj)} {σ : St} {H : Hp} {s : Shared} {A : Around} {E : Value → Shared → Prop} {Q : Value → Shared → Prop} {c : Value} {b : Bool}
inductive TyOf (K : PySem.W.Frag) (H : Hp) : V → Value → Prop where
  | non : TyOf K H .non (.type "NoneType")
  | bl (x : Bool) : TyOf K H (.bl x) (.type "bool")
  | int (i : Int) : TyOf K H (.int i) (.type "int")
  | str (x : Str) : TyOf K H (.str x) (.type "str")
  | flt (x : UInt64) : TyOf K H (.flt x) (.type "float")
  | lst {a : Addr} {xs : List V} (e : H a = some (.lst xs)) : TyOf K H (.ref a) (.type "list")
  | frz {a : Addr} {o : Obj} {xs : List V} (e : H a = some (.frz o (.lst xs))) : TyOf K H (.ref a) (.type "list")
  | tup {a : Addr} {xs : List V} (e : H a = some (.tup xs)) : TyOf K H (.ref a) (.type "tuple")
  | dK {a : Addr} {kvs : List (Key × V)} (e : H a = some (.dK kvs)) : TyOf K H (.ref a) (.type "dict")
  | dT {a : Addr} {kvs : List (List Key × V)} (e : H a = some (.dT kvs)) : TyOf K H (.ref a) (.type "dict")
  | ins {a C dx : Addr} {fs : List (Str × V)} (e : H a = some (.ins C dx fs)) (cl : Cls K C) (ha : PySem.W.findIn K (.ref C) "__class__" = some (some (.builtin "object.__class__")))
      (hn : PySem.W.specialIn K (.builtin "object.__class__") "__get__" = some (some (.builtin "getset_descriptor.__get__"))) (htk : PySem.W.takesIn K (.builtin "object.__class__") = some true)
      (hm : PySem.W.mroIn K C (.type "object") = some true) : TyOf K H (.ref a) (.ref C)
theorem KR {x : V} {u t : Value} (I : Inv X pins σ H s) (rx : RelV x u) (ty : TyOf X.K H x t) (e : PySem.W.kitOne X.K t c = some b) (h : ∀ tk, Q (.bool b) { s with toks := tk }) :
    wpAny (model X.prog X.w) A (call (.builtin "isinstance") [u, c]) Q E s := by
  cases ty with
  | non => cases (show u = Value.none from rx); exact PySem.W.kia_one PySem.W.kitx_none I.kIn True.intro e (fun z => nomatch z) h
  | bl y => cases (show u = Value.bool y from rx); exact PySem.W.kia_one PySem.W.kitx_bool I.kIn True.intro e (fun z => nomatch z) h
  | int i => obtain ⟨t, q⟩ := (show ∃ t, u = Value.int i t from rx); cases q; exact PySem.W.kia_one PySem.W.kitx_int I.kIn True.intro e (fun z => nomatch z) h
  | str y => obtain ⟨t, q⟩ := (show ∃ t, u = Value.str y t from rx); cases q; exact PySem.W.kia_one PySem.W.kitx_str I.kIn True.intro e (fun z => nomatch z) h
  | flt y => obtain ⟨t, q⟩ := (show ∃ t, u = Value.float y t from rx); cases q; exact PySem.W.kia_one PySem.W.kitx_float I.kIn True.intro e (fun z => nomatch z) h
  | @lst a xs ea =>
    cases (show u = Value.ref a from rx)
    obtain ⟨_, _, n, _, h1⟩ := (show ObjOk X.prog X.w H s.heap a (.lst xs) from I.hok a _ ea)
    exact PySem.W.kia_one PySem.W.kitx_list I.kIn ⟨_, h1, rfl⟩ e (fun z => nomatch z) h
  | @frz a ob xs ea =>
    cases (show u = Value.ref a from rx)
    obtain ⟨_, _, _, n, _, h1⟩ := (show ObjOk X.prog X.w H s.heap a (.frz ob (.lst xs)) from I.hok a _ ea)
    exact PySem.W.kia_one PySem.W.kitx_list I.kIn ⟨_, h1, rfl⟩ e (fun z => nomatch z) h
  | @tup a xs ea =>
    cases (show u = Value.ref a from rx)
    obtain ⟨_, _, _, p⟩ := (show ObjOk X.prog X.w H s.heap a (.tup xs) from I.hok a _ ea)
    obtain ⟨o, h1, h2, _⟩ := p
    exact PySem.W.kia_one PySem.W.kitx_tuple I.kIn ⟨o, h1, h2⟩ e (fun z => nomatch z) h
  | @dK a kvs ea =>
    cases (show u = Value.ref a from rx)
    obtain ⟨_, _, vs, _, p⟩ := (show ObjOk X.prog X.w H s.heap a (.dK kvs) from I.hok a _ ea)
    obtain ⟨o, es, ep, h1, h2, _⟩ := p
    exact PySem.W.kia_one PySem.W.kitx_dict I.kIn ⟨o, h1, h2.1⟩ e (fun z => nomatch z) h
  | @dT a kvs ea =>
    cases (show u = Value.ref a from rx)
    obtain ⟨_, _, xs, _, o, es, ep, h1, h2, _⟩ := (show ObjOk X.prog X.w H s.heap a (.dT kvs) from I.hok a _ ea)
    exact PySem.W.kia_one PySem.W.kitx_dict I.kIn ⟨o, h1, h2.1⟩ e (fun z => nomatch z) h
  | @ins a C dx fs ea cl ha hn htk hm =>
    cases (show u = Value.ref a from rx)
    obtain ⟨mA, O, _⟩ := Qq I.hok ea
    obtain ⟨od, J, _⟩ := O.look
    exact PySem.W.kia_one (PySem.W.kitx_own (cl.get _) cl.hd ha hn htk hm) I.kIn J e (fun z => nomatch z) h
end
end L2
namespace L2
open PySem PySem.Spec PyProof.Rows
structure Room (k : Nat) (A : Around) : Prop where
  hd : A.handled = none
  dp : A.depth + 3 * k + 5 < recursionLimit
  un : A.units + 16 * k + 200 < cLine
theorem Room.mono {j k : Nat} {A : Around} (r : Room k A) (h : j ≤ k) : Room j A := ⟨r.hd, by have := r.dp; omega, by have := r.un; omega⟩
theorem Room.deeper {k : Nat} {A : Around} (r : Room (k + 1) A) (env : Env) : Room k (A.deeper env) :=
  ⟨r.hd, by have := r.dp; show A.depth + 1 + 3 * k + 5 < _; omega, by have := r.un; show A.units + 3 + 16 * k + 200 < _; omega⟩
theorem Ye {A : Around} {C : Addr} {us : List Value} {kw : List (Str × Value)} : (A.under (.builtin "type.__call__" ⟨.ref C :: us, kw⟩)).depth = A.depth + 1 := by
  first | rfl | simp [Around.under, Code.weight, Code.isCreation, Code.isGuard, Code.isCaller, Code.frames, Code.isFrame, guardIds]
theorem Yc {A : Around} {C : Addr} {us : List Value} {kw : List (Str × Value)} : (A.under (.builtin "type.__call__" ⟨.ref C :: us, kw⟩)).units = A.units + 1 := by
  first | rfl | simp [Around.under, Code.cUnits, Code.frames, Code.isFrame]
theorem Room.make {k : Nat} {A : Around} (r : Room (k + 1) A) (C : Addr) (us : List Value) (kw : List (Str × Value)) : Room k (A.under (.builtin "type.__call__" ⟨.ref C :: us, kw⟩)) :=
  ⟨r.hd, by have := r.dp; rw [Ye]; omega, by have := r.un; rw [Yc]; omega⟩
theorem Room.depth {k : Nat} {A : Around} (r : Room k A) : A.depth < recursionLimit := by have := r.dp; omega
theorem Room.units {k : Nat} {A : Around} (r : Room k A) : A.units + 64 < cLine := by have := r.un; omega
def tNil : TA := fun _ H Q => Q [] H
def jbI (ta : TE) (tr : TA) : TA := fun σ H Q => ta σ H fun x H1 => tr σ H1 fun xs H2 => Q (x :: xs) H2
section
variable {X : Cx} {e : Expr} {es : List Expr} {te : TE} {t : TA} {pos : Pos}
theorem wN : PA X [] tNil := fun _ _ _ _ H Q I h => Calls.spliced_nil ⟨[], H, I, .nil, h⟩
theorem qA (ha : PE X e te) (hr : PA X es t) (hs : starEach (e :: es) X.env = (false, eval e X.env) :: starEach es X.env := by rfl) : PA X (e :: es) (jbI te t) := by
  intro pos pins s σ H Q I h
  rw [hs]
  show wpAny _ _ (spliced ((false, eval e X.env) :: backTo pos (starEach es X.env))) _ _ s
  refine Calls.spliced_cons (thn (ha pins s σ H _ I h) fun u s1 ⟨x, H1, I1, r1, q1⟩ => ?_)
  exact thn (hr pos pins s1 σ H1 _ I1 q1) fun us s2 ⟨xs, H2, I2, r2, q2⟩ => ⟨x :: xs, H2, I2, .cons r1 r2, q2⟩
def tTup (t : TA) : TE := fun σ H Q => t σ H fun xs H1 => xs.length ≤ sizeLine ∧ ∀ p, H1 p = none → Q (.ref p) (upd H1 p (.tup xs))
def tLst (t : TA) : TE := fun σ H Q => t σ H fun xs H1 => xs.length ≤ sizeLine ∧ ∀ p, H1 p = none → Q (.ref p) (upd H1 p (.lst xs))
theorem jaD {x1} (h : PA X es t) : PE X (.Tuple es x1 pos) (tTup t) := by
  intro pins s σ H Q I hq
  refine wpAny_Tuple_spliced (thn (h pos pins s σ H _ I hq) fun us s1 ⟨xs, H1, I1, r, z, q⟩ => ⟨by rw [← r.length]; exact z, ?_⟩)
  have hf : H1 s1.heap.objs.size = none := I1.hok.fresh (Nat.le_refl _)
  refine ⟨.ref s1.heap.objs.size, upd H1 s1.heap.objs.size (.tup xs), I1.laid (t' := s1.toks) (fun b u e => Heap.get?_push_of_some _ e) (Nat.le_refl _) ?_, rfl, q _ hf⟩
  exact ⟨z, us, r, ⟨_, Heap.get?_push_size _ rfl, rfl, _, rfl⟩⟩
theorem jaI (h : PA X es t) : PE X (.List es pos) (tLst t) := by
  intro pins s σ H Q I hq
  refine wpAny_List_spliced (thn (h pos pins s σ H _ I hq) fun us s1 ⟨xs, H1, I1, r, z, q⟩ => ⟨by rw [← r.length]; exact z, ?_⟩)
  have hf : H1 s1.heap.objs.size = none := I1.hok.fresh (Nat.le_refl _)
  refine ⟨.ref s1.heap.objs.size, upd H1 s1.heap.objs.size (.lst xs), I1.laid (t' := s1.toks) (fun b u e => Heap.get?_push_of_some _ e) (Nat.le_refl _) ?_, rfl, q _ hf⟩
  exact ⟨z, us, 0, r, Heap.get?_push_size _ rfl⟩
end
abbrev Sp := List V → Hp → VK → XK → Prop
abbrev CXT := List Env → Hp → Shared → XK → Value → Shared → Prop
structure Env0 (P : Program) (w : World) (K : PySem.W.Frag) (mg : Str → Option Value) (base : Heap) (A : Around) (outer : List Env) (s : Shared) (H : Hp) : Prop where
  frames : A.frames = some outer
  mod : Mod K mg base
  bs : ∀ b o, base.get? b = some o → s.heap.get? b = some o ∧ H b = none
  bsz : base.objs.size ≤ s.heap.objs.size
  funs : s.heap.FunFrames base outer
  frf : ∀ b ∈ frs outer, H b = none
  hok : HOk P w H s.heap
  bare : AllBare s.gens
def CE (outer : List Env) (P : Program) (w : World) (H : Hp) (s : Shared) (Q : VK) (u : Value) (s' : Shared) : Prop :=
  ∃ v H', s'.os = s.os ∧ AllBare s'.gens ∧ Un (frs outer) [] H H' s.heap s'.heap ∧ HOk P w H' s'.heap ∧ RelV v u ∧ Q v H'
def CR (CX : CXT) (outer : List Env) (P : Program) (w : World) (H : Hp) (s : Shared) (Q : VK) (E : XK) (r : Result) (s' : Shared) : Prop :=
  match r with
  | .ok (.ret u) => CE outer P w H s Q u s'
  | .ok _ => False
  | .error e => CX outer H s E e s'
structure FnOk (P : Program) (w : World) (K : PySem.W.Frag) (mg : Str → Option Value) (base : Heap) (CX : CXT) (k : Nat) (f : Addr) (fd : FuncData) (ps : List Str) (sp : Sp) : Prop where
  len : ∀ vs H Q E, sp vs H Q E → vs.length = ps.length
  run : ∀ (A : Around) (outer : List Env) (s : Shared) (H : Hp) (args : Args) (us : List Value) (vs : List V) (Q : VK) (E : XK), Room k A → Env0 P w K mg base A outer s H → BindsTo s fd args (ps.zip us) → Vals vs us → sp vs H Q E →
    codeAny (model P w) A (.call (.ref f) args) (CR CX outer P w H s Q E) s
theorem FnOk.mono {P : Program} {w : World} {K : PySem.W.Frag} {mg : Str → Option Value} {base : Heap} {CX : CXT} {j k : Nat} {f : Addr} {fd : FuncData} {ps : List Str} {sp : Sp} (F : FnOk P w K mg base CX j f fd ps sp) (h : j ≤ k) :
    FnOk P w K mg base CX k f fd ps sp := ⟨F.len, fun A outer s H args us vs Q E hr => F.run A outer s H args us vs Q E (hr.mono h)⟩
theorem Env0.make {P : Program} {w : World} {K : PySem.W.Frag} {mg : Str → Option Value} {base : Heap} {A : Around} {outer : List Env} {s : Shared} {H : Hp} (e : Env0 P w K mg base A outer s H) (C : Addr) (us : List Value) (kw : List (Str × Value)) :
    Env0 P w K mg base (A.under (.builtin "type.__call__" ⟨.ref C :: us, kw⟩)) outer s H := ⟨by first | exact e.frames | (simpa [Around.under, Code.envs, Code.isFrame, pushEnvs] using e.frames), e.mod, e.bs, e.bsz, e.funs, e.frf, e.hok, e.bare⟩
section
variable {X : Cx} {pins : List (Addr × Obj)} {σ : St} {H : Hp} {s s' : Shared}
theorem Inv.env0 (I : Inv X pins σ H s) : Env0 X.prog X.w X.K X.mg X.base X.A X.stack s H :=
  ⟨I.ok.frames, I.ok.mod, I.bs, Nat.le_trans I.ok.bsz I.sz, I.stack, I.stkFree, I.hok, I.bare⟩
theorem Inv.after {Q : VK} {u : Value} (I : Inv X pins σ H s) (h : CE X.stack X.prog X.w H s Q u s') : EP X pins σ Q u s' := by
  obtain ⟨v, H', os, bare, un, hok, r, q⟩ := h
  obtain ⟨hh, g, d, t, os'⟩ := s'
  obtain rfl : os' = s.os := os
  exact ⟨v, H', I.call (h' := hh) (g' := g) (d' := d) (t' := t) (ch := []) un hok bare (fun b z => absurd z (by simp)), r, q⟩
end
def jbJ (sp : Sp) (dvs : List V) (E : XK) (t : TA) : TE := fun σ H Q => t σ H fun vs H1 => sp (vs ++ dvs) H1 Q E
def jbF (C : Addr) (m : Str) (sp : Sp) (dvs : List V) (E : XK) (ta : TE) (t : TA) : TE := fun σ H Q => ta σ H fun x H1 => ∃ a dx fs, x = .ref a ∧ H1 a = some (.ins C dx fs) ∧ fs.lookup m = none ∧
  t σ H1 fun vs H2 => sp (x :: (vs ++ dvs)) H2 Q E
def jbG (C : Addr) (sp : Sp) (dvs : List V) (E : XK) (t : TA) : TE := fun σ H Q => t σ H fun vs H1 => ∀ x dx, H1 x = none → H1 dx = none → dx ≠ x →
  sp (.ref x :: (vs ++ dvs)) (upd (upd H1 dx (.own x)) x (.ins C dx [])) (fun v H2 => v = .non ∧ Q (.ref x) H2) E
def Binds (K : PySem.W.Frag) (fd : FuncData) (ps : List Str) (ds : List Value) : Prop :=
  ∀ (s : Shared) (us : List Value), K.In s.heap → (us ++ ds).length = ps.length → BindsTo s fd ⟨us, []⟩ (ps.zip (us ++ ds))
theorem Binds.all {K : PySem.W.Frag} {fd : FuncData} {ps : List Str} (h : ∀ us : List Value, us.length = ps.length → bindArgs fd ⟨us, []⟩ = pure (ps.zip us)) : Binds K fd ps [] := fun s us _ hl => by
  rw [List.append_nil] at hl ⊢
  exact .of_eq (h us hl)
def xW (CX : CXT) (X : Cx) (E : XK) : Prop := ∀ (pins : List (Addr × Obj)) (σ : St) (H : Hp) (s : Shared) (e : Value) (s' : Shared), Inv X pins σ H s → CX X.stack H s E e s' → X.xe e s'
section
variable {X : Cx} {CX : CXT} {k : Nat} {f C : Addr} {fd : FuncData} {ps : List Str} {sp : Sp} {dvs : List V} {ds : List Value} {E : XK} {x m : Str} {p pos apos : Pos} {e o : Expr} {es : List Expr} {ta : TE} {t : TA}
theorem kS {pins : List (Addr × Obj)} {σ : St} {H : Hp} {s : Shared} {Q : VK} {us : List Value} {vs : List V} (F : FnOk X.prog X.w X.K X.mg X.base CX k f fd ps sp) (hr : Room k X.A) (hb : Binds X.K fd ps ds) (hd : Vals dvs ds) (hx : xW CX X E)
    (I : Inv X pins σ H s) (r : Vals vs us) (h : sp (vs ++ dvs) H Q E) : wpAny (model X.prog X.w) X.A (call (.ref f) us) (EP X pins σ Q) X.xe s := by
  have r2 : Vals (vs ++ dvs) (us ++ ds) := r.append hd
  have hl : (us ++ ds).length = ps.length := by rw [← r2.length]; exact F.len _ _ _ _ h
  refine wpAny_call (codeAny_mono (F.run X.A X.stack s H ⟨us, []⟩ (us ++ ds) (vs ++ dvs) Q E hr I.env0 (hb s us I.kIn hl) r2 h) fun r s' hq => ?_)
  cases r with
  | error e => exact hx pins σ H s e s' I hq
  | ok fl =>
    cases fl with
    | ret u => exact I.after hq
    | next => exact False.elim hq
    | brk => exact False.elim hq
    | cont => exact False.elim hq
theorem Z5 (F : FnOk X.prog X.w X.K X.mg X.base CX k f fd ps sp) (hr : Room k X.A) (hg : Gl X x) (hm : X.mg x = some (.ref f)) (hk : PySem.W.keepIn X.K (.ref f) = true) (hb : Binds X.K fd ps ds) (hd : Vals dvs ds) (hx : xW CX X E)
    (ha : PA X (e :: es) t) (hdb : (x == ("__debug__" : Str)) = false := by decide) (he : starEach (e :: es) X.env = (false, eval e X.env) :: starEach es X.env := by rfl) (hpl : (backTo pos (starEach es X.env)).any (·.1) = false := by rfl) :
    PE X (.Call (.Name x p) (e :: es) [] pos) (jbJ sp dvs E t) := by
  intro pins s σ H Q I h
  refine wpAny_Call_Name_kw (Wn I hg hm ?_ hdb)
  refine PySem.W.callWith_K (h₀ := X.base) I.ok.mod.kin hk (thn (ha pos pins s σ H _ I h) fun us s1 ⟨vs, H1, I1, r, q⟩ => ⟨I1.kIn, ?_⟩) he hpl
  exact kS F hr hb hd hx I1 r q
theorem Ui {pl : Sem Bool} (he : PE X o ta) (c : Cls X.K C) (hm : Meth X.K C m f) (F : FnOk X.prog X.w X.K X.mg X.base CX k f fd ps sp) (hr : Room k X.A) (hb : Binds X.K fd ps ds) (hd : Vals dvs ds) (hx : xW CX X E)
    (ht : eval (.Call (.Attribute o m apos) [] [] pos) X.env = (do
      let ov ← eval o X.env
      standAt apos.atName
      let (f, first) ← holding [ov] (getMethod ov m pl)
      callWith pos f first (backTo pos (starEach [] X.env)) (backToKw pos (keywordEach [] X.env))) := by rfl) :
    PE X (.Call (.Attribute o m apos) [] [] pos) (jbF C m sp dvs E ta tNil) := by
  intro pins s σ H Q I h
  refine PySem.W.methodCall_KW (pl := pl) (thn (he pins s σ H _ I h) fun u s1 ⟨x, H1, I1, rx, a, dx, fs, ex, ea, l, q⟩ => ?_) ht
  subst ex
  obtain rfl : u = Value.ref a := rx
  refine Yn I1 ea c hm l ?_
  exact PySem.W.callWith_K0 (first := [.ref a]) I1.kIn hm.kp (kS (us := [.ref a]) (vs := [.ref a]) F hr hb hd hx I1 (.cons rfl .nil) q)
structure Mk (K : PySem.W.Frag) (C f : Addr) : Prop where
  makes : PySem.W.makesIn K C = true
  init : PySem.W.findIn K (.ref C) "__init__" = some (some (.ref f))
  fn : PySem.W.isFn K (.ref f) = true
  kp : PySem.W.keepIn K (.ref C) = true
theorem Ua {pins : List (Addr × Obj)} {σ : St} {H : Hp} {s : Shared} {Q : VK} {us : List Value} {vs : List V} (M : Mk X.K C f) (F : FnOk X.prog X.w X.K X.mg X.base CX k f fd ps sp) (hr : Room (k + 1) X.A) (hb : Binds X.K fd ps ds) (hd : Vals dvs ds)
    (hx : xW CX X E) (I : Inv X pins σ H s) (r : Vals vs us)
    (h : ∀ x dx, H x = none → H dx = none → dx ≠ x → sp (.ref x :: (vs ++ dvs)) (upd (upd H dx (.own x)) x (.ins C dx [])) (fun v H2 => v = .non ∧ Q (.ref x) H2) E) :
    wpAny (model X.prog X.w) X.A (call (.ref C) us) (EP X pins σ Q) X.xe s := by
  have hq := h (s.heap.objs.size + 1) s.heap.objs.size (I.hok.fresh (Nat.le_succ _)) (I.hok.fresh (Nat.le_refl _)) (Nat.ne_of_lt (Nat.lt_succ_self _))
  have I2 := Inv.made (C := C) I
  have r2 : Vals (V.ref (s.heap.objs.size + 1) :: (vs ++ dvs)) (Value.ref (s.heap.objs.size + 1) :: (us ++ ds)) := .cons rfl (r.append hd)
  have hl : (Value.ref (s.heap.objs.size + 1) :: us ++ ds).length = ps.length := by
    have e := r2.length
    rw [F.len _ _ _ _ hq] at e
    exact e.symm
  refine wpAny_call (UD (f := f) I.kIn M.makes M.init (beq_iff_eq.mp M.fn) (codeAny_mono (F.run _ X.stack _ _ ⟨Value.ref (s.heap.objs.size + 1) :: us, []⟩ (Value.ref (s.heap.objs.size + 1) :: (us ++ ds)) _ _ E (hr.make C us [])
    (I2.env0.make C us []) (hb _ (Value.ref (s.heap.objs.size + 1) :: us) I2.kIn hl) r2 hq) fun r s' hq' => ?_))
  cases r with
  | error e => exact hx pins σ _ _ e s' I2 hq'
  | ok fl =>
    cases fl with
    | ret u =>
      obtain ⟨v, H', I3, rv, ev, q3⟩ := I2.after hq'
      subst ev
      exact ⟨rv, ⟨V.ref (s.heap.objs.size + 1), H', I3, rfl, q3⟩⟩
    | next => exact False.elim hq'
    | brk => exact False.elim hq'
    | cont => exact False.elim hq'
theorem vX (M : Mk X.K C f) (F : FnOk X.prog X.w X.K X.mg X.base CX k f fd ps sp) (hr : Room (k + 1) X.A) (hg : Gl X x) (hm : X.mg x = some (.ref C)) (hb : Binds X.K fd ps ds) (hd : Vals dvs ds) (hx : xW CX X E)
    (ha : PA X (e :: es) t) (hdb : (x == ("__debug__" : Str)) = false := by decide) (he : starEach (e :: es) X.env = (false, eval e X.env) :: starEach es X.env := by rfl) (hpl : (backTo pos (starEach es X.env)).any (·.1) = false := by rfl) :
    PE X (.Call (.Name x p) (e :: es) [] pos) (jbG C sp dvs E t) := by
  intro pins s σ H Q I h
  refine wpAny_Call_Name_kw (Wn I hg hm ?_ hdb)
  refine PySem.W.callWith_K (h₀ := X.base) I.ok.mod.kin M.kp (thn (ha pos pins s σ H _ I h) fun us s1 ⟨vs, H1, I1, r, q⟩ => ⟨I1.kIn, ?_⟩) he hpl
  exact Ua M F hr hb hd hx I1 r q
end
structure FnScope (N P : List Str) (sc : Scope) : Prop where
  kind : sc.kind = .function
  co : sc.isCoroutine = false
  gen : sc.isGenerator = false
  nd : N.Nodup
  pre : N.take P.length = P
  par : ∀ x ∈ P, sc.names.lookup x = some .local ∨ sc.names.lookup x = some .cell
  nofree : ∀ y ∈ sc.names, y.2 ≠ .free
theorem ZM {kindOf : Str → Option NameKind} {x : Str} : ∀ {binds : List (Str × Value)} {m : Str → Option Value}, (∀ v, (x, v) ∉ binds) → bindL kindOf binds m x = m x
  | [], _, _ => rfl
  | (n, v) :: r, m, h => by
    unfold bindL
    rw [ZM fun w hw => h w (List.mem_cons_of_mem _ hw)]
    split
    · have : x ≠ n := by rintro rfl; exact h v List.mem_cons_self
      simp [this]
    · rfl
theorem ZO {kindOf : Str → Option NameKind} {x : Str} : ∀ {binds : List (Str × Value)} {m : Str → Option Value}, (∀ v, (x, v) ∉ binds) → bindC kindOf binds m x = m x
  | [], _, _ => rfl
  | (n, v) :: r, m, h => by
    unfold bindC
    rw [ZO fun w hw => h w (List.mem_cons_of_mem _ hw)]
    split
    · rfl
    · have : x ≠ n := by rintro rfl; exact h v List.mem_cons_self
      simp [this]
theorem ZN {kindOf : Str → Option NameKind} {x : Str} {v : Value} : ∀ {P : List Str} {vs : List Value} {i : Nat} {m : Str → Option Value}, P.Nodup → P[i]? = some x → vs[i]? = some v → kindOf x = some .local →
    bindL kindOf (P.zip vs) m x = some v
  | [], _, _, _, _, h, _, _ => by simp at h
  | _ :: _, [], _, _, _, _, h, _ => by simp at h
  | p :: P, w :: vs, 0, m, nd, h1, h2, hk => by
    simp at h1 h2; subst h1; subst h2
    show bindL kindOf ((p, w) :: P.zip vs) m p = _
    unfold bindL
    rw [ZM fun v hv => (List.nodup_cons.mp nd).1 (List.of_mem_zip hv).1, if_pos hk]
    simp
  | p :: P, w :: vs, i + 1, m, nd, h1, h2, hk => by
    show bindL kindOf ((p, w) :: P.zip vs) m x = _
    unfold bindL
    exact ZN (i := i) (List.nodup_cons.mp nd).2 (by simpa using h1) (by simpa using h2) hk
theorem ZP {kindOf : Str → Option NameKind} {x : Str} {v : Value} : ∀ {P : List Str} {vs : List Value} {i : Nat} {m : Str → Option Value}, P.Nodup → P[i]? = some x → vs[i]? = some v → kindOf x ≠ some .local →
    bindC kindOf (P.zip vs) m x = some v
  | [], _, _, _, _, h, _, _ => by simp at h
  | _ :: _, [], _, _, _, _, h, _ => by simp at h
  | p :: P, w :: vs, 0, m, nd, h1, h2, hk => by
    simp at h1 h2; subst h1; subst h2
    show bindC kindOf ((p, w) :: P.zip vs) m p = _
    unfold bindC
    rw [ZO fun v hv => (List.nodup_cons.mp nd).1 (List.of_mem_zip hv).1, if_neg hk]
    simp
  | p :: P, w :: vs, i + 1, m, nd, h1, h2, hk => by
    show bindC kindOf ((p, w) :: P.zip vs) m x = _
    unfold bindC
    exact ZP (i := i) (List.nodup_cons.mp nd).2 (by simpa using h1) (by simpa using h2) hk
def start (N : List Str) (vs : List V) : St := vs.map some ++ List.replicate (N.length - vs.length) none
def cxOf (CX : CXT) (P : Program) (w : World) (K : PySem.W.Frag) (mg : Str → Option Value) (base : Heap) (N : List Str) (qual : Str) (scope : Scope) (f : Addr) (cd : Value) (A : Around) (outer : List Env) (s : Shared) (H : Hp) (E : XK) : Cx where
  prog := P
  w := w
  K := K
  mg := mg
  base := base
  A := A.deeper (envOfC qual scope s.heap.objs.size f cd)
  N := N
  s₀ := s
  H₀ := H
  env := envOfC qual scope s.heap.objs.size f cd
  outer := outer
  stack := envOfC qual scope s.heap.objs.size f cd :: outer
  ex := []
  calm := true
  fn := fun _ => true
  pn := []
  xe := fun e s' => wpAny (model P w) (A.deeper (envOfC qual scope s.heap.objs.size f cd)) (leaving (envOfC qual scope s.heap.objs.size f cd) e) (fun _ s'' => CX outer H s E e s'') (fun e' s'' => CX outer H s E e' s'') s'
theorem XA {sc : Scope} {n : Nat} {x : Str} (h : sc.names.lookup x = some .cell) : ∃ c, (cellsFrom n sc.names []).lookup x = some c := by
  have q := PySem.W.cellsFrom_some sc.names n [] (.inl h)
  exact Option.isSome_iff_exists.mp q
theorem KS {CX : CXT} {P : Program} {w : World} {K : PySem.W.Frag} {mg : Str → Option Value} {base : Heap} {N ps : List Str} {qual : Str} {scope : Scope} {f : Addr} {cd : Value} {A : Around} {outer : List Env} {s s1 : Shared} {H : Hp} {E : XK} {us : List Value} {vs : List V}
    (S : FnScope N ps scope) (hd : A.handled = none) (e0 : Env0 P w K mg base A outer s H) (hl : vs.length = ps.length) (r : Vals vs us)
    (x : InCallC s s.heap.objs.size (bindL (envOfC qual scope s.heap.objs.size f cd).kindOf (ps.zip us) fun _ => none) (cellsFrom (s.heap.objs.size + 1) scope.names []) (bindC (envOfC qual scope s.heap.objs.size f cd).kindOf (ps.zip us) fun _ => none) s1) :
    Inv (cxOf CX P w K mg base N qual scope f cd A outer s H E) [] (start N vs) H s1 := by
  have hpl : ps.length ≤ N.length := by have := congrArg List.length S.pre; rw [List.length_take] at this; omega
  obtain ⟨h1, tk, rfl, hk⟩ := x.done
  have noA : ∀ b : Addr, b ∉ (cxOf CX P w K mg base N qual scope f cd A outer s H E).ex := fun b z => absurd (show b ∈ ([] : List Addr) from z) (by simp)
  refine ⟨⟨e0.mod, S.kind, rfl, rfl, Nat.le_refl _, fun y z c h1 h2 => ?_, fun y hy => ?_, fun y c _ h => ?_, fun _ => hd, Around.frames_deeper e0.frames, .inr ⟨rfl, rfl⟩, fun b z => absurd z (noA b), e0.bs, e0.bsz, fun b _ _ => noA b, fun b z => absurd z (noA b), e0.funs, e0.frf⟩,
    rfl, e0.bare, Un.kept hk, ⟨_, x.toInCall.ns, fun i y v h1 h2 h3 => ?_⟩, fun y c h => ⟨_, x.cell y c h⟩, e0.hok.fresh (Nat.le_refl _), fun y c h => ?_, fun p hp => absurd (show p ∈ ([] : List (Addr × Obj)) from hp) (by simp), e0.hok.kept hk, ?_⟩
  · exact name_of_addr x.apart (PySem.mem_of_lookup h1) (PySem.mem_of_lookup h2)
  · have hy : scope.names.lookup y = some .cell ∨ scope.names.lookup y = some .free := hy
    rcases hy with hy | hy
    · exact XA hy
    · exact absurd rfl (S.nofree _ (PySem.mem_of_lookup hy))
  · exact Nat.le_of_lt (x.above y c (PySem.mem_of_lookup h))
  · have hi : i < vs.length := by
      unfold start at h2
      by_cases hi : i < vs.length
      · exact hi
      · rw [List.getElem?_append_right (by simpa using hi)] at h2
        rw [List.getElem?_replicate] at h2
        split at h2 <;> cases h2
    have ha : vs[i]? = some v := by
      unfold start at h2
      rw [List.getElem?_append_left (by simpa using hi), List.getElem?_map] at h2
      cases e : vs[i]? with
      | none => rw [e] at h2; cases h2
      | some a => rw [e] at h2; cases h2; rfl
    obtain ⟨u, hu, rv⟩ := r.get ha
    have hp : ps[i]? = some y := by
      rw [← S.pre, List.getElem?_take_of_lt (by omega)]; exact h1
    have ndP : ps.Nodup := by rw [← S.pre]; exact S.nd.sublist (List.take_sublist _ _)
    refine ⟨u, rv, ?_⟩
    rcases S.par y (List.mem_of_getElem? hp) with k | k
    · exact .inl ⟨k, ZN ndP hp hu k⟩
    · obtain ⟨c, e⟩ := XA (n := s.heap.objs.size + 1) k
      refine .inr ⟨.inl k, c, e, ?_⟩
      have q := x.cell y c e
      rw [ZP ndP hp hu (by show scope.names.lookup y ≠ _; rw [k]; decide)] at q
      exact q
  · exact e0.hok.fresh (Nat.le_of_lt (x.above y c (PySem.mem_of_lookup h)))
  · unfold start
    show _ = N.length
    rw [List.length_append, List.length_map, List.length_replicate]
    omega
theorem jbY {CX : CXT} {P : Program} {w : World} {K : PySem.W.Frag} {mg : Str → Option Value} {base : Heap} {k : Nat} {f : Addr} {name qual : Str} {params : Arguments} {body : List Stmt} {scope : Scope} {dV kV doc pm cdv ct oc : Value} {an od : Option Addr}
    {osl : Array (Option Value)} {N ps : List Str} {sp : Sp} (lk : K.lookup f = some ⟨oc, od, .func (PySem.W.fnOf name qual params body scope dV kV doc pm an cdv ct), osl⟩) (hcd : PySem.W.codeIn K cdv qual = true) (S : FnScope N ps scope)
    (len : ∀ vs H Q E, sp vs H Q E → vs.length = ps.length)
    (hbody : ∀ (A : Around) (outer : List Env) (s : Shared) (H : Hp) (vs : List V) (Q : VK) (E : XK), Room k (A.deeper (envOfC qual scope s.heap.objs.size f cdv)) → sp vs H Q E →
      ∃ t, PSs (cxOf CX P w K mg base N qual scope f cdv A outer s H E) body t ∧ t { nx := fun _ H' => Q .non H', rt := Q } (start N vs) H) :
    FnOk P w K mg base CX (k + 1) f (PySem.W.fnOf name qual params body scope dV kV doc pm an cdv ct) ps sp := by
  refine ⟨len, fun A outer s H args us vs Q E hr e0 hb r hsp => ?_⟩
  have hl := len _ _ _ _ hsp
  have KX : K.In s.heap := e0.mod.kin.keeps fun b o e => (e0.bs b o e).1
  have lim : s.heap.NoLimit := e0.mod.nolimit.keeps fun b o e => (e0.bs b o e).1
  have hkind : ∀ y ∈ ps.zip us, scope.names.lookup y.1 = some .local ∨ (scope.names.lookup y.1 = some .cell ∧ ((cellsFrom (s.heap.objs.size + 1) scope.names []).lookup y.1).isSome = true) := fun ⟨n, v⟩ hy => by
    rcases S.par n (List.of_mem_zip hy).1 with q | q
    · exact .inl q
    · exact .inr ⟨q, PySem.W.cellsFrom_some _ _ _ (.inl q)⟩
  refine codeAny_call_function hr.depth (KX _ _ lk) rfl S.co S.gen rfl (PySem.W.codeRec_of KX hcd) (hb _ _ _ _ ?_)
  refine wpAny_newFunctionEnv_cells S.kind hkind fun env he s1 x => ?_
  subst he
  refine ⟨lim.keeps x.toInCall.keep, codeAny_func ?_⟩
  obtain ⟨t, ht, hq⟩ := hbody A outer s H vs Q E (hr.deeper _) hsp
  have I : Inv (cxOf CX P w K mg base N qual scope f cdv A outer s H E) [] (start N vs) H s1 := KS S hr.hd e0 hl r x
  refine wpAny_mono (ht [] s1 (start N vs) H _ I hq) (fun fl s' hs => ?_) fun e s' hs => hs
  have fin : ∀ {σ' : St} {H' : Hp} {v : V} {u : Value}, Inv (cxOf CX P w K mg base N qual scope f cdv A outer s H E) [] σ' H' s' → RelV v u → Q v H' → CE outer P w H s Q u s' :=
    fun {σ' H' v u} J rv q => ⟨v, H', J.os, J.bare, J.base, J.hok, rv, q⟩
  cases fl with
  | ret u =>
    obtain ⟨v, σ', H', J, rv, q⟩ := hs
    exact fin J rv q
  | next =>
    obtain ⟨σ', H', J, q⟩ := hs
    exact fin (v := V.non) (u := Value.none) J rfl q
  | brk =>
    obtain ⟨_, _, _, q⟩ := hs
    exact False.elim q
  | cont =>
    obtain ⟨_, _, _, q⟩ := hs
    exact False.elim q
end L2
namespace L2
open PySem PySem.Spec PyProof.Rows
section
variable {X : Cx} {x : Str} {p pos : Pos} {e : Expr} {es : List Expr} {t : TA} {id T : String} {r : List V → Hp → VK → Prop}
def tCB (r : List V → Hp → VK → Prop) (t : TA) : TE := fun σ H Q => t σ H fun vs H1 => r vs H1 Q
theorem yw (hc : CallR X (.builtin id) r) (hg : Gl X x) (hm : X.mg x = none) (hv : bootBuiltins x = some (.builtin id)) (ha : PA X (e :: es) t) (hn : x ≠ "__name__" := by decide) (hdb : (x == ("__debug__" : Str)) = false := by decide)
    (he : starEach (e :: es) X.env = (false, eval e X.env) :: starEach es X.env := by rfl) (hpl : (backTo pos (starEach es X.env)).any (·.1) = false := by rfl) : PE X (.Call (.Name x p) (e :: es) [] pos) (tCB r t) := by
  intro pins s σ H Q I h
  refine wpAny_Call_Name_kw (y0 I hg hm hv ?_ hn hdb)
  exact PyProof.Rows.callWith_builtin1 (thn (ha pos pins s σ H _ I h) fun us s1 ⟨vs, H1, I1, r1, q1⟩ => hc pins s1 σ H1 vs us Q I1 r1 q1) he hpl
theorem xK (hc : CallR X (.type T) r) (hg : Gl X x) (hm : X.mg x = none) (hv : bootBuiltins x = some (.type T)) (ha : PA X (e :: es) t) (hn : x ≠ "__name__" := by decide) (hdb : (x == ("__debug__" : Str)) = false := by decide)
    (he : starEach (e :: es) X.env = (false, eval e X.env) :: starEach es X.env := by rfl) (hpl : (backTo pos (starEach es X.env)).any (·.1) = false := by rfl) : PE X (.Call (.Name x p) (e :: es) [] pos) (tCB r t) := by
  intro pins s σ H Q I h
  refine wpAny_Call_Name_kw (y0 I hg hm hv ?_ hn hdb)
  exact PyProof.Rows.callWith_type1 (thn (ha pos pins s σ H _ I h) fun us s1 ⟨vs, H1, I1, r1, q1⟩ => hc pins s1 σ H1 vs us Q I1 r1 q1) he hpl
end
end L2
namespace HT
open PySem PyProof.Rows
section
variable {prog : Program} {w : World} {A : Around} {E : Value → Shared → Prop} {s : Shared}
theorem cat_tup {t b : Addr} {vs ws : List Value} {Q : Value → Shared → Prop} (ht : IsTup s.heap t vs.toArray) (hb : IsTup s.heap b ws.toArray) (hv : vs ≠ [])
    (h1 : ws = [] → Q (.ref t) s) (h2 : ws ≠ [] → Q (.ref s.heap.objs.size) { s with heap := s.heap.push { cls := .type "tuple", data := .seq (vs ++ ws).toArray } })
    (hsz : vs.length + ws.length ≤ sizeLine) : wpAny (model prog w) A (binaryOp .Add (.ref t) (.ref b)) Q E s := by
  obtain ⟨⟨cls, dd, data, sl⟩, ho, hc, n, hd⟩ := id ht
  obtain ⟨⟨cls2, dd2, data2, sl2⟩, ho2, hc2, n2, hd2⟩ := id hb
  simp only at hc hd hc2 hd2
  subst hc hd hc2 hd2
  have e : vs.toArray ++ ws.toArray = (vs ++ ws).toArray := by simp
  by_cases hw : ws = []
  · exact concat_meets ⟨_, ho, rfl⟩ ⟨_, ho2, rfl⟩ noFill_tuple_add seq_tuple_add PySem.F.slot_tuple_add PySem.F.entry_tuple_add (PySem.F.args_tuple_add_2 _ _)
      (tuple_addW1 t b vs.toArray ws.toArray n n2 dd dd2 sl sl2 (by simpa using hv) (by simp [hw])) ⟨ho, ho2, h1 hw⟩
  · refine concat_meets ⟨_, ho, rfl⟩ ⟨_, ho2, rfl⟩ noFill_tuple_add seq_tuple_add PySem.F.slot_tuple_add PySem.F.entry_tuple_add (PySem.F.args_tuple_add_2 _ _)
      (tuple_addW2 t b vs.toArray ws.toArray n n2 dd dd2 sl sl2 (by simpa using hv) (by simpa using hw) (by rw [List.size_toArray, List.size_toArray]; exact hsz)) ⟨ho, ho2, ?_⟩
    rw [e]
    exact h2 hw
def sIx (n d : Nat) : Option Int → Nat
  | none => d
  | some v => if v < 0 then (v + (n : Int)).toNat else min v.toNat n
theorem sIx_none (n d : Nat) : sIx n d none = d := rfl
theorem sIx_nat (n d k : Nat) : sIx n d (some (k : Int)) = min k n := by
  show (if (k : Int) < 0 then ((k : Int) + (n : Int)).toNat else min (k : Int).toNat n) = min k n
  rw [if_neg (by omega), Int.toNat_natCast]
theorem jam (n d : Nat) (hd : d ≤ n) (o : Option Int) : sIx n d o ≤ n := by
  cases o with
  | none => exact hd
  | some v =>
    show (if v < 0 then (v + (n : Int)).toNat else min v.toNat n) ≤ n
    by_cases hv : v < 0
    · rw [if_pos hv]; omega
    · rw [if_neg hv]; exact Nat.min_le_right _ _
theorem VC (v : Int) (n d : Nat) : (if v < 0 then max (v + (n : Int)) 0 else min v (n : Int)) = ((sIx n d (some v) : Nat) : Int) := by
  show (if v < 0 then max (v + (n : Int)) 0 else min v (n : Int)) = (((if v < 0 then (v + (n : Int)).toNat else min v.toNat n) : Nat) : Int)
  by_cases hv : v < 0
  · simp only [if_pos hv]; omega
  · simp only [if_neg hv]; omega
theorem YC (lo hi : Option Int) (n : Nat) : Builtin.Slice.sliceAdjust lo hi 1 (n : Int) = (((sIx n 0 lo : Nat) : Int), ((sIx n n hi : Nat) : Int)) := by
  have h1 : ¬ ((1 : Int) < 0) := by omega
  unfold Builtin.Slice.sliceAdjust
  simp only [h1, if_false]
  refine Prod.ext ?_ ?_
  · cases lo with
    | none => rfl
    | some v => exact VC v n 0
  · cases hi with
    | none => rfl
    | some v => exact VC v n n
theorem X4 (i j : Nat) : Builtin.Slice.slicePlaces (i : Int) (j : Int) 1 = j - i := by
  unfold Builtin.Slice.slicePlaces
  have h1 : (1 : Int) > 0 := by omega
  simp only [h1, if_true, Int.ediv_one]
  split <;> omega
theorem JB {v : Value} {o : Option Int} {Q : Option Int → Shared → Prop} (p : IsPart v o) (h : Q o s) : wpAny (model prog w) A (Builtin.Slice.slicePartIndex v) Q E s := by
  cases p with
  | none => exact slicePart_none h
  | int i t => exact slicePart_int h
theorem sliceApplied_gen {sl : Addr} {vl vu : Value} {lo hi : Option Int} {n : Nat} {Q : Int × Int × Nat → Shared → Prop} (hs : s.heap.IsSliceOf sl vl vu .none) (pl : IsPart vl lo) (pu : IsPart vu hi)
    (h : Q (((sIx n 0 lo : Nat) : Int), 1, sIx n n hi - sIx n 0 lo) s) : wpAny (model prog w) A (Builtin.Slice.sliceApplied (.ref sl) (pure (n : Int))) Q E s := by
  obtain ⟨os, hos, hcs, hds⟩ := id hs
  unfold Builtin.Slice.sliceApplied Builtin.Slice.sliceFields
  refine wpAny_bind (wpAny_bind (wpAny_field hos hds (x := vl) rfl (wpAny_bind (wpAny_field hos hds (x := vu) rfl (wpAny_bind (wpAny_field hos hds (x := .none) rfl (wpAny_pure ?_)))))))
  refine wpAny_bind (slicePart_none ?_)
  show wpAny _ _ (if ((1 : Int) == 0) = true then _ else _) _ _ s
  rw [if_neg (by decide)]
  refine wpAny_bind (JB pl (wpAny_bind (JB pu (wpAny_bind (wpAny_pure ?_)))))
  show wpAny _ _ (match Builtin.Slice.sliceAdjust lo hi 1 (n : Int) with | (lo, hi) => pure (lo, (1 : Int), Builtin.Slice.slicePlaces lo hi 1)) _ _ s
  rw [YC lo hi n]
  show wpAny _ _ (pure (((sIx n 0 lo : Nat) : Int), (1 : Int), Builtin.Slice.slicePlaces ((sIx n 0 lo : Nat) : Int) ((sIx n n hi : Nat) : Int) 1)) _ _ s
  rw [X4]
  exact wpAny_pure h
theorem Uh (xs : Array Value) (i k : Nat) : ((List.range k).filterMap fun (m : Nat) => xs[((i : Int) + (m : Int) * 1).toNat]?).toArray = ((xs.toList.drop i).take k).toArray := by
  have e : (fun (m : Nat) => xs[((i : Int) + (m : Int) * 1).toNat]?) = fun m => xs[i + m]? := by
    funext m
    have : ((i : Int) + (m : Int) * 1).toNat = i + m := by omega
    rw [this]
  rw [e]
  have := pick_run xs i k
  rw [List.filterMap_map] at this
  have e2 : ((fun x => xs[x]?) ∘ fun x => i + x) = fun m => xs[i + m]? := rfl
  rw [e2] at this
  rw [this]
theorem getItem_tuple_cut {t sl : Addr} {items : Array Value} {vl vu : Value} {lo hi : Option Int} {Q : Value → Shared → Prop} (ht : IsTup s.heap t items) (hs : s.heap.IsSliceOf sl vl vu .none) (pl : IsPart vl lo) (pu : IsPart vu hi)
    (hw : ¬ (sIx items.size 0 lo = 0 ∧ sIx items.size items.size hi = items.size))
    (h : Q (.ref s.heap.objs.size) { s with heap := s.heap.push { cls := .type "tuple", data := .seq ((items.toList.drop (sIx items.size 0 lo)).take (sIx items.size items.size hi - sIx items.size 0 lo)).toArray } })
    (hsz : items.size ≤ sizeLine) : wpAny (model prog w) A (getItem (.ref t) (.ref sl)) Q E s := by
  have htake : sizeOk (.seq ((items.toList.drop (sIx items.size 0 lo)).take (sIx items.size items.size hi - sIx items.size 0 lo)).toArray) := by
    show ((items.toList.drop (sIx items.size 0 lo)).take (sIx items.size items.size hi - sIx items.size 0 lo)).toArray.size ≤ sizeLine
    rw [List.size_toArray, List.length_take, List.length_drop, Array.length_toList]
    omega
  have hj : sIx items.size items.size hi ≤ items.size := jam _ _ (Nat.le_refl _) hi
  obtain ⟨os, hos, hcs, hds⟩ := id hs
  have hTs : s.TypeIs (.ref sl) "slice" := ⟨os, hos, hcs⟩
  unfold getItem
  try with_reducible refine wpAny_holding ?_
  first | refine wpAny_bind (wpAny_pure ?_) | skip
  refine wpAny_bind (wpAny_sequenceKey ht.typeIs (by decide) ?_)
  refine wpAny_bind (wpAny_callSpecial?_slot (name := Str.ofString "__getitem__") ht.typeIs PyProof.Rows.slot_tuple_getitem
    (wpAny_call_entry PyProof.Rows.slot_tuple_getitem ht.typeIs entry_tuple_getitem ?_ (args_tuple_getitem _ _)))
  show wpAny _ _ (Builtin.Tuple.tupleItemsOf (.ref t) >>= _) _ _ s
  refine wpAny_bind (tupleItemsOf_ ht ?_)
  refine wpAny_bind (wpAny_typeOf hTs ?_)
  rw [if_pos (by decide)]
  refine wpAny_bind (sliceApplied_gen hs pl pu ?_)
  have hno : ¬ ((((sIx items.size 0 lo : Nat) : Int) == 0 && (1 : Int) == 1 && (sIx items.size items.size hi - sIx items.size 0 lo) == items.size) = true) := by
    intro q
    rw [Bool.and_eq_true, Bool.and_eq_true] at q
    have q1 : ((sIx items.size 0 lo : Nat) : Int) = 0 := eq_of_beq q.1.1
    have q2 : sIx items.size items.size hi - sIx items.size 0 lo = items.size := eq_of_beq q.2
    exact hw ⟨by omega, by omega⟩
  show wpAny _ _ (if (((sIx items.size 0 lo : Nat) : Int) == 0 && (1 : Int) == 1 && (sIx items.size items.size hi - sIx items.size 0 lo) == items.size) = true then _ else _) _ _ s
  rw [if_neg hno, Uh]
  first
    | exact wpAny_bind (m := Builtin.Tuple.tupleExact _) (wpAny_newObj_type (wpAny_pure ⟨_, rfl, wpAny_pure h⟩) htake)
    | exact wpAny_bind (m := Builtin.Tuple.tupleExact _) (wpAny_newObj_type (wpAny_bind (wpAny_pure (wpAny_pure ⟨_, rfl, wpAny_pure h⟩))) htake)
    | exact wpAny_bind (wpAny_bind (m := Builtin.Tuple.tupleExact _) (wpAny_newObj_type (wpAny_pure (wpAny_pure ⟨_, rfl, wpAny_pure h⟩)) htake))
    | exact wpAny_bind (wpAny_bind (m := Builtin.Tuple.tupleExact _) (wpAny_newObj_type (wpAny_pure ⟨_, rfl, wpAny_pure h⟩) htake))
end
end HT
namespace L2
open PySem PySem.Spec PyProof.Rows
abbrev TO := St → Hp → (Option Int → Hp → Prop) → Prop
def PO (X : Cx) (e : Option Expr) (t : TO) : Prop :=
  ∀ (pins : List (Addr × Obj)) (s : Shared) (σ : St) (H : Hp) (Q : Option Int → Hp → Prop), Inv X pins σ H s → t σ H Q →
    wpAny (model X.prog X.w) X.A (evalPart e X.env) (fun u s' => ∃ o H', Inv X pins σ H' s' ∧ IsPart u o ∧ Q o H') X.xe s
def vE : TO := fun _ H Q => Q none H
def jbB (t : TE) : TO := fun σ H Q => t σ H fun x H1 => ∃ i, x = .int i ∧ Q (some i) H1
section
variable {X : Cx} {e : Expr} {te : TE} {lo hi : Option Expr} {tl th : TO} {pos p2 : Pos}
theorem vT : PO X none vE := by
  intro pins s σ H Q I h
  rw [evalPart_none]
  exact wpAny_pure ⟨none, H, I, .none, h⟩
theorem vS (h : PE X e te) : PO X (some e) (jbB te) := by
  intro pins s σ H Q I hw
  rw [evalPart_some]
  refine thn (h pins s σ H _ I hw) fun u s1 ⟨x, H1, I1, r1, q1⟩ => ?_
  obtain ⟨i, rfl, q⟩ := q1
  obtain ⟨t, rfl⟩ := r1
  exact ⟨some i, H1, I1, .int i t, q⟩
def SlR (X : Cx) (r : V → Option Int → Option Int → Hp → VK → Prop) : Prop :=
  ∀ (pins : List (Addr × Obj)) (s : Shared) (σ : St) (H : Hp) (x : V) (v vl vu : Value) (lo hi : Option Int) (sl : Addr) (Q : VK), Inv X pins σ H s → RelV x v → s.heap.IsSliceOf sl vl vu .none → IsPart vl lo → IsPart vu hi → r x lo hi H Q →
    ∃ T id, typeLookup (.type T) "__getitem__" = pure (some (.builtin id)) ∧ s.TypeIs v T ∧ wpAny (model X.prog X.w) X.A (getItem v (.ref sl)) (EP X pins σ Q) X.xe s
theorem SlR.or {r r' : V → Option Int → Option Int → Hp → VK → Prop} (h : SlR X r) (h' : SlR X r') : SlR X (fun x lo hi H Q => r x lo hi H Q ∨ r' x lo hi H Q) := by
  intro pins s σ H x v vl vu lo hi sl Q I rx hs pl pu q
  rcases q with q | q
  · exact h pins s σ H x v vl vu lo hi sl Q I rx hs pl pu q
  · exact h' pins s σ H x v vl vu lo hi sl Q I rx hs pl pu q
def tSl (r : V → Option Int → Option Int → Hp → VK → Prop) (te : TE) (tl th : TO) : TE := fun σ H Q => te σ H fun x H1 => tl σ H1 fun l H2 => th σ H2 fun u H3 => r x l u H3 Q
theorem WX {r : V → Option Int → Option Int → Hp → VK → Prop} (hr : SlR X r) (he : PE X e te) (hl : PO X lo tl) (hu : PO X hi th) : PE X (.Subscript e (.Slice lo hi none p2) pos) (tSl r te tl th) := by
  intro pins s σ H Q I h
  refine Subscript_ (thn (he pins s σ H _ I h) fun v s1 ⟨x, H1, I1, r1, q1⟩ => ?_)
  refine wpAny_Slice (thn (hl pins s1 σ H1 _ I1 q1) fun vl s2 ⟨l, H2, I2, pl, q2⟩ => thn (hu pins s2 σ H2 _ I2 q2) fun vu s3 ⟨u, H3, I3, pu, q3⟩ => ?_)
  rw [evalPart_none]
  refine wpAny_pure ?_
  have I4 : Inv X pins σ H3 { s3 with heap := s3.heap.push { cls := .type "slice", data := .fields #[vl, vu, .none] } } := I3.kept (t' := s3.toks) fun b ob q => Heap.get?_push_of_some _ q
  obtain ⟨T, id, hT, ht, hg⟩ := hr pins { s3 with heap := s3.heap.push { cls := .type "slice", data := .fields #[vl, vu, .none] } } σ H3 x v vl vu l u s3.heap.objs.size Q I4 r1 (Heap.IsSliceOf.new ..) pl pu q3
  show wpAny (model X.prog X.w) X.A (subscriptTail e (.Slice lo hi none p2) v (.ref s3.heap.objs.size)) (EP X pins σ Q) X.xe { s3 with heap := s3.heap.push { cls := .type "slice", data := .fields #[vl, vu, .none] } }
  exact tail_any (ops := [.ref s3.heap.objs.size, v]) ht hT hg (by with_unfolding_all rfl)
def cutV (xs : List V) (lo hi : Option Int) : List V := (xs.drop (HT.sIx xs.length 0 lo)).take (HT.sIx xs.length xs.length hi - HT.sIx xs.length 0 lo)
theorem Jk (xs : List V) (lo hi : Option Int) : (cutV xs lo hi).length ≤ xs.length := by
  unfold cutV
  rw [List.length_take, List.length_drop]
  omega
def rSlT (K : PySem.W.Frag) : V → Option Int → Option Int → Hp → VK → Prop := fun x lo hi H Q => ∃ a xs, x = .ref a ∧ SqT K H a xs ∧
  ¬ (HT.sIx xs.length 0 lo = 0 ∧ HT.sIx xs.length xs.length hi = xs.length) ∧ ∀ p, H p = none → Q (.ref p) (upd H p (.tup (cutV xs lo hi)))
theorem sl_tup : SlR X (rSlT X.K) := by
  intro pins s σ H x v vl vu lo hi sl Q I rx hs pl pu h
  obtain ⟨a, xs, rfl, hx, hw, q⟩ := h
  cases rx
  obtain ⟨its, r, ht, hz⟩ := I.tuple hx
  have hlen : its.toArray.size = xs.length := by rw [List.size_toArray]; exact r.length.symm
  refine ⟨"tuple", _, PyProof.Rows.slot_tuple_getitem.lookup, ht.typeIs, ?_⟩
  refine HT.getItem_tuple_cut ht hs pl pu (by rw [hlen]; exact hw) ?_ (by rw [hlen]; exact hz)
  rw [hlen]
  refine ⟨.ref s.heap.objs.size, _, I.laid (t' := s.toks) (o := .tup (cutV xs lo hi)) (fun b ob q => Heap.get?_push_of_some _ q) (Nat.le_refl _) ?_, rfl, q _ (I.hok.fresh (Nat.le_refl _))⟩
  exact ⟨Nat.le_trans (Jk xs lo hi) hz, _, (r.drop (HT.sIx xs.length 0 lo)).take (HT.sIx xs.length xs.length hi - HT.sIx xs.length 0 lo), IsTup.new _ _⟩
def Y5 (K : PySem.W.Frag) : R2 := fun x y H Q => ∃ a b xs ys, x = .ref a ∧ y = .ref b ∧ SqT K H a xs ∧ SqT K H b ys ∧ xs ≠ [] ∧ xs.length + ys.length ≤ sizeLine ∧
  (ys = [] → Q (.ref a) H) ∧ (ys ≠ [] → ∀ p, H p = none → Q (.ref p) (upd H p (.tup (xs ++ ys))))
theorem Vals.nil_iff {xs : List V} {us : List Value} (r : Vals xs us) : us = [] ↔ xs = [] := by
  cases r with
  | nil => simp
  | cons _ _ => simp
theorem uc : OpR X (binaryOp .Add) (Y5 X.K) := by
  intro pins s σ H x y v u Q I rx ry h
  obtain ⟨a, b, xs, ys, rfl, rfl, ha, hb, hx, hz, q1, q2⟩ := h
  cases rx
  cases ry
  obtain ⟨its, r1, p1, _⟩ := I.tuple ha
  obtain ⟨its2, r2, p2, _⟩ := I.tuple hb
  refine HT.cat_tup p1 p2 (fun z => hx (r1.nil_iff.mp z)) (fun z => ⟨.ref a, H, I, rfl, q1 (r2.nil_iff.mp z)⟩) (fun z => ?_) (by rw [← r1.length, ← r2.length]; exact hz)
  refine ⟨.ref s.heap.objs.size, _, I.laid (t' := s.toks) (o := .tup (xs ++ ys)) (fun b ob q => Heap.get?_push_of_some _ q) (Nat.le_refl _) ?_, rfl, q2 (fun w => z (r2.nil_iff.mpr w)) _ (I.hok.fresh (Nat.le_refl _))⟩
  exact ⟨by rw [List.length_append]; exact hz, _, r1.append r2, IsTup.new _ _⟩
end
end L2
namespace L2
open PySem PySem.Spec PyProof.Rows
def ixN (n : Nat) (i : Int) : Option Nat := if 0 ≤ i then (if i < n then some i.toNat else none) else if -(n : Int) ≤ i then some (i + n).toNat else none
def atI {α : Type} (xs : List α) (i : Int) : Option α := (ixN xs.length i).bind fun j => xs[j]?
theorem up {n : Nat} {i : Int} {j : Nat} (h : ixN n i = some j) : seqIndex? i n = some j ∧ j < n ∧ -(n : Int) ≤ i ∧ i < n := by
  unfold ixN at h
  by_cases h0 : 0 ≤ i
  · rw [if_pos h0] at h
    by_cases h1 : i < n
    · rw [if_pos h1] at h
      have e : i.toNat = j := Option.some.inj h
      exact ⟨by rw [seqIndex_of h0 h1, e], by omega, by omega, h1⟩
    · rw [if_neg h1] at h; cases h
  · rw [if_neg h0] at h
    by_cases h1 : -(n : Int) ≤ i
    · rw [if_pos h1] at h
      have e : (i + n).toNat = j := Option.some.inj h
      exact ⟨by rw [seqIndex_neg (by omega) h1, e], by omega, h1, by omega⟩
    · rw [if_neg h1] at h; cases h
theorem Wx {α : Type} {xs : List α} {i : Int} {v : α} (h : atI xs i = some v) : ∃ j, seqIndex? i xs.length = some j ∧ xs[j]? = some v ∧ j < xs.length ∧ -(xs.length : Int) ≤ i ∧ i < xs.length := by
  unfold atI at h
  cases e : ixN xs.length i with
  | none => rw [e] at h; cases h
  | some j =>
    rw [e] at h
    obtain ⟨h1, h2, h3, h4⟩ := up e
    exact ⟨j, h1, h, h2, h3, h4⟩
theorem atI_nat {α : Type} {xs : List α} {j : Nat} {v : α} (h : xs[j]? = some v) : atI xs (j : Int) = some v := by
  have hj : j < xs.length := (List.getElem?_eq_some_iff.mp h).1
  have e : ixN xs.length (j : Int) = some j := by
    unfold ixN
    rw [if_pos (by omega), if_pos (by omega)]; simp
  unfold atI; rw [e]; exact h
def WA (b : Expr) : Prop := ∀ o i, subscripted b false o i = operate [o, i] (getItem o i)
def IxR (X : Cx) (r : R2) : Prop :=
  ∀ (value slice : Expr) (pins : List (Addr × Obj)) (s : Shared) (σ : St) (H : Hp) (x y : V) (v u : Value) (Q : VK), Inv X pins σ H s → RelV x v → RelV y u → r x y H Q →
    subscripted slice false v u = operate [v, u] (getItem v u) → wpAny (model X.prog X.w) X.A (subscriptTail value slice v u) (EP X pins σ Q) X.xe s
def MtR (X : Cx) (id : String) (r : V → List V → Hp → VK → Prop) : Prop :=
  ∀ (pins : List (Addr × Obj)) (s : Shared) (σ : St) (H : Hp) (x : V) (xs : List V) (v : Value) (us : List Value) (Q : VK), Inv X pins σ H s → RelV x v → Vals xs us → r x xs H Q →
    wpAny (model X.prog X.w) X.A (call (.builtin id) (v :: us)) (EP X pins σ Q) X.xe s
section
variable {X : Cx} {a b : Expr} {ta tb : TE} {pos : Pos}
theorem IxR.or {r r' : R2} (h : IxR X r) (h' : IxR X r') : IxR X (fun x y H Q => r x y H Q ∨ r' x y H Q) := by
  intro value slice pins s σ H x y v u Q I rx ry q hs
  rcases q with q | q
  · exact h value slice pins s σ H x y v u Q I rx ry q hs
  · exact h' value slice pins s σ H x y v u Q I rx ry q hs
theorem MtR.or {id : String} {r r' : V → List V → Hp → VK → Prop} (h : MtR X id r) (h' : MtR X id r') : MtR X id (fun x xs H Q => r x xs H Q ∨ r' x xs H Q) := by
  intro pins s σ H x xs v us Q I rx rs q
  rcases q with q | q
  · exact h pins s σ H x xs v us Q I rx rs q
  · exact h' pins s σ H x xs v us Q I rx rs q
theorem jaJ {r : R2} (hr : IxR X r) (ha : PE X a ta) (hb : PE X b tb) (hs : WA b) : PE X (.Subscript a b pos) (tOp r ta tb) := by
  intro pins s σ H Q I h
  exact Subscript_ (binT ha hb I h fun v u s2 x y H2 I2 rx ry q => hr a b pins s2 σ H2 x y v u Q I2 rx ry q (hs _ _))
def rIxL (K : PySem.W.Frag) : R2 := fun x y H Q => ∃ p xs i v, x = .ref p ∧ y = .int i ∧ SqL K H p xs ∧ atI xs i = some v ∧ Q v H
def rIxT (K : PySem.W.Frag) : R2 := fun x y H Q => ∃ p xs i v, x = .ref p ∧ y = .int i ∧ SqT K H p xs ∧ atI xs i = some v ∧ Q v H
def rIxS : R2 := fun x y H Q => ∃ z i c, x = .str z ∧ y = .int i ∧ z.length ≤ sizeLine ∧ atI z.cps.toList i = some c ∧ Q (.str ⟨#[c]⟩) H
theorem ix_list : IxR X (rIxL X.K) := by
  intro value slice pins s σ H x y v u Q I rx ry h hs
  obtain ⟨p, xs, i, z, rfl, rfl, hq, he, q⟩ := h
  cases rx
  obtain ⟨t, rfl⟩ := ry
  obtain ⟨its, r, pl, hz⟩ := I.list hq
  obtain ⟨j, h1, h2, h3, h4, h5⟩ := Wx he
  obtain ⟨w, ew, rw'⟩ := r.get h2
  have hl := r.length
  have hn := JK
  have fin : EP X pins σ Q w s := ⟨z, H, I, rw', q⟩
  by_cases h0 : 0 ≤ i
  · have hj : i.toNat = j := by
      rw [seqIndex_of h0 h5] at h1
      exact Option.some.inj h1
    exact item_listR pl.isList h0 (by omega) (by rw [hj]; simpa using ew) fin hs
  · have hj : (i + (its.toArray.size : Int)).toNat = j := by
      rw [seqIndex_neg (by omega) h4] at h1
      rw [List.size_toArray, ← hl]
      exact Option.some.inj h1
    exact subscriptTail_builtinR (x := w) pl.isList.typeIs slot_list_getitem.lookup
      (wpAny_getItem_list_neg (Q := fun r s' => r = w ∧ EP X pins σ Q r s') pl.isList (by omega) (by rw [List.size_toArray] <;> omega) (by omega) (by rw [hj]; simpa using ew) ⟨rfl, fin⟩) hs
theorem ix_tup : IxR X (rIxT X.K) := by
  intro value slice pins s σ H x y v u Q I rx ry h hs
  obtain ⟨p, xs, i, z, rfl, rfl, hq, he, q⟩ := h
  cases rx
  obtain ⟨t, rfl⟩ := ry
  obtain ⟨its, r, pl, hz⟩ := I.tuple hq
  obtain ⟨j, h1, h2, h3, h4, h5⟩ := Wx he
  obtain ⟨w, ew, rw'⟩ := r.get h2
  have hl := r.length
  have hn := JK
  have fin : EP X pins σ Q w s := ⟨z, H, I, rw', q⟩
  exact subscriptTail_builtinR (x := w) pl.typeIs slot_tuple_getitem.lookup
    (getItem_tuple (j := j) (Q := fun r s' => r = w ∧ EP X pins σ Q r s') pl (by omega) (by omega) (by rw [List.size_toArray, ← hl]; exact h1) (by simpa using ew) ⟨rfl, fin⟩) hs
theorem ja6 : IxR X rIxS := by
  intro value slice pins s σ H x y v u Q I rx ry h hs
  obtain ⟨z, i, c, rfl, rfl, hz, he, q⟩ := h
  obtain ⟨t, rfl⟩ := rx
  obtain ⟨t', rfl⟩ := ry
  obtain ⟨j, h1, h2, h3, h4, h5⟩ := Wx he
  have hl : z.cps.toList.length = z.length := by simp [Str.length]
  rw [hl] at h1 h4 h5
  have hn := JK
  exact tail_any (typeIs_str s z t) slot_str_getitem.lookup (getItem_str (c := c) (by
    have e1 : decide (i < -(2 ^ 63 : Int)) = false := decide_eq_false (by omega)
    have e2 : decide (i ≥ 2 ^ 63) = false := decide_eq_false (by omega)
    rw [e1, e2, Bool.or_false]) (by rw [h1]; simpa using h2) ⟨.str ⟨#[c]⟩, H, I.tok _, ⟨_, rfl⟩, q⟩) hs
def rIx (K : PySem.W.Frag) : R2 := fun x y H Q => rIxL K x y H Q ∨ rIxT K x y H Q ∨ rIxS x y H Q
theorem vf : IxR X (rIx X.K) := ix_list.or (ix_tup.or ja6)
theorem QP (lo hi : Option Int) (n : Nat) : (sliceBounds lo hi none n).1 = ((HT.sIx n 0 lo : Nat) : Int) ∧ (sliceBounds lo hi none n).2.1 = ((HT.sIx n n hi : Nat) : Int) ∧ (sliceBounds lo hi none n).2.2 = 1 := by
  refine ⟨?_, ?_, rfl⟩
  · cases lo with
    | none => simp [sliceBounds, HT.sIx]
    | some i =>
      simp only [sliceBounds, HT.sIx, Option.getD_none, show (1 : Int) > 0 by decide, if_true]
      by_cases h : i < 0
      · simp only [h, if_true] <;> omega
      · simp only [h, if_false] <;> omega
  · cases hi with
    | none => simp [sliceBounds, HT.sIx]
    | some i =>
      simp only [sliceBounds, HT.sIx, Option.getD_none, show (1 : Int) > 0 by decide, if_true]
      by_cases h : i < 0
      · simp only [h, if_true] <;> omega
      · simp only [h, if_false] <;> omega
theorem JZ (its : List Value) (lo hi : Option Int) : slicePick its.toArray lo hi none = ((its.drop (HT.sIx its.length 0 lo)).take (HT.sIx its.length its.length hi - HT.sIx its.length 0 lo)).toArray := by
  obtain ⟨h1, h2, h3⟩ := QP lo hi its.toArray.size
  unfold slicePick
  rw [h1, h2, h3]
  simp only [sliceRange_one, pick_run, List.size_toArray] <;> rfl
def rSlL (K : PySem.W.Frag) : V → Option Int → Option Int → Hp → VK → Prop := fun x lo hi H Q => ∃ a xs, x = .ref a ∧ SqL K H a xs ∧ ∀ p, H p = none → Q (.ref p) (upd H p (.lst (cutV xs lo hi)))
theorem sl_list : SlR X (rSlL X.K) := by
  intro pins s σ H x v vl vu lo hi sl Q I rx hs pl pu h
  obtain ⟨a, xs, rfl, hx, q⟩ := h
  cases rx
  obtain ⟨its, r, ht, hz⟩ := I.list hx
  have hlen := r.length
  refine ⟨"list", _, slot_list_getitem.lookup, ht.isList.typeIs, ?_⟩
  refine wpAny_getItem_list_slice ht.isList hs pl pu .none (by simp) ?_ (by rw [List.size_toArray] <;> omega)
  rw [JZ, ← hlen]
  refine ⟨.ref s.heap.objs.size, _, I.laid (t' := s.toks) (o := .lst (cutV xs lo hi)) (fun b ob q => Heap.get?_push_of_some _ q) (Nat.le_refl _) ?_, rfl, q _ (I.hok.fresh (Nat.le_refl _))⟩
  exact ⟨Nat.le_trans (Jk xs lo hi) hz, _, 0, (r.drop (HT.sIx xs.length 0 lo)).take (HT.sIx xs.length xs.length hi - HT.sIx xs.length 0 lo), Heap.get?_push_size _ rfl⟩
theorem call_len_seq : CallR X (.builtin "len") (fun xs H Q => ∃ p ys, xs = [.ref p] ∧ (SqL X.K H p ys ∨ SqT X.K H p ys) ∧ Q (.int ys.length) H) := by
  intro pins s σ H xs us Q I r h
  obtain ⟨p, ys, rfl, hq, q⟩ := h
  obtain ⟨u, rfl, rx⟩ := yq r
  cases rx
  have hn := JK
  rcases hq with hq | hq
  · obtain ⟨its, r', pl, hz⟩ := I.list hq
    have hlen := r'.length
    exact Calls.call_len_list pl.isList (by simp only [List.size_toArray] <;> omega) ⟨.int ys.length, H, I.tok _, ⟨s.toks + 1, by rw [List.size_toArray, hlen]⟩, q⟩
  · obtain ⟨its, r', pl, hz⟩ := I.tuple hq
    have hlen := r'.length
    exact len_tuple pl (by simp only [List.size_toArray] <;> omega) ⟨.int ys.length, H, I.tok _, ⟨s.toks + 1, by rw [List.size_toArray, hlen]⟩, q⟩
theorem ZG : CallR X (.builtin "len") (fun xs H Q => ∃ z, xs = [.str z] ∧ z.length ≤ sizeLine ∧ Q (.int z.length) H) := by
  intro pins s σ H xs us Q I r h
  obtain ⟨z, rfl, hz, q⟩ := h
  obtain ⟨u, rfl, t, rfl⟩ := yq r
  have hn := JK
  exact len_str (by omega) ⟨.int z.length, H, I.tok _, ⟨_, rfl⟩, q⟩
theorem CallR.or {f : Value} {r r' : List V → Hp → VK → Prop} (h : CallR X f r) (h' : CallR X f r') : CallR X f (fun xs H Q => r xs H Q ∨ r' xs H Q) := by
  intro pins s σ H xs us Q I rs q
  rcases q with q | q
  · exact h pins s σ H xs us Q I rs q
  · exact h' pins s σ H xs us Q I rs q
theorem xc : CallR X (.type "list") (fun xs H Q => ∃ p ys, xs = [.ref p] ∧ (SqL X.K H p ys ∨ SqT X.K H p ys) ∧ ∀ l, H l = none → Q (.ref l) (upd H l (.lst ys))) := by
  intro pins s σ H xs us Q I r h
  obtain ⟨p, ys, rfl, hq, q⟩ := h
  obtain ⟨u, rfl, rx⟩ := yq r
  cases rx
  have fin : ∀ (its : List Value), Vals ys its → ys.length ≤ sizeLine → ∀ (h' : Heap) (c' : Nat), (∀ b o', s.heap.get? b = some o' → h'.get? b = some o') →
      h'.get? s.heap.objs.size = some { cls := .type "list", dict := none, data := .seq its.toArray c', slots := #[] } → EP X pins σ Q (.ref s.heap.objs.size) { s with heap := h' } := fun its r' hz h' c' kp e =>
    ⟨.ref s.heap.objs.size, _, I.laid (t' := s.toks) kp (Nat.le_refl _) (show ObjOk X.prog X.w _ h' _ (.lst ys) from ⟨hz, its, c', r', e⟩), rfl, q _ (I.hok.fresh (Nat.le_refl _))⟩
  rcases hq with hq | hq
  · obtain ⟨its, r', pl, hz⟩ := I.list hq
    have hlen := r'.length
    obtain ⟨o, ho, hc, n, hd⟩ := pl.isList
    exact call_list_seq p (.inl rfl) ho hc hd (fun h' c' kp e => fin its r' hz h' c' kp e) (by simp only [List.size_toArray] <;> omega)
  · obtain ⟨its, r', pl, hz⟩ := I.tuple hq
    have hlen := r'.length
    obtain ⟨o, ho, hc, n, hd⟩ := pl
    exact call_list_seq p (.inr rfl) ho hc hd (fun h' c' kp e => fin its r' hz h' c' kp e) (by simp only [List.size_toArray] <;> omega)
theorem QE : CallR X (.type "tuple") (fun xs H Q => ∃ p ys, xs = [.ref p] ∧ ((SqL X.K H p ys ∧ ∀ l, H l = none → Q (.ref l) (upd H l (.tup ys))) ∨ (SqT X.K H p ys ∧ Q (.ref p) H))) := by
  intro pins s σ H xs us Q I r h
  obtain ⟨p, ys, rfl, h⟩ := h
  obtain ⟨u, rfl, rx⟩ := yq r
  cases rx
  rcases h with ⟨hq, q⟩ | ⟨hq, q⟩
  · obtain ⟨its, r', pl, hz⟩ := I.list hq
    have hlen := r'.length
    refine call_tuple_list pl.isList (fun h' kp => ?_) (by simp only [List.size_toArray] <;> omega)
    have I1 : Inv X pins σ H { s with heap := h' } := I.kept (t' := s.toks) kp
    have I2 : Inv X pins σ (upd H h'.objs.size (.tup ys)) { s with heap := h'.push { cls := .type "tuple", data := .seq its.toArray } } :=
      I1.laid (t' := s.toks) (fun b o e => Heap.get?_push_of_some _ e) (Nat.le_refl _) (show ObjOk X.prog X.w _ _ _ (.tup ys) from ⟨hz, its, r', IsTup.new _ _⟩)
    exact ⟨.ref h'.objs.size, _, I2, rfl, q _ (I1.hok.fresh (Nat.le_refl _))⟩
  · obtain ⟨its, r', pl, hz⟩ := I.tuple hq
    exact call_tuple_same pl ⟨.ref p, H, I, rfl, q⟩
def tyV (K : PySem.W.Frag) (T : String) (x : V) (H : Hp) : Prop := match x with
  | .str _ => T = "str"
  | .int _ => T = "int"
  | .ref p => (T = "list" ∧ ∃ xs, SqL K H p xs) ∨ (T = "tuple" ∧ ∃ o, K.lookup p = some o ∧ o.cls = .type "tuple" ∧ o.dict = none) ∨
      (T = "dict" ∧ ((∃ kvs, H p = some (.dK kvs)) ∨ ∃ kvs, H p = some (.dT kvs))) ∨ (T = "set" ∧ ∃ S n, H p = some (.set S n))
  | _ => False
theorem kN {pins : List (Addr × Obj)} {σ : St} {H : Hp} {s : Shared} {T : String} {x : V} {v : Value} (I : Inv X pins σ H s) (r : RelV x v) (ty : tyV X.K T x H) :
    s.TypeIs v T ∧ ∀ a, v = .ref a → ∃ ob, s.heap.get? a = some ob ∧ ob.dict = none := by
  cases x with
  | str z =>
    obtain ⟨t, rfl⟩ := r
    cases (show T = "str" from ty)
    exact ⟨typeIs_str s z t, fun _ e => nomatch e⟩
  | int i =>
    obtain ⟨t, rfl⟩ := r
    cases (show T = "int" from ty)
    exact ⟨typeIs_int s i t, fun _ e => nomatch e⟩
  | ref p =>
    cases r
    rcases ty with ⟨rfl, xs, hq⟩ | ⟨rfl, o, hk, hc, hd⟩ | ⟨rfl, hk⟩ | ⟨rfl, S, n, hk⟩
    · obtain ⟨its, _, pl, _⟩ := I.list hq
      refine ⟨pl.isList.typeIs, fun a e => ?_⟩
      cases e
      obtain ⟨o, n, e, c, hd, _⟩ := pl
      exact ⟨o, e, hd⟩
    · refine ⟨⟨o, I.kIn p o hk, hc⟩, fun a e => ?_⟩
      cases e
      exact ⟨o, I.kIn _ o hk, hd⟩
    · have z : ∃ o, s.heap.get? p = some o ∧ o.ExactDict := by
        rcases hk with ⟨kvs, hk⟩ | ⟨kvs, hk⟩
        · obtain ⟨_, _, _, _, o, _, _, e, ex, _⟩ := I.hok p _ hk
          exact ⟨o, e, ex⟩
        · obtain ⟨_, _, _, _, o, _, _, e, ex, _⟩ := I.hok p _ hk
          exact ⟨o, e, ex⟩
      obtain ⟨o, e, ex⟩ := z
      refine ⟨⟨o, e, ex.1⟩, fun a e2 => ?_⟩
      cases e2
      exact ⟨o, e, ex.2.1⟩
    · obtain ⟨o, _, _, _, e, ex, _⟩ := I.hok p _ hk
      refine ⟨⟨o, e, ex.1⟩, fun a e2 => ?_⟩
      cases e2
      exact ⟨o, e, ex.2.1⟩
  | _ => exact False.elim ty
def tBM0 (K : PySem.W.Frag) (T : String) (r : V → List V → Hp → VK → Prop) (to : TE) : TE := fun σ H Q => to σ H fun x H1 => tyV K T x H1 ∧ r x [] H1 Q
def tBM (K : PySem.W.Frag) (T : String) (r : V → List V → Hp → VK → Prop) (to : TE) (t : TA) : TE := fun σ H Q => to σ H fun x H1 => tyV K T x H1 ∧ t σ H1 fun xs H2 => r x xs H2 Q
variable {o e : Expr} {es : List Expr} {to : TE} {t : TA} {name : Str} {apos cpos : Pos} {T id : String} {r : V → List V → Hp → VK → Prop}
theorem jaM (pa : PlainAttrs T) (slot : Slot T name id) (hty : typeOf (.builtin id) = pure (.type "method_descriptor")) (hm : MtR X id r) (ho : PE X o to)
    (hbase : attributeBase o name X.env (eval o X.env) = eval o X.env := by rfl) (hline : (apos.endLine == cpos.line) = true := by rfl) : PE X (.Call (.Attribute o name apos) [] [] cpos) (tBM0 X.K T r to) := by
  intro pins s σ H Q I h
  refine wpAny_Call_method0_late hbase hline (thn (ho pins s σ H _ I h) fun v s1 ⟨x, H1, I1, r1, ty, q1⟩ => ?_)
  obtain ⟨h1, h2⟩ := kN I1 r1 ty
  exact ⟨T, id, pa, slot, hty, h1, h2, Calls.callWith_builtin rfl (PySem.evalArgs_none (hm pins s1 σ H1 x [] v [] Q I1 r1 .nil q1))⟩
theorem vZ (pa : PlainAttrs T) (slot : Slot T name id) (hty : typeOf (.builtin id) = pure (.type "method_descriptor")) (hm : MtR X id r) (ho : PE X o to) (ha : PA X (e :: es) t)
    (hbase : attributeBase o name X.env (eval o X.env) = eval o X.env := by rfl)
    (hfew : ((backTo cpos (starEach (e :: es) X.env)).all (fun x => !x.1) && (backToKw cpos (keywordEach [] X.env)).all (fun x => x.1.isSome)
      && decide ((e :: es).length + ([] : List Keyword).length + (if ([] : List Keyword).isEmpty then 0 else 1) < 30)) = true := by rfl)
    (hline : (apos.endLine == cpos.line) = true := by rfl) (hs : starEach (e :: es) X.env = (false, eval e X.env) :: starEach es X.env := by rfl) (hplain : (backTo cpos (starEach es X.env)).any (·.1) = false := by rfl) :
    PE X (.Call (.Attribute o name apos) (e :: es) [] cpos) (tBM X.K T r to t) := by
  intro pins s σ H Q I h
  refine wpAny_Call_method_late hbase hfew hline rfl (thn (ho pins s σ H _ I h) fun v s1 ⟨x, H1, I1, r1, ty, q1⟩ => ?_)
  obtain ⟨h1, h2⟩ := kN I1 r1 ty
  refine ⟨T, id, pa, slot, hty, h1, h2, ?_⟩
  have hA := ha cpos pins s1 σ H1 _ I1 q1
  rw [hs] at hA ⊢
  refine Calls.callWith_builtin (by show (false || (backTo cpos (starEach es X.env)).any (·.1)) = false; rw [hplain] <;> rfl) (Calls.evalArgs_plain ?_)
  exact thn hA fun us s2 ⟨vs, H2, I2, r2, q2⟩ => hm pins s2 σ H2 x vs v us Q I2 r1 r2 q2
/- xs.append(e), list.index on a module's tuple .. are MtR facts of 06m -/
end
end L2
namespace L2
open PySem PySem.Spec PyProof.Rows
def MtM (X : Cx) (id : String) (r : V → List V → Hp → VK → Prop) : Prop :=
  ∀ (pins : List (Addr × Obj)) (s : Shared) (σ : St) (H : Hp) (x : V) (xs : List V) (v : Value) (us : List Value) (Q : VK), Inv X pins σ H s → RelV x v → Vals xs us → r x xs H Q →
    wpAny (model X.prog X.w) X.A (call (.builtin id) (v :: us)) (EP X pins σ Q) X.xe s
theorem Vals.one : ∀ {x : V} {us : List Value}, Vals [x] us → ∃ u, us = [u] ∧ RelV x u
  | _, _, .cons r .nil => ⟨_, rfl, r⟩
theorem Vals.zero : ∀ {us : List Value}, Vals [] us → us = []
  | _, .nil => rfl
section
variable {X : Cx} {pins : List (Addr × Obj)} {σ : St} {H : Hp} {s : Shared} {l b : Addr} {xs ys zs : List V}
theorem Inv.lset {its its' : List Value} {n : Nat} {f : Array Value → Array Value} {t' : Nat} (I : Inv X pins σ H s) (hH : H l = some (.lst xs))
    (e : s.heap.get? l = some { cls := .type "list", data := .seq its.toArray n }) (hf : f its.toArray = its'.toArray) (hv : Vals ys its') (hz : ys.length ≤ sizeLine) :
    Inv X pins σ (upd H l (.lst ys)) { s with heap := s.heap.update l (Obj.mapSeq f), toks := t' } := by
  have q := PySem.IsL.update e f
  rw [hf] at q
  refine I.write (x := l) (e := l) (by rw [hH]; exact trivial) (.inl rfl) (fun b' u hb hu => (Heap.get?_update_other s.heap (Obj.mapSeq f) (Ne.symm hb)).trans hu) ⟨_, q⟩ ?_
  exact ⟨hz, its', _, hv, q⟩
theorem Inv.lnew {its : List Value} {t' : Nat} (I : Inv X pins σ H s) (hv : Vals ys its) (hz : ys.length ≤ sizeLine) :
    Inv X pins σ (upd H s.heap.objs.size (.lst ys)) { s with heap := s.heap.push { cls := .type "list", data := .seq its.toArray }, toks := t' } :=
  I.laid (fun _ _ q => Heap.get?_push_of_some _ q) (Nat.le_refl _) ⟨hz, its, 0, hv, Heap.get?_push_size _ rfl⟩
theorem Inv.fresh (I : Inv X pins σ H s) : H s.heap.objs.size = none := I.hok.fresh (Nat.le_refl _)
theorem Inv.lstM (I : Inv X pins σ H s) (hH : H l = some (.lst xs)) : xs.length ≤ sizeLine ∧ ∃ (its : List Value) (n : Nat), Vals xs its ∧ xs.length = its.length ∧ s.heap.get? l = some { cls := .type "list", data := .seq its.toArray n } := by
  obtain ⟨z, its, n, r, e⟩ := I.hok l _ hH
  exact ⟨z, its, n, r, r.length, e⟩
theorem WZ {n : Nat} (h : n ≤ sizeLine) : Builtin.List.listTooLong n = false := by
  unfold Builtin.List.listTooLong
  exact decide_eq_false (by omega)
end
section
variable {X : Cx}
def vO : V → List V → Hp → VK → Prop := fun x vs H Q => ∃ l xs y, x = .ref l ∧ vs = [y] ∧ H l = some (.lst xs) ∧ xs.length < sizeLine ∧ Q .non (upd H l (.lst (xs ++ [y])))
theorem Ze : MtM X "list.append" vO := by
  intro pins s σ H x vs v us Q I rx rv h
  obtain ⟨l, xs, y, rfl, rfl, hH, hz, q⟩ := h
  cases rx
  obtain ⟨u, rfl, ru⟩ := rv.one
  obtain ⟨z, its, n, r, hl, e⟩ := I.lstM hH
  refine call_meets F.slot_list_append ⟨_, e, rfl⟩ F.entry_list_append (F.args_list_append_2 _ _) (PySem.list_append l its.toArray n u (by rw [List.size_toArray]; omega)) ⟨e, ?_⟩
  refine ⟨.non, _, I.lset (its' := its ++ [u]) hH e (by simp) (r.append (.cons ru .nil)) ?_, rfl, q⟩
  rw [List.length_append, List.length_singleton]
  omega
def vM : V → List V → Hp → VK → Prop := fun x vs H Q => ∃ l b xs zs, x = .ref l ∧ vs = [.ref b] ∧ H l = some (.lst xs) ∧ H b = some (.lst zs) ∧ xs.length + zs.length ≤ sizeLine ∧ Q .non (upd H l (.lst (xs ++ zs)))
theorem KA : MtM X "list.extend" vM := by
  intro pins s σ H x vs v us Q I rx rv h
  obtain ⟨l, b, xs, zs, rfl, rfl, hH, hB, hz, q⟩ := h
  cases rx
  obtain ⟨u, rfl, ru⟩ := rv.one
  cases ru
  obtain ⟨z, its, n, r, hl, e⟩ := I.lstM hH
  obtain ⟨z2, its2, n2, r2, hl2, e2⟩ := I.lstM hB
  have hsz : its.toArray.size + its2.toArray.size ≤ sizeLine := by rw [List.size_toArray, List.size_toArray]; omega
  have hlong : ¬ (!its.toArray.isEmpty && Builtin.List.listTooLong (its.toArray.size + its2.toArray.size)) = true := by
    rw [WZ hsz, Bool.and_false]
    exact Bool.false_ne_true
  refine call_meets F.slot_list_extend ⟨_, e, rfl⟩ F.entry_list_extend (F.args_list_extend_2 _ _)
    (AutoSeq1.list_extend_list_list_0 l its.toArray n b its2.toArray n2 hlong (by rw [List.size_toArray]; omega) (by omega)) ⟨e, e2, ?_⟩
  refine ⟨.non, _, I.lset (its' := its ++ its2) hH e (by simp) (r.append r2) ?_, rfl, q⟩
  rw [List.length_append]
  omega
def jao : V → List V → Hp → VK → Prop := fun x vs H Q => ∃ l xs, x = .ref l ∧ vs = [] ∧ H l = some (.lst xs) ∧ Q .non (upd H l (.lst []))
theorem UB : MtM X "list.clear" jao := by
  intro pins s σ H x vs v us Q I rx rv h
  obtain ⟨l, xs, rfl, rfl, hH, q⟩ := h
  cases rx
  have hus := rv.zero
  subst hus
  obtain ⟨z, its, n, r, hl, e⟩ := I.lstM hH
  refine call_meets F.slot_list_clear ⟨_, e, rfl⟩ F.entry_list_clear (F.args_list_clear_1 _) (AutoSeq1.list_clear_list_0 l its.toArray n (by rw [List.size_toArray]; omega)) ⟨e, ?_⟩
  exact ⟨.non, _, I.lset (its' := []) (ys := []) hH e rfl .nil (Nat.zero_le _), rfl, q⟩
def rCat : R2 := fun x y H Q => ∃ l b xs zs, x = .ref l ∧ y = .ref b ∧ H l = some (.lst xs) ∧ H b = some (.lst zs) ∧ xs.length + zs.length ≤ sizeLine ∧ ∀ p, H p = none → Q (.ref p) (upd H p (.lst (xs ++ zs)))
theorem op_cat : OpR X (binaryOp .Add) rCat := by
  intro pins s σ H x y v u Q I rx ry h
  obtain ⟨l, b, xs, zs, rfl, rfl, hH, hB, hz, q⟩ := h
  cases rx
  cases ry
  obtain ⟨z, its, n, r, hl, e⟩ := I.lstM hH
  obtain ⟨z2, its2, n2, r2, hl2, e2⟩ := I.lstM hB
  refine PySem.P.add_list e e2 ?_ (by rw [List.size_toArray, List.size_toArray]; omega)
  have ea : its.toArray ++ its2.toArray = (its ++ its2).toArray := by simp
  rw [ea]
  exact ⟨.ref _, _, I.lnew (t' := s.toks) (r.append r2) (by rw [List.length_append]; omega), rfl, q _ I.fresh⟩
end
end L2
namespace L2
open PySem PySem.Spec PyProof.Rows
section
variable {κ : Type} [DecidableEq κ]
def valV (kvs : List (κ × V)) (k : κ) : Option V := (kvs.find? fun kv => decide (kv.1 = k)).map (·.2)
def putK (kvs : List (κ × V)) (k : κ) (v : V) : List (κ × V) :=
  if (kvs.any fun kv => decide (kv.1 = k)) = true then kvs.map (fun kv => if kv.1 = k then (kv.1, v) else kv) else kvs ++ [(k, v)]
theorem JV {p : κ × V} {r : List (κ × V)} {k : κ} (e : p.1 = k) : valV (p :: r) k = some p.2 := by simp [valV, List.find?_cons, e]
theorem JW {p : κ × V} {r : List (κ × V)} {k : κ} (e : ¬ p.1 = k) : valV (p :: r) k = valV r k := by simp [valV, List.find?_cons, e]
theorem JX (k : κ) : ∀ kvs : List (κ × V), (kvs.any fun kv => decide (kv.1 = k)) = (valV kvs k).isSome
  | [] => rfl
  | p :: r => by
    rw [List.any_cons]
    by_cases e : p.1 = k
    · simp only [JV e, decide_eq_true e, Bool.true_or, Option.isSome_some]
    · rw [JW e, decide_eq_false e, Bool.false_or]; exact JX k r
theorem yY (kvs : List (κ × V)) (k : κ) (v : V) : (putK kvs k v).length ≤ kvs.length + 1 := by
  unfold putK
  split
  · rw [List.length_map]; omega
  · rw [List.length_append, List.length_cons, List.length_nil]; omega
theorem RelO.isSome_eq {o : Option V} {u : Option Value} (r : RelO o u) : o.isSome = u.isSome := by
  cases o with
  | none => cases u with
    | none => rfl
    | some _ => exact (show False from r).elim
  | some _ => cases u with
    | none => exact (show False from r).elim
    | some _ => rfl
theorem KV.val {kvs : List (κ × V)} {vs : List (κ × Value)} (r : KV kvs vs) (k : κ) : RelO (valV kvs k) (valueAt vs k) := by
  unfold KV at r
  induction r with
  | nil => exact True.intro
  | @cons p q ps qs h t ih =>
    obtain ⟨h1, h2⟩ := h
    by_cases e : p.1 = k
    · have e' : q.1 = k := h1.symm.trans e
      have b : valueAt (q :: qs) k = some q.2 := by simp [valueAt, List.find?_cons, e']
      rw [JV e, b]; exact h2
    · have e' : ¬ q.1 = k := fun z => e (h1.trans z)
      have b : valueAt (q :: qs) k = valueAt qs k := by simp [valueAt, List.find?_cons, e']
      rw [JW e, b]; exact ih
theorem KV.any {kvs : List (κ × V)} {vs : List (κ × Value)} (r : KV kvs vs) (k : κ) : (kvs.any fun kv => decide (kv.1 = k)) = vs.any fun kv => decide (kv.1 = k) := by
  unfold KV at r
  induction r with
  | nil => rfl
  | cons h t ih => rw [List.any_cons, List.any_cons, ih, h.1]
theorem KV.repl {kvs : List (κ × V)} {vs : List (κ × Value)} (r : KV kvs vs) (k : κ) {y : V} {u : Value} (ry : RelV y u) :
    KV (kvs.map fun kv => if kv.1 = k then (kv.1, y) else kv) (vs.map fun kv => if kv.1 = k then (kv.1, u) else kv) := by
  unfold KV at r ⊢
  induction r with
  | nil => exact .nil
  | @cons p q ps qs h t ih =>
    rw [List.map_cons, List.map_cons]
    refine .cons ?_ ih
    obtain ⟨h1, h2⟩ := h
    by_cases e : p.1 = k
    · rw [if_pos e, if_pos (h1.symm.trans e)]; exact ⟨h1, ry⟩
    · rw [if_neg e, if_neg (fun z => e (h1.trans z))]; exact ⟨h1, h2⟩
theorem KV.put {kvs : List (κ × V)} {vs : List (κ × Value)} (r : KV kvs vs) (k : κ) {y : V} {u : Value} (ry : RelV y u) : KV (putK kvs k y) (stored vs k u) := by
  unfold putK stored
  rw [r.any k]
  by_cases e : (vs.any fun kv => decide (kv.1 = k)) = true
  · rw [if_pos e, if_pos e]; exact r.repl k ry
  · rw [if_neg e, if_neg e]; exact Paired.snoc r ⟨rfl, ry⟩
theorem KV.keys {kvs : List (κ × V)} {vs : List (κ × Value)} (r : KV kvs vs) : kvs.map (·.1) = vs.map (·.1) := by
  unfold KV at r
  induction r with
  | nil => rfl
  | cons h t ih => rw [List.map_cons, List.map_cons, ih, h.1]
theorem KV.length {kvs : List (κ × V)} {vs : List (κ × Value)} (r : KV kvs vs) : kvs.length = vs.length := Paired.length r
end
theorem uo {P : Program} {w : World} {k : Key} {u : Value} (r : RelV (kV k) u) : (jI P w).is k u = true := by
  cases k with
  | inl i => obtain ⟨t, e⟩ := (show ∃ t, u = Value.int i t from r); subst e; exact Wi P w i t
  | inr x => obtain ⟨t, e⟩ := (show ∃ t, u = Value.str x t from r); subst e; exact Wh P w x t
theorem Zj {P : Program} {w : World} : ∀ {ks : List Key} {us : List Value}, Vals (ks.map kV) us → ItemsAre (jI P w) ks us
  | [], _, r => by rw [List.map_nil] at r; cases r; exact .nil
  | k :: ks, _, r => by
    rw [List.map_cons] at r
    cases r with
    | cons h t => exact .cons (uo h) (Zj t)
abbrev KT (H : Hp) : List (List Key × V) → List (List Key × Addr × Value) → Prop := Paired fun p q => p.1 = q.1 ∧ H q.2.1 = some (.tup (p.1.map kV)) ∧ RelV p.2 q.2.2
theorem KT.val {H : Hp} {kvs : List (List Key × V)} {xs : List (List Key × Addr × Value)} (r : KT H kvs xs) (k : List Key) : RelO (valV kvs k) ((atKey xs k).map (·.2)) := by
  induction r with
  | nil => exact True.intro
  | @cons p q ps qs h t ih =>
    obtain ⟨h1, _, h2⟩ := h
    by_cases e : p.1 = k
    · have e' : q.1 = k := h1.symm.trans e
      have b : atKey (q :: qs) k = some q.2 := by simp [atKey, List.find?_cons, e']
      rw [JV e, b]; exact h2
    · have e' : ¬ q.1 = k := fun z => e (h1.trans z)
      have b : atKey (q :: qs) k = atKey qs k := by simp [atKey, List.find?_cons, e']
      rw [JW e, b]; exact ih
theorem KT.repl {H : Hp} {kvs : List (List Key × V)} {xs : List (List Key × Addr × Value)} (r : KT H kvs xs) (k : List Key) {y : V} {u : Value} (ry : RelV y u) :
    KT H (kvs.map fun kv => if kv.1 = k then (kv.1, y) else kv) (xs.map (putAt k u)) := by
  induction r with
  | nil => exact .nil
  | @cons p q ps qs h t ih =>
    rw [List.map_cons, List.map_cons]
    refine .cons ?_ ih
    obtain ⟨h1, h2, h3⟩ := h
    unfold putAt
    by_cases e : p.1 = k
    · rw [if_pos e, if_pos (h1.symm.trans e)]; exact ⟨h1, h2, ry⟩
    · rw [if_neg e, if_neg (fun z => e (h1.trans z))]; exact ⟨h1, h2, h3⟩
theorem KT.put {H : Hp} {kvs : List (List Key × V)} {xs : List (List Key × Addr × Value)} (r : KT H kvs xs) (k : List Key) {b : Addr} {y : V} {u : Value} (hb : H b = some (.tup (k.map kV))) (ry : RelV y u) :
    KT H (putK kvs k y) (storedH xs k b u) := by
  have e : (kvs.any fun kv => decide (kv.1 = k)) = (atKey xs k).isSome := by
    rw [JX, (r.val k).isSome_eq, Option.isSome_map]
  unfold putK storedH
  rw [e]
  by_cases q : (atKey xs k).isSome = true
  · rw [if_pos q, if_pos q]; exact r.repl k ry
  · rw [if_neg q, if_neg q]; exact Paired.snoc r ⟨rfl, hb, ry⟩
theorem KT.keeps {H H' : Hp} {kvs : List (List Key × V)} {xs : List (List Key × Addr × Value)} (r : KT H kvs xs) (ht : ∀ b ys, H b = some (.tup ys) → H' b = some (.tup ys)) : KT H' kvs xs :=
  Paired.mapP r fun _ _ z => ⟨z.1, ht _ _ z.2.1, z.2.2⟩
section
variable {P : Program} {w : World} {H : Hp} {h : Heap} {a : Addr}
theorem jan {u : HO} (ok : HOk P w H h) (e : Rd H a u) : ObjOk P w H h a u := e.ok ok
theorem jbk {kvs : List (Key × V)} (ok : HOk P w H h) (e : Rd H a (.dK kvs)) : kvs.length ≤ sizeLine ∧ (a == sysModules) = false ∧ ∃ vs, KV kvs vs ∧ h.DictOf (jI P w) a vs :=
  show ObjOk P w H h a (.dK kvs) from jan ok e
theorem jbl {kvs : List (Key × V)} (ok : HOk P w H h) (e : H a = some (.dK kvs)) : kvs.length ≤ sizeLine ∧ (a == sysModules) = false ∧ ∃ vs, KV kvs vs ∧ h.DictOf (jI P w) a vs := jbk ok (.inl e)
theorem W8 {ks : List Key} (ok : HOk P w H h) (e : H a = some (.tup (ks.map kV))) : (tupleKind (jI P w)).is h ks a := by
  obtain ⟨_, its, r, o, h1, h2, n, h3⟩ := (show ObjOk P w H h a (.tup (ks.map kV)) from ok a _ e)
  exact ⟨o, its.toArray, n, h1, h2, h3, by simpa using Zj r⟩
theorem uL {kvs : List (List Key × V)} (ok : HOk P w H h) (e : Rd H a (.dT kvs)) : kvs.length ≤ sizeLine ∧ (a == sysModules) = false ∧
    ∃ xs, KT H kvs xs ∧ h.DictOfH (tupleKind (jI P w)) a xs := by
  obtain ⟨z, y, xs, r, o, es, ep, h1, h2, h3, h4, h5⟩ := (show ObjOk P w H h a (.dT kvs) from jan ok e)
  refine ⟨z, y, xs, r, o, es, ep, h1, h2, h3, h4, fun x hx => ?_, h5⟩
  have all : ∀ {l : List (List Key × V)} {m : List (List Key × Addr × Value)}, KT H l m → ∀ x ∈ m, (tupleKind (jI P w)).is h x.1 x.2.1 := by
    intro l m q
    induction q with
    | nil => intro x hx; exact nomatch hx
    | @cons p q ps qs hq t ih =>
      intro x hx
      rcases List.mem_cons.mp hx with e | hx
      · subst e
        exact W8 ok (by rw [← hq.1]; exact hq.2.1)
      · exact ih x hx
  exact all r x hx
theorem jbZ {kvs : List (List Key × V)} (ok : HOk P w H h) (e : H a = some (.dT kvs)) : kvs.length ≤ sizeLine ∧ (a == sysModules) = false ∧
    ∃ xs, KT H kvs xs ∧ h.DictOfH (tupleKind (jI P w)) a xs := uL ok (.inl e)
end
def DGet (H : Hp) (a : Addr) (y : V) (r : Option V) : Prop :=
  (∃ kvs k, Rd H a (.dK kvs) ∧ y = kV k ∧ r = valV kvs k) ∨ ∃ kvs k b, Rd H a (.dT kvs) ∧ y = .ref b ∧ H b = some (.tup (k.map kV)) ∧ r = valV kvs k
def DPut (H : Hp) (a : Addr) (y v : V) (H' : Hp) : Prop :=
  (∃ kvs k, H a = some (.dK kvs) ∧ y = kV k ∧ kvs.length < sizeLine ∧ H' = upd H a (.dK (putK kvs k v))) ∨
  ∃ kvs k b, H a = some (.dT kvs) ∧ y = .ref b ∧ H b = some (.tup (k.map kV)) ∧ kvs.length < sizeLine ∧ H' = upd H a (.dT (putK kvs k v))
theorem DGet.t {H : Hp} {a b : Addr} {kvs : List (List Key × V)} {k : List Key} (e : H a = some (.dT kvs)) (eb : H b = some (.tup (k.map kV))) : DGet H a (.ref b) (valV kvs k) := .inr ⟨kvs, k, b, .inl e, rfl, eb, rfl⟩
theorem DPut.k {H : Hp} {a : Addr} {kvs : List (Key × V)} {k : Key} {v : V} (e : H a = some (.dK kvs)) (hl : kvs.length < sizeLine) : DPut H a (kV k) v (upd H a (.dK (putK kvs k v))) := .inl ⟨kvs, k, e, rfl, hl, rfl⟩
theorem DPut.t {H : Hp} {a b : Addr} {kvs : List (List Key × V)} {k : List Key} {v : V} (e : H a = some (.dT kvs)) (eb : H b = some (.tup (k.map kV))) (hl : kvs.length < sizeLine) :
    DPut H a (.ref b) v (upd H a (.dT (putK kvs k v))) := .inr ⟨kvs, k, b, e, rfl, eb, hl, rfl⟩
section
variable {X : Cx} {pins : List (Addr × Obj)} {σ : St} {H : Hp} {s : Shared} {a : Addr} {y v : V} {u r : Value} {o : Option V} {A : Around} {E : Value → Shared → Prop}
theorem Inv.big (I : Inv X pins σ H s) : sysModules < s.heap.objs.size := by
  have h : mainGlobals < s.heap.objs.size := (I.mod.glob.keeps I.bk).lt
  exact Nat.lt_trans (by decide) h
theorem d_in {Q : Value → Shared → Prop} (hu : A.units + 1 < cLine) (I : Inv X pins σ H s) (g : DGet H a y o) (ry : RelV y u) (h : ∀ s', Inv X pins σ H s' → Q (.bool o.isSome) s') :
    wpAny (model X.prog X.w) A (compareOp .In u (.ref a)) Q E s := by
  rcases g with ⟨kvs, k, e, ey, l⟩ | ⟨kvs, k, b, e, ey, eb, l⟩
  · subst ey
    obtain ⟨z, hd, vs, rel, dd⟩ := jbk I.hok e
    refine wpAny_in_of (uo ry) hd dd.mapOf ?_
    rw [← (rel.val k).isSome_eq, ← l]
    exact h _ (I.tok _)
  · subst ey
    cases (show u = Value.ref b from ry)
    obtain ⟨z, hd, xs, rel, dd⟩ := uL I.hok e
    refine wpAny_in_heap (tupleKind_room_in1 hu) (W8 I.hok eb) hd dd ?_
    have q := (rel.val k).isSome_eq
    rw [Option.isSome_map] at q
    rw [← q, ← l]
    exact h _ (I.tok _)
theorem Vy {h' : Heap} {t' : Nat} {ob : HO} (I : Inv X pins σ H s) (mu : Mut (H a)) (hs : Heap.SameBut a s.heap h') (he : ∃ q, h'.get? a = some q) (new : ObjOk X.prog X.w (upd H a ob) h' a ob) :
    Inv X pins σ (upd H a ob) { s with heap := h', toks := t' } :=
  I.write (x := a) (e := a) mu (.inl rfl) (fun b q hb z => (hs.2 b hb).trans z) he new
theorem jbm {P : Program} {w : World} {H' : Hp} {h' : Heap} {kvs : List (Key × V)} {vs : List (Key × Value)} (z : kvs.length ≤ sizeLine) (hd : (a == sysModules) = false) (rel : KV kvs vs) (dd : h'.DictOf (jI P w) a vs) :
    ObjOk P w H' h' a (.dK kvs) := ⟨z, hd, vs, rel, dd⟩
theorem Vz {H' : Hp} {Q : Unit → Shared → Prop} (hu : A.units + 1 < cLine) (I : Inv X pins σ H s) (g : DPut H a y v H') (ry : RelV y u) (rv : RelV v r) (h : ∀ s', Inv X pins σ H' s' → Q () s') :
    wpAny (model X.prog X.w) A (setItem (.ref a) u r) Q E s := by
  rcases g with ⟨kvs, k, e, ey, l, eH⟩ | ⟨kvs, k, b, e, ey, eb, l, eH⟩
  · subst ey eH
    obtain ⟨z, hd, vs, rel, dd⟩ := jbl I.hok e
    have hz : vs.length ≤ sizeLine := by rw [← rel.length]; exact z
    have hl : (putK kvs k v).length ≤ sizeLine := by have := yY kvs k v; omega
    refine wpAny_setItem_pairs (hsz := hz) (uo ry) dd fun h' dd' hs => h _ ?_
    have he : ∃ q, h'.get? a = some q := let ⟨q, _, _, hq, _⟩ := dd'; ⟨q, hq⟩
    exact Vy I (by rw [e]; exact True.intro) hs he (jbm hl hd (rel.put k rv) dd')
  · subst ey eH
    cases (show u = Value.ref b from ry)
    obtain ⟨z, hd, xs, rel, dd⟩ := jbZ I.hok e
    have hz : xs.length ≤ sizeLine := by rw [← Paired.length rel]; exact z
    have hl : (putK kvs k v).length ≤ sizeLine := by have := yY kvs k v; omega
    refine wpAny_setItem_heap (hsz := hz) (tupleKind_room_in1 hu) (W8 I.hok eb) dd fun h' dd' hs => h _ ?_
    obtain ⟨q, es, ep, hq, h2, h3, h4, _, h5⟩ := dd'
    refine Vy I (by rw [e]; exact True.intro) hs ⟨q, hq⟩ ⟨hl, hd, _, (rel.put k eb rv).keeps fun c ys ec => ?_, q, es, ep, hq, h2, h3, h4, h5⟩
    rw [jJ (jbT ec e (fun z => nomatch z))]
    exact ec
end
def jbM (td ty tv : TE) : TS := fun D σ H => tv σ H fun v H1 => td σ H1 fun x H2 => ty σ H2 fun y H3 => ∃ a H4, x = .ref a ∧ DPut H3 a y v H4 ∧ D.nx σ H4
section
variable {X : Cx} {o i e value : Expr} {pos pos' tpos : Pos} {td ty tv : TE}
theorem Ka (hu : X.A.units + 1 < cLine) (ho : PE X o td) (hi : PE X i ty) (hv : PE X value tv) (hs : swapsWith value (some (.Subscript o i pos')) pos.line X.env = pure false) :
    PS X (.Assign [.Subscript o i pos'] value pos) (jbM td ty tv) := by
  intro pins s σ H D I h
  refine wpAny_Assign_Subscript (thn (hv pins s σ H _ I h) fun r s1 ⟨v, H1, I1, rv, q1⟩ => thn (ho pins s1 σ H1 _ I1 q1) fun u s2 ⟨x, H2, I2, rx, q2⟩ => thn (hi pins s2 σ H2 _ I2 q2) fun iv s3 ⟨y, H3, I3, ry, a, H4, ex, g, q3⟩ => ?_) hs
  subst ex
  obtain rfl : u = Value.ref a := rx
  exact Vz hu I3 g ry rv fun s4 I4 => ⟨σ, H4, I4, q3⟩
end
theorem km {P : Program} {w : World} {H : Hp} (h : Heap) (hb : sysModules < h.objs.size) : ObjOk P w H (h.push { cls := .type "dict", data := .dict #[] }) h.objs.size (.dK []) :=
  ⟨Nat.zero_le _, beq_eq_false_iff_ne.mpr (Ne.symm (Nat.ne_of_lt hb)), [], .nil, Heap.DictOf.new h⟩
theorem ka {P : Program} {w : World} {H : Hp} (h : Heap) (hb : sysModules < h.objs.size) : ObjOk P w H (h.push { cls := .type "dict", data := .dict #[] }) h.objs.size (.dT []) :=
  ⟨Nat.zero_le _, beq_eq_false_iff_ne.mpr (Ne.symm (Nat.ne_of_lt hb)), [], .nil, _, #[], 0, Heap.get?_push_size _ rfl, ⟨rfl, rfl, rfl⟩, rfl, rfl, List.nodup_nil⟩
def jag : TE := fun _ H Q => ∀ p, H p = none → Q (.ref p) (upd H p (.dK []))
def jaf : TE := fun _ H Q => ∀ p, H p = none → Q (.ref p) (upd H p (.dT []))
section
variable {X : Cx} {pos : Pos}
theorem Ul : PE X (.Dict [] [] pos) jag := fun pins s σ H Q I h =>
  wpAny_Dict_empty ⟨.ref s.heap.objs.size, _, I.laid (a := s.heap.objs.size) (o := .dK []) (t' := s.toks) (fun _ _ q => Heap.get?_push_of_some _ q) (Nat.le_refl _) (km s.heap I.big), rfl, h _ (I.hok.fresh (Nat.le_refl _))⟩
theorem Uk : PE X (.Dict [] [] pos) jaf := fun pins s σ H Q I h =>
  wpAny_Dict_empty ⟨.ref s.heap.objs.size, _, I.laid (a := s.heap.objs.size) (o := .dT []) (t' := s.toks) (fun _ _ q => Heap.get?_push_of_some _ q) (Nat.le_refl _) (ka s.heap I.big), rfl, h _ (I.hok.fresh (Nat.le_refl _))⟩
end
structure M1 (X : Cx) (o : Expr) (m : Str) (apos : Pos) (e : Expr) (cpos : Pos) : Prop where
  base : attributeBase o m X.env (eval o X.env) = eval o X.env
  few : ((backTo cpos (starEach [e] X.env)).all (fun x => !x.1) && (backToKw cpos (keywordEach [] X.env)).all (fun x => x.1.isSome)
    && decide (([e] : List Expr).length + ([] : List Keyword).length + (if ([] : List Keyword).isEmpty then 0 else 1) < 30)) = true
  line : (apos.endLine == cpos.line) = true
  trees : backTo cpos (starEach [e] X.env) = [(false, eval e X.env)]
structure M2 (X : Cx) (o : Expr) (m : Str) (apos : Pos) (e f : Expr) (cpos : Pos) : Prop where
  base : attributeBase o m X.env (eval o X.env) = eval o X.env
  few : ((backTo cpos (starEach [e, f] X.env)).all (fun x => !x.1) && (backToKw cpos (keywordEach [] X.env)).all (fun x => x.1.isSome)
    && decide (([e, f] : List Expr).length + ([] : List Keyword).length + (if ([] : List Keyword).isEmpty then 0 else 1) < 30)) = true
  line : (apos.endLine == cpos.line) = true
  trees : backTo cpos (starEach [e, f] X.env) = [(false, eval e X.env), (false, eval f X.env)]
end L2
namespace Att
open PySem PySem.W PySem.Calls PyProof.Rows
theorem y8 {P : Params} {h : Heap} : ∀ (ns : List Int) (vs : List Value), WellAll P h vs (ns.map WData.int) → IntsAre vs ns := by
  intro ns
  induction ns with
  | nil =>
    intro vs w
    rw [List.map_nil] at w
    cases w
    exact .nil
  | cons n ns ih =>
    intro vs w
    rw [List.map_cons] at w
    cases w with
    | cons a b =>
      cases a
      exact .cons _ _ (ih _ b)
theorem Y1 {l : OpenLaw} {n : Nat} (hn : l.most = some n) {P : Params} {h : Heap} {args : List WData} {vals : List Value}
    (hpre : l.row.toRowW.claim.pre args = true) (hwl : WellAll P h vals args) :
    ∃ a vs ns, vals = [Value.ref a] ∧ args = [WData.list (ns.map WData.int)] ∧ h.get? a = some { cls := .type "list", data := .seq vs.toArray } ∧ IntsAre vs ns ∧ ns.length ≤ n := by
  have hsh : WShape.hasAll [] args [.list .int] = true := (pre_splitW hpre).1
  have hc : l.pre.holds [] { args := args } = true := (pre_splitW hpre).2
  obtain ⟨d, r, rfl, h1, h2⟩ := hasAllW_cons hsh
  obtain rfl := hasAllW_nil h2
  obtain ⟨xs, rfl, h3⟩ := hasW_list h1
  obtain ⟨ns, rfl⟩ := items_int h3
  have hlen : ns.length ≤ n := by
    unfold OpenLaw.pre at hc
    have h4 : (WTm.not (.lt (.lit (.int (n : Int))) (.len (.arg 0)))).holds [] { args := [.list (ns.map .int)] } = true := by
      have h4 := (holds_andW hc).1
      rw [hn] at h4
      exact h4
    have h5 := condW_of h4 (w_not (w_lt w_lit (w_len_list (w_arg rfl))))
    rw [List.length_map] at h5
    refine Nat.le_of_not_lt fun q => ?_
    have q' : (n : Int) < ((ns.length : Nat) : Int) := by omega
    first
      | (rw [decide_eq_true q'] at h5; exact absurd h5 (by decide))
      | (simp at h5; omega)
  cases hwl with
  | cons w1 w2 =>
    cases w2
    cases w1 with
    | list ho hall => exact ⟨_, _, ns, rfl, rfl, ho, y8 ns _ hall, hlen⟩
theorem Kd (l : OpenLaw) (args : List WData) : l.row.toRowW.claim.post args (.bool true) args = true :=
  postW_of (r := l.row.toRowW) (X := (true == true))
    (show WShape.has [] (.bool true) .bool = true by first | rfl | decide | simp [WShape.has, WShape.arms, WShape.armsAll])
    (show (WTm.eq .res (.lit (.bool true))).value [] { args := args, res := some (.bool true), after := args } = some (.bool (true == true)) from w_eq_bool (w_res rfl) w_lit) rfl
end Att
namespace L2
open PySem PySem.Spec PyProof.Rows
theorem QI : ∀ {vs : List Value} {ns : List Int}, IntsAre vs ns → Vals (ns.map V.int) vs
  | _, _, .nil => .nil
  | _, _, .cons n t h => .cons ⟨t, rfl⟩ (QI h)
def Only (H : Hp) : Prop := ∀ b, H b = none ∨ ∃ o xs, H b = some (.frz o (.lst xs))
theorem UH {P : Program} {w : World} {K : PySem.W.Frag} {mg mb : Str → Option Value} {CX : CXT} {k : Nat} {fa a : Addr} {fd : FuncData} {x : Str} {sp : Sp} {s₁ : Shared} {vs : List Value} {ns : List Int}
    (KX : K.In s₁.heap) (hns : s₁.heap.Ns mainGlobals mg) (hb : s₁.heap.Ns builtinsNs mb) (hbb : ∀ x : Str, x ≠ "__name__" → mb x = bootBuiltins x) (hlim : s₁.heap.NoLimit) (hg : s₁.gens = #[])
    (ha : s₁.heap.get? a = some { cls := .type "list", data := .seq vs.toArray }) (hi : IntsAre vs ns) (hl : ns.length ≤ sizeLine) (hr : Room k callerA)
    (F : ∀ base : Heap, K.In base → base.Ns mainGlobals mg → FnOk P w K mg base CX k fa fd [x] sp) (hbind : ∀ (s : Shared) (u : Value), BindsTo s fd ⟨[u], []⟩ [(x, u)])
    (hsp : ∀ H : Hp, Only H → SqL K H a (ns.map V.int) → sp [.ref a] H (fun v _ => v = .bl true) fun _ _ _ => False)
    (hCX : ∀ H e s', CX [] H s₁ (fun _ _ _ => False) e s' → False) :
    codeAny (model P w) callerA (.call (.ref fa) ⟨[.ref a], []⟩) (fun r s' => r = .ok (.ret (.bool true)) ∧ OldK s₁.heap s'.heap ∧ s'.os = s₁.os ∧ AllBare s'.gens) s₁ := by
  have rv := QI hi
  have lenV := hi.length
  have core : ∀ H : Hp, Only H → SqL K H a (ns.map V.int) → HOk P w H s₁.heap → (∀ b, H b ≠ none → b = a) → (H a ≠ none → K.lookup a = none) →
      codeAny (model P w) callerA (.call (.ref fa) ⟨[.ref a], []⟩) (fun r s' => r = .ok (.ret (.bool true)) ∧ OldK s₁.heap s'.heap ∧ s'.os = s₁.os ∧ AllBare s'.gens) s₁ := by
    intro H hO hS hok hA hK
    have base_of : ∀ {b : Addr} {o : Obj}, s₁.heap.get? b = some o → H b = none → (hidT s₁.heap H).get? b = some o := fun e n => UM e n
    have noA : ∀ {b : Addr} {o : Obj} {es : Array DictEntry} {ep : Nat}, s₁.heap.get? b = some o → o.data = .dict es ep → H b = none := fun {b o es ep} e d => by
      cases q : H b with
      | none => rfl
      | some u =>
        have e' : b = a := hA b (by rw [q]; simp)
        subst e'
        rw [ha] at e; cases e
        have d' : Data.seq vs.toArray _ = Data.dict es ep := d
        cases d'
    have nsK : ∀ {b : Addr} {m : Str → Option Value}, s₁.heap.Ns b m → (hidT s₁.heap H).Ns b m := fun {b m} ⟨o, es, ep, e, d, r⟩ => ⟨o, es, ep, base_of e (noA e d), d, r⟩
    have hKb : K.In (hidT s₁.heap H) := fun b o e => base_of (KX b o e) (by
      cases q : H b with
      | none => rfl
      | some u =>
        have e' : b = a := hA b (by rw [q]; simp)
        subst e'
        rw [hK (by rw [q]; simp)] at e; cases e)
    have hM : Mod K mg (hidT s₁.heap H) := ⟨hKb, nsK hns, ⟨mb, nsK hb, hbb⟩, let ⟨mc, h1, h2⟩ := hlim; ⟨mc, nsK h1, h2⟩⟩
    have e0 : Env0 P w K mg (hidT s₁.heap H) callerA [] s₁ H := ⟨rfl, hM, fun b o e => ug e, Nat.le_of_eq (K4 _ _), trivial, fun b hb => absurd (show b ∈ ([] : List Addr) from hb) (by simp), hok, .of_eq hg⟩
    refine codeAny_mono ((F _ hKb (nsK hns)).run callerA [] s₁ H ⟨[.ref a], []⟩ [.ref a] [.ref a] _ _ hr e0 (hbind s₁ (.ref a)) (.cons rfl .nil) (hsp H hO hS)) fun r s' h => ?_
    cases r with
    | error e => exact (hCX H e s' h).elim
    | ok fl =>
      cases fl with
      | next => exact False.elim h
      | brk => exact False.elim h
      | cont => exact False.elim h
      | ret u =>
        obtain ⟨v, H', os, bare, un, hok', r', q⟩ := h
        have q' : v = .bl true := q
        subst q'
        obtain rfl : u = Value.bool true := r'
        refine ⟨rfl, OldK.of_keep fun b o e => ?_, os, bare⟩
        cases q : H b with
        | none => exact un.keep b o e q (by intro z; exact absurd (show b ∈ ([] : List Addr) from z) (by simp)) (by simp)
        | some u =>
          rcases hO b with z | ⟨ob, xs, z⟩
          · rw [q] at z; cases z
          · have z2 := un.frzs b ob _ z
            obtain ⟨e1, _⟩ := hok b _ z
            obtain ⟨e2, _⟩ := hok' b _ z2
            rw [e] at e1; cases e1
            exact e2
  cases hk : K.lookup a with
  | some o =>
    have e := KX a o hk
    rw [ha] at e
    cases e
    refine core (fun _ => none) (fun _ => .inl rfl) (.inr ⟨_, vs.toArray, _, hk, rfl, rfl, rfl, by rw [List.size_toArray, lenV]; exact hl, by simpa using rv⟩) (fun b u z => by have z' : (none : Option HO) = some u := z; cases z') (fun b z => absurd rfl z) fun z => absurd rfl z
  | none =>
    refine core (fun b => if b = a then some (.frz { cls := .type "list", data := .seq vs.toArray } (.lst (ns.map V.int))) else none) (fun b => ?_) (.inl (.inr ⟨{ cls := .type "list", data := .seq vs.toArray }, if_pos rfl⟩)) (fun b u z => ?_) (fun b z => ?_) fun _ => hk
    · by_cases hb : b = a
      · exact .inr ⟨_, _, if_pos hb⟩
      · exact .inl (if_neg hb)
    · by_cases hb : b = a
      · have z' := (if_pos hb).symm.trans z
        cases z'
        subst hb
        exact ⟨ha, by rw [List.length_map]; exact hl, vs, _, rv, ha⟩
      · have z' := (if_neg hb).symm.trans z
        cases z'
    · by_cases hb : b = a
      · exact hb
      · exact absurd (if_neg hb) z
end L2
/- THE LAST THEOREM (shape; LID, My.* are yours):
   My.Adr: a structure of the addresses that your layer names (classes, functions); My.Txt K t: a structure (Prop) of the equations over K;
   My.txt_mk : {K} {implicit addresses ..} (e1 : nsIn K mainGlobals "law" = some (some (.ref f))) (e2 : K.lookup f = some ⟨oc, od, .func (fnOf "law" "law" params body scope dV kV doc pm an cdv ct), sl⟩) (e3 : codeIn K cdv "law" = true) .. : ∃ t, My.Txt K t
set_option maxRecDepth 100000 in
set_option maxHeartbeats 0 in
theorem PySem.Challenge.cw_LID_holds : PySem.Challenge.rw_LID.Holds := by
  w_on; o_law; k_head; (case hw => w_witness2)
  k_fill
  refine L2.walk_of (l := PySem.Challenge.rw_LID) (n := 63) (k := 40) (x := "script") (CX := fun w => ..) (sp := fun _ => My.sp_law) rfl (by decide) rfl ⟨rfl, by decide, by decide⟩ (fun w h Y => PySem.W.kIn_of Y) ?F ?S ?C
  case F =>
    intro w mg fa h KX G hmg
    have T : ∃ t, My.Txt (L2.KOf KX) t := by
      dsimp only [L2.KOf]                          -- K must stand as «<heap const> w.params» for k_is
      refine' My.txt_mk ?e1 ?e2 ?e3 ..
      (case e1 => PySem.W.k_is)                    -- in the order: a name -> its address -> its object -> its parts
      (case e2 => PySem.W.k_is)
      ..
    obtain ⟨t, T⟩ := T
    have e0 := hmg.symm.trans (PySem.W.mg_of KX G T.law)
    cases e0                                       -- fa is the law's own address
    exact ⟨_, fun s u => .of_eq rfl, fun base kb nb => My.law_fn T kb nb⟩     -- if «.of_eq rfl» comes too early: refine' ⟨_, ?b, fun base kb nb => My.law_fn T kb nb⟩; exact fun s u => .of_eq rfl
  case S => exact fun w H a ns hl hO hS => ..
  case C => exact ..
(the tactic k_is has no namespace: write k_is) -/
namespace L2
open PySem PySem.Spec PyProof.Rows
def K0 (s : Stmt) (j : Nat) : Stmt := match s with
  | .ClassDef _ _ _ body _ _ _ _ _ _ _ => body.getD j (.Pass ⟨0, 0, 0, 0⟩)
  | _ => .Pass ⟨0, 0, 0, 0⟩
def jF (s : Stmt) : Arguments := match s with
  | .FunctionDef _ a _ _ _ _ _ _ _ _ => a
  | _ => { posonlyargs := [], args := [], vararg := none, kwonlyargs := [], kw_defaults := [], kwarg := none, defaults := [] }
def jD (s : Stmt) : List Stmt := match s with
  | .FunctionDef _ _ b _ _ _ _ _ _ _ => b
  | _ => []
def je (s : Stmt) : Scope := match s with
  | .FunctionDef _ _ _ _ _ _ sc _ _ _ => sc
  | _ => { kind := .function, names := [], isGenerator := false, isCoroutine := false }
abbrev CX0 : CXT := fun _ _ _ _ _ _ => False
abbrev E0 : XK := fun _ _ _ => False
theorem Kh {X : Cx} : xW CX0 X E0 := fun _ _ _ _ _ _ _ h => h.elim
structure Fun (K : PySem.W.Frag) (x qual : Str) (st : Stmt) (f : Addr) (fd : FuncData) : Prop where
  ex : ∃ (oc : Value) (od : Option Addr) (kV doc pm : Value) (an : Option Addr) (cdv ct : Value) (osl : Array (Option Value)),
    fd = PySem.W.fnOf x qual (jF st) (jD st) (je st) .none kV doc pm an cdv ct ∧ K.lookup f = some ⟨oc, od, .func fd, osl⟩ ∧ PySem.W.codeIn K cdv qual = true
  kp : PySem.W.keepIn K (.ref f) = true
section
variable {P : Program} {w : World} {K : PySem.W.Frag} {mg : Str → Option Value} {base : Heap}
theorem Fun.ok {x qual : Str} {st : Stmt} {f : Addr} {fd : FuncData} {N ps : List Str} {k : Nat} {sp : Sp} (F : Fun K x qual st f fd) (S : FnScope N ps (je st)) (len : ∀ vs H Q E, sp vs H Q E → vs.length = ps.length)
    (hbody : ∀ (cdv : Value) (A : Around) (outer : List Env) (s : Shared) (H : Hp) (vs : List V) (Q : VK) (E : XK), Room k (A.deeper (envOfC qual (je st) s.heap.objs.size f cdv)) → sp vs H Q E →
      ∃ t, PSs (cxOf CX0 P w K mg base N qual (je st) f cdv A outer s H E).nox (jD st) t ∧ t { nx := fun _ H' => Q .non H', rt := Q } (start N vs) H) : FnOk P w K mg base CX0 (k + 1) f fd ps sp := by
  obtain ⟨oc, od, kV, doc, pm, an, cdv, ct, osl, rfl, lk, hcd⟩ := F.ex
  refine jbY lk hcd S len fun A outer s H vs Q E hr hsp => ?_
  obtain ⟨t, h, q⟩ := hbody cdv A outer s H vs Q E hr hsp
  exact ⟨t, h.nox, q⟩
theorem Fun.binds {x qual : Str} {st : Stmt} {f : Addr} {fd : FuncData} {ps : List Str} (F : Fun K x qual st f fd)
    (h : ∀ (kV doc pm : Value) (an : Option Addr) (cdv ct : Value) (us : List Value), us.length = ps.length → bindArgs (PySem.W.fnOf x qual (jF st) (jD st) (je st) .none kV doc pm an cdv ct) ⟨us, []⟩ = pure (ps.zip us)) : Binds K fd ps [] := by
  obtain ⟨oc, od, kV, doc, pm, an, cdv, ct, osl, rfl, lk, hcd⟩ := F.ex
  exact .all (h kV doc pm an cdv ct)
theorem jY {x qual : Str} {st : Stmt} {f : Addr} {oc : Value} {od an : Option Addr} {osl : Array (Option Value)} {kV doc pm cdv ct : Value} (l : K.lookup f = some ⟨oc, od, .func (PySem.W.fnOf x qual (jF st) (jD st) (je st) .none kV doc pm an cdv ct), osl⟩)
    (c : PySem.W.codeIn K cdv qual = true) (k : PySem.W.keepIn K (.ref f) = true) : Fun K x qual st f (PySem.W.fnOf x qual (jF st) (jD st) (je st) .none kV doc pm an cdv ct) := ⟨⟨oc, od, kV, doc, pm, an, cdv, ct, osl, rfl, l, c⟩, k⟩
end
theorem K2 {A : Around} {k : Nat} (hr : Room k A) : A.units + 1 < cLine := Nat.lt_of_le_of_lt (Nat.add_le_add_left (by decide : 1 ≤ 64) _) hr.units
def Same (H H' : Hp) : Prop := ∀ b o, H b = some o → H' b = some o
theorem Same.refl (H : Hp) : Same H H := fun _ _ h => h
theorem Same.trans {H H1 H2 : Hp} (a : Same H H1) (b : Same H1 H2) : Same H H2 := fun c o h => b c o (a c o h)
theorem Same.free {H H' : Hp} (e : Same H H') {l : Addr} (h : H' l = Option.none) : H l = Option.none := by
  cases q : H l with
  | none => rfl
  | some o =>
    rw [e l o q] at h
    cases h
end L2
set_option maxHeartbeats 4000000
namespace M
open PySem PySem.Spec L2
open PyProof.Rows hiding St
inductive D where
  | non | bl (b : Bool) | int (i : Int) | str (x : Str)
  | tup (ds : List D) | lst (ds : List D) | scr (ds : List D) | dic (ks : List Key) (vs : List D) | dit (ks : List (List Key)) (vs : List D) | exn (c : Str) | fdc (ks : List Key) (vs : List D) | hdc (ks : List Key) (vs : List D) | obj (c : Str) (ns : List Str) (vs : List D)
mutual
def D.imm : D → Bool
  | .non => true
  | .bl _ => true
  | .int _ => true
  | .str _ => true
  | .tup ds => D.imms ds
  | .lst _ => false
  | .scr _ => false
  | .dic _ _ => false
  | .dit _ _ => false
  | .exn _ => true
  | .fdc _ _ => false
  | .hdc _ _ => false
  | .obj _ _ _ => false
def D.imms : List D → Bool
  | [] => true
  | d :: ds => D.imm d && D.imms ds
end
inductive Res (α : Type) where
  | ok (a : α)
  | exc (c : Str)
  | stuck
def Res.bind {α β : Type} (r : Res α) (f : α → Res β) : Res β :=
  match r with
  | .ok a => f a
  | .exc c => .exc c
  | .stuck => .stuck
instance : Monad Res where
  pure := Res.ok
  bind := Res.bind
theorem jc {α β : Type} {r : Res α} {f : α → Res β} {b : β} (h : (r >>= f) = .ok b) : ∃ a, r = .ok a ∧ f a = .ok b := by
  cases r with
  | ok a => exact ⟨a, rfl, h⟩
  | exc c => cases h
  | stuck => cases h
def must {α : Type} (c : Prop) [Decidable c] (r : Res α) : Res α := if c then r else .stuck
theorem jB {α : Type} {c : Prop} [Decidable c] {r : Res α} {a : α} (h : must c r = .ok a) : c ∧ r = .ok a := by
  unfold must at h
  by_cases hc : c
  · rw [if_pos hc] at h; exact ⟨hc, h⟩
  · rw [if_neg hc] at h; cases h
theorem jt {α : Type} {c : Prop} [Decidable c] {r : Res α} (h : c) : must c r = r := if_pos h
def LsK (K : PySem.W.Frag) (H : Hp) (a : Addr) (xs : List V) : Prop :=
  (∃ o, H a = some (.frz o (.lst xs))) ∨
    ∃ (o : Obj) (its : Array Value) (n : Nat), K.lookup a = some o ∧ o.cls = .type "list" ∧ o.dict = none ∧ o.data = .seq its n ∧ its.size ≤ sizeLine ∧ Vals xs its.toList
theorem LsK.sql {K : PySem.W.Frag} {H : Hp} {a : Addr} {xs : List V} (h : LsK K H a xs) : SqL K H a xs := by
  rcases h with h | h
  · exact .inl (.inr h)
  · exact .inr h
mutual
inductive Rep (K : PySem.W.Frag) : (Addr → Prop) → Hp → V → D → Prop where
  | non {A H} : Rep K A H .non .non
  | bl {A H} (b : Bool) : Rep K A H (.bl b) (.bl b)
  | int {A H} (i : Int) : Rep K A H (.int i) (.int i)
  | str {A H} (x : Str) : x.length ≤ sizeLine → Rep K A H (.str x) (.str x)
  | tup {A H} {a : Addr} {xs : List V} {ds : List D} : H a = some (.tup xs) → Reps K A H xs ds → Rep K A H (.ref a) (.tup ds)
  | lst {A H} {a : Addr} {xs : List V} {ds : List D} : H a = some (.lst xs) → A a → Reps K (fun c => A c ∧ c ≠ a) H xs ds → Rep K A H (.ref a) (.lst ds)
  | lsk {A H} {a : Addr} {xs : List V} {ds : List D} : LsK K H a xs → Reps K A H xs ds → Rep K A H (.ref a) (.scr ds)
  | dic {A H} {a : Addr} {kvs : List (Key × V)} {vs : List V} {ks : List Key} {ds : List D} : H a = some (.dK kvs) → A a → kvs.map (·.1) = ks → kvs.map (·.2) = vs → Reps K (fun c => A c ∧ c ≠ a) H vs ds → Rep K A H (.ref a) (.dic ks ds)
  | dit {A H} {a : Addr} {kvs : List ((List Key) × V)} {vs : List V} {ks : List (List Key)} {ds : List D} : H a = some (.dT kvs) → A a → kvs.map (·.1) = ks → kvs.map (·.2) = vs → Reps K (fun c => A c ∧ c ≠ a) H vs ds → Rep K A H (.ref a) (.dit ks ds)
  | exn {A H} {a b C : Addr} {o : Obj} {c : Str} : H a = some (.frz o (.own b)) → o.cls = .ref C → PySem.W.nsIn K mainGlobals c = some (some (.ref C)) → Rep K A H (.ref a) (.exn c)
  | fdc {A H} {a : Addr} {kvs : List (Key × V)} {vs : List V} {ks : List Key} {ds : List D} : ((H a = some (.dK kvs) ∧ A a) ∨ ∃ o, H a = some (.frz o (.dK kvs))) → kvs.map (·.1) = ks → kvs.map (·.2) = vs → Reps K (fun c => A c ∧ c ≠ a) H vs ds → Rep K A H (.ref a) (.fdc ks ds)
  | hdc {A H} {a : Addr} {kvs : List (Key × V)} {vs : List V} {ks : List Key} {ds : List D} : (∃ o, H a = some (.frz o (.dK kvs))) → kvs.map (·.1) = ks → kvs.map (·.2) = vs → Reps K (fun c => A c ∧ c ≠ a) H vs ds → Rep K A H (.ref a) (.hdc ks ds)
  | obj {A H} {a C dx : Addr} {fs : List (Str × V)} {vs : List V} {c : Str} {ns : List Str} {ds : List D} : H a = some (.ins C dx fs) → A a → (PySem.W.nsIn K mainGlobals c = some (some (.ref C)) ∧ fs.map (·.1) = ns) → fs.map (·.2) = vs → Reps K (fun c => A c ∧ c ≠ a) H vs ds → Rep K A H (.ref a) (.obj c ns ds)
inductive Reps (K : PySem.W.Frag) : (Addr → Prop) → Hp → List V → List D → Prop where
  | nil {A H} : Reps K A H [] []
  | cons {A H} {v : V} {d : D} {vs : List V} {ds : List D} : Rep K A H v d → Reps K A H vs ds → Reps K A H (v :: vs) (d :: ds)
end
def Stay (A : Addr → Prop) (H H' : Hp) : Prop := ∀ a o, H a = some o → (Mut (some o) → A a) → H' a = some o
theorem Stay.mono {A B : Addr → Prop} {H H' : Hp} (h : Stay A H H') (w : ∀ a, B a → A a) : Stay B H H' := fun a o e m => h a o e fun z => w a (m z)
section
variable {K : PySem.W.Frag}
theorem LsK.stay {A : Addr → Prop} {H H' : Hp} {a : Addr} {xs : List V} (h : LsK K H a xs) (st : Stay A H H') : LsK K H' a xs := by
  rcases h with ⟨o, e⟩ | h
  · exact .inl ⟨o, st a _ e (fun z => z.elim)⟩
  · exact .inr h
mutual
theorem Rep.stay : ∀ {A A' : Addr → Prop} {H H' : Hp} {v : V} {d : D}, Rep K A H v d → Stay A H H' → (∀ a, A a → A' a) → Rep K A' H' v d
  | _, _, _, _, _, _, .non, _, _ => .non
  | _, _, _, _, _, _, .bl b, _, _ => .bl b
  | _, _, _, _, _, _, .int i, _, _ => .int i
  | _, _, _, _, _, _, .str x h, _, _ => .str x h
  | _, _, _, _, _, _, .tup e r, st, w => .tup (st _ _ e (fun z => z.elim)) (Reps.stay r st w)
  | _, _, _, _, _, _, .lst e a r, st, w => .lst (st _ _ e (fun _ => a)) (w _ a) (Reps.stay r (st.mono fun _ z => z.1) fun _ z => ⟨w _ z.1, z.2⟩)
  | _, _, _, _, _, _, .lsk e r, st, w => .lsk (e.stay st) (Reps.stay r st w)
  | _, _, _, _, _, _, .dic e a k1 k2 r, st, w => .dic (st _ _ e (fun _ => a)) (w _ a) k1 k2 (Reps.stay r (st.mono fun _ z => z.1) fun _ z => ⟨w _ z.1, z.2⟩)
  | _, _, _, _, _, _, .dit e a k1 k2 r, st, w => .dit (st _ _ e (fun _ => a)) (w _ a) k1 k2 (Reps.stay r (st.mono fun _ z => z.1) fun _ z => ⟨w _ z.1, z.2⟩)
  | _, _, _, _, _, _, .obj e a k1 k2 r, st, w => .obj (st _ _ e (fun _ => a)) (w _ a) k1 k2 (Reps.stay r (st.mono fun _ z => z.1) fun _ z => ⟨w _ z.1, z.2⟩)
  | _, _, _, _, _, _, .exn e h1 h2, st, w => .exn (st _ _ e (fun z => z.elim)) h1 h2
  | _, _, _, _, _, _, .fdc e k1 k2 r, st, w => .fdc (e.elim (fun z => .inl ⟨st _ _ z.1 (fun _ => z.2), w _ z.2⟩) (fun ⟨o, z⟩ => .inr ⟨o, st _ _ z (fun z => z.elim)⟩)) k1 k2 (Reps.stay r (st.mono fun _ z => z.1) fun _ z => ⟨w _ z.1, z.2⟩)
  | _, _, _, _, _, _, .hdc e k1 k2 r, st, w => .hdc (let ⟨o, z⟩ := e; ⟨o, st _ _ z (fun z => z.elim)⟩) k1 k2 (Reps.stay r (st.mono fun _ z => z.1) fun _ z => ⟨w _ z.1, z.2⟩)
theorem Reps.stay : ∀ {A A' : Addr → Prop} {H H' : Hp} {vs : List V} {ds : List D}, Reps K A H vs ds → Stay A H H' → (∀ a, A a → A' a) → Reps K A' H' vs ds
  | _, _, _, _, _, _, .nil, _, _ => .nil
  | _, _, _, _, _, _, .cons h t, st, w => .cons (Rep.stay h st w) (Reps.stay t st w)
end
theorem Same.stay {A : Addr → Prop} {H H' : Hp} (h : Same H H') : Stay A H H' := fun a o e _ => h a o e
variable {A A' : Addr → Prop} {H H' : Hp}
theorem Rep.grow {v : V} {d : D} (r : Rep K A H v d) (h : Same H H') : Rep K A H' v d := r.stay (Same.stay h) fun _ z => z
theorem Reps.grow {v : List V} {d : List D} (r : Reps K A H v d) (h : Same H H') : Reps K A H' v d := r.stay (Same.stay h) fun _ z => z
theorem Rep.weak {v : V} {d : D} (r : Rep K A H v d) (w : ∀ a, A a → A' a) : Rep K A' H v d := r.stay (fun _ _ e _ => e) w
theorem Reps.weak {v : List V} {d : List D} (r : Reps K A H v d) (w : ∀ a, A a → A' a) : Reps K A' H v d := r.stay (fun _ _ e _ => e) w
mutual
theorem Rep.imm : ∀ {A A' : Addr → Prop} {H : Hp} {v : V} {d : D}, Rep K A H v d → d.imm = true → Rep K A' H v d
  | _, _, _, _, _, .non, _ => .non
  | _, _, _, _, _, .bl b, _ => .bl b
  | _, _, _, _, _, .int i, _ => .int i
  | _, _, _, _, _, .str x h, _ => .str x h
  | _, _, _, _, _, .tup e r, i => .tup e (Reps.imm r (by simpa only [D.imm] using i))
  | _, _, _, _, _, .lst _ _ _, i => by simp [D.imm] at i
  | _, _, _, _, _, .lsk _ _, i => by simp [D.imm] at i
  | _, _, _, _, _, .dic _ _ _ _ _, i => by simp [D.imm] at i
  | _, _, _, _, _, .dit _ _ _ _ _, i => by simp [D.imm] at i
  | _, _, _, _, _, .obj _ _ _ _ _, i => by simp [D.imm] at i
  | _, _, _, _, _, .exn e h1 h2, _ => .exn e h1 h2
  | _, _, _, _, _, .fdc _ _ _ _, i => by simp [D.imm] at i
  | _, _, _, _, _, .hdc _ _ _ _, i => by simp [D.imm] at i
theorem Reps.imm : ∀ {A A' : Addr → Prop} {H : Hp} {vs : List V} {ds : List D}, Reps K A H vs ds → D.imms ds = true → Reps K A' H vs ds
  | _, _, _, _, _, .nil, _ => .nil
  | _, _, _, _, _, .cons h t, i => by
    simp only [D.imms, Bool.and_eq_true] at i
    exact .cons (Rep.imm h i.1) (Reps.imm t i.2)
end
theorem Reps.length : ∀ {A : Addr → Prop} {H : Hp} {vs : List V} {ds : List D}, Reps K A H vs ds → vs.length = ds.length
  | _, _, _, _, .nil => rfl
  | _, _, _, _, .cons _ t => by simp [Reps.length t]
theorem Reps.get : ∀ {A : Addr → Prop} {H : Hp} {vs : List V} {ds : List D} {i : Nat} {d : D}, Reps K A H vs ds → ds[i]? = some d → ∃ v, vs[i]? = some v ∧ Rep K A H v d
  | _, _, _, _, _, _, .nil, e => by simp at e
  | _, _, _, _, 0, _, .cons r _, e => by simp at e; subst e; exact ⟨_, rfl, r⟩
  | _, _, _, _, i + 1, d, .cons _ t, e => by
    obtain ⟨v, h1, h2⟩ := Reps.get (i := i) (d := d) t (by simpa using e)
    exact ⟨v, by simpa using h1, h2⟩
theorem Reps.get' : ∀ {A : Addr → Prop} {H : Hp} {vs : List V} {ds : List D} {i : Nat} {v : V}, Reps K A H vs ds → vs[i]? = some v → ∃ d, ds[i]? = some d ∧ Rep K A H v d
  | _, _, _, _, _, _, .nil, e => by simp at e
  | _, _, _, _, 0, _, .cons r _, e => by simp at e; subst e; exact ⟨_, rfl, r⟩
  | _, _, _, _, i + 1, d, .cons _ t, e => by
    obtain ⟨v, h1, h2⟩ := Reps.get' (i := i) t (by simpa using e)
    exact ⟨v, by simpa using h1, h2⟩
theorem Reps.append : ∀ {A : Addr → Prop} {H : Hp} {vs ws : List V} {ds es : List D}, Reps K A H vs ds → Reps K A H ws es → Reps K A H (vs ++ ws) (ds ++ es)
  | _, _, _, _, _, _, .nil, s => s
  | _, _, _, _, _, _, .cons r t, s => .cons r (Reps.append t s)
theorem Reps.take : ∀ {A : Addr → Prop} {H : Hp} {vs : List V} {ds : List D} (n : Nat), Reps K A H vs ds → Reps K A H (vs.take n) (ds.take n)
  | _, _, _, _, 0, _ => .nil
  | _, _, _, _, _ + 1, .nil => .nil
  | _, _, _, _, n + 1, .cons r t => .cons r (Reps.take n t)
theorem Reps.drop : ∀ {A : Addr → Prop} {H : Hp} {vs : List V} {ds : List D} (n : Nat), Reps K A H vs ds → Reps K A H (vs.drop n) (ds.drop n)
  | _, _, _, _, 0, r => r
  | _, _, _, _, _ + 1, .nil => .nil
  | _, _, _, _, n + 1, .cons _ t => Reps.drop n t
theorem Reps.isEmpty {xs : List V} {ds : List D} (r : Reps K A H xs ds) : ds.isEmpty = xs.isEmpty := by cases r <;> rfl
theorem Rep.lstE {v : V} {ds : List D} (r : Rep K A H v (.lst ds)) : ∃ a xs, v = .ref a ∧ H a = some (.lst xs) ∧ A a ∧ Reps K (fun c => A c ∧ c ≠ a) H xs ds := by
  cases r with
  | lst e h r => exact ⟨_, _, rfl, e, h, r⟩
theorem Rep.scrE {v : V} {ds : List D} (r : Rep K A H v (.scr ds)) : ∃ a xs, v = .ref a ∧ LsK K H a xs ∧ Reps K A H xs ds := by
  cases r with
  | lsk e r => exact ⟨_, _, rfl, e, r⟩
theorem Rep.tupE {v : V} {ds : List D} (r : Rep K A H v (.tup ds)) : ∃ a xs, v = .ref a ∧ H a = some (.tup xs) ∧ Reps K A H xs ds := by
  cases r with
  | tup e r => exact ⟨_, _, rfl, e, r⟩
theorem Rep.intE {v : V} {i : Int} (r : Rep K A H v (.int i)) : v = .int i := by cases r; rfl
theorem Rep.blE {v : V} {b : Bool} (r : Rep K A H v (.bl b)) : v = .bl b := by cases r; rfl
theorem Rep.strE {v : V} {x : Str} (r : Rep K A H v (.str x)) : v = .str x ∧ x.length ≤ sizeLine := by cases r; exact ⟨rfl, by assumption⟩
theorem Rep.nonE {v : V} (r : Rep K A H v .non) : v = .non := by cases r; rfl
theorem Reps.low {a : Addr} {vs : List V} {ds : List D} (r : Reps K (fun c => A c ∧ c ≠ a) H vs ds) : Reps K A H vs ds := r.weak fun _ z => z.1
mutual
theorem Rep.inDom : ∀ {A : Addr → Prop} {H : Hp} {v : V} {d : D}, Rep K A H v d → Rep K (fun c => A c ∧ H c ≠ none) H v d
  | _, _, _, _, .non => .non
  | _, _, _, _, .bl b => .bl b
  | _, _, _, _, .int i => .int i
  | _, _, _, _, .str x h => .str x h
  | _, _, _, _, .tup e r => .tup e (Reps.inDom r)
  | _, _, _, _, .lst e a r => .lst e ⟨a, by rw [e]; simp⟩ ((Reps.inDom r).weak fun _ z => ⟨⟨z.1.1, z.2⟩, z.1.2⟩)
  | _, _, _, _, .lsk e r => .lsk e (Reps.inDom r)
  | _, _, _, _, .dic e a k1 k2 r => .dic e ⟨a, by rw [e]; simp⟩ k1 k2 ((Reps.inDom r).weak fun _ z => ⟨⟨z.1.1, z.2⟩, z.1.2⟩)
  | _, _, _, _, .dit e a k1 k2 r => .dit e ⟨a, by rw [e]; simp⟩ k1 k2 ((Reps.inDom r).weak fun _ z => ⟨⟨z.1.1, z.2⟩, z.1.2⟩)
  | _, _, _, _, .obj e a k1 k2 r => .obj e ⟨a, by rw [e]; simp⟩ k1 k2 ((Reps.inDom r).weak fun _ z => ⟨⟨z.1.1, z.2⟩, z.1.2⟩)
  | _, _, _, _, .exn e h1 h2 => .exn e h1 h2
  | _, _, _, _, .fdc e k1 k2 r => .fdc (e.elim (fun z => .inl ⟨z.1, z.2, by rw [z.1]; simp⟩) .inr) k1 k2 ((Reps.inDom r).weak fun _ z => ⟨⟨z.1.1, z.2⟩, z.1.2⟩)
  | _, _, _, _, .hdc e k1 k2 r => .hdc e k1 k2 ((Reps.inDom r).weak fun _ z => ⟨⟨z.1.1, z.2⟩, z.1.2⟩)
theorem Reps.inDom : ∀ {A : Addr → Prop} {H : Hp} {vs : List V} {ds : List D}, Reps K A H vs ds → Reps K (fun c => A c ∧ H c ≠ none) H vs ds
  | _, _, _, _, .nil => .nil
  | _, _, _, _, .cons h t => .cons (Rep.inDom h) (Reps.inDom t)
end
theorem Same.upd {H : Hp} {p : Addr} {o : HO} (h : H p = none) : Same H (L2.upd H p o) := fun b u e => by rw [jJ (qf e h)]; exact e
theorem Reps.laid {p : Addr} {o : HO} {vs : List V} {ds : List D} (r : Reps K A H vs ds) (hp : H p = none) : Reps K (fun c => A c ∧ c ≠ p) (L2.upd H p o) vs ds :=
  (r.inDom.grow (Same.upd hp)).weak fun c z => ⟨z.1, fun e => z.2 (by rw [e]; exact hp)⟩
end
inductive Slot where
  | un
  | own (d : D)
  | shr (d : D)
abbrev Sl := List Slot
def zM (env : Sl) (σ : St) (a : Addr) : Prop := ∃ (i : Nat) (d : D), env[i]? = some (.own d) ∧ σ[i]? = some (some (.ref a))
abbrev NotO (env : Sl) (σ : St) : Addr → Prop := fun a => ¬ zM env σ a
abbrev Sf (G : Addr → Prop) (env : Sl) (σ : St) : Addr → Prop := fun a => ¬ zM env σ a ∧ G a
inductive Top (K : PySem.W.Frag) (A : Addr → Prop) (H : Hp) (a : Addr) : D → Prop where
  | lst {xs : List V} {ds : List D} : H a = some (.lst xs) → Reps K A H xs ds → Top K A H a (.lst ds)
  | dic {kvs : List (Key × V)} {vs : List V} {ks : List Key} {ds : List D} : H a = some (.dK kvs) → kvs.map (·.1) = ks → kvs.map (·.2) = vs → Reps K A H vs ds → Top K A H a (.dic ks ds)
  | dit {kvs : List ((List Key) × V)} {vs : List V} {ks : List (List Key)} {ds : List D} : H a = some (.dT kvs) → kvs.map (·.1) = ks → kvs.map (·.2) = vs → Reps K A H vs ds → Top K A H a (.dit ks ds)
  | obj {C dx : Addr} {fs : List (Str × V)} {vs : List V} {c : Str} {ns : List Str} {ds : List D} : H a = some (.ins C dx fs) → (PySem.W.nsIn K mainGlobals c = some (some (.ref C)) ∧ fs.map (·.1) = ns) → fs.map (·.2) = vs → Reps K A H vs ds → Top K A H a (.obj c ns ds)
theorem Top.rep {K : PySem.W.Frag} {A A' : Addr → Prop} {H : Hp} {a : Addr} {d : D} (t : Top K A H a d) (w : ∀ b, A b → A' b ∧ b ≠ a) (ha : A' a) : Rep K A' H (.ref a) d := by
  cases t with
  | lst e r => exact .lst e ha (r.weak w)
  | dic e k1 k2 r => exact .dic e ha k1 k2 (r.weak w)
  | dit e k1 k2 r => exact .dit e ha k1 k2 (r.weak w)
  | obj e k1 k2 r => exact .obj e ha k1 k2 (r.weak w)
theorem Top.stay {K : PySem.W.Frag} {A A' : Addr → Prop} {H H' : Hp} {a : Addr} {d : D} (t : Top K A H a d) (st : Stay A H H') (w : ∀ b, A b → A' b) (ha : ∀ o, H a = some o → H' a = some o) : Top K A' H' a d := by
  cases t with
  | lst e r => exact .lst (ha _ e) (r.stay st w)
  | dic e k1 k2 r => exact .dic (ha _ e) k1 k2 (r.stay st w)
  | dit e k1 k2 r => exact .dit (ha _ e) k1 k2 (r.stay st w)
  | obj e k1 k2 r => exact .obj (ha _ e) k1 k2 (r.stay st w)
theorem Top.there {K : PySem.W.Frag} {A : Addr → Prop} {H : Hp} {a : Addr} {d : D} (t : Top K A H a d) : ∃ o, H a = some o ∧ Mut (some o) := by
  cases t with
  | lst e r => exact ⟨_, e, trivial⟩
  | dic e _ _ r => exact ⟨_, e, trivial⟩
  | dit e _ _ r => exact ⟨_, e, trivial⟩
  | obj e _ _ r => exact ⟨_, e, trivial⟩
structure EnvOk (K : PySem.W.Frag) (G : Addr → Prop) (H0 : Hp) (env : Sl) (σ : St) (H : Hp) : Prop where
  len : σ.length = env.length
  base : Same H0 H
  g0 : ∀ a, H0 a = none → G a
  shr : ∀ (i : Nat) (d : D), env[i]? = some (.shr d) → ∃ v, σ[i]? = some (some v) ∧ Rep K (Sf G env σ) H v d
  own : ∀ (i : Nat) (d : D), env[i]? = some (.own d) → ∃ a, σ[i]? = some (some (.ref a)) ∧ H0 a = none ∧ Top K (Sf G env σ) H a d
  dis : ∀ (i j : Nat) (d e : D) (a : Addr), env[i]? = some (.own d) → env[j]? = some (.own e) → σ[i]? = some (some (.ref a)) → σ[j]? = some (some (.ref a)) → i = j
section
variable {K : PySem.W.Frag} {G : Addr → Prop} {H0 H H' : Hp} {env : Sl} {σ : St}
theorem EnvOk.grow (e : EnvOk K G H0 env σ H) (h : Same H H') : EnvOk K G H0 env σ H' where
  len := e.len
  base := e.base.trans h
  g0 := e.g0
  shr := fun i d z => let ⟨v, h1, h2⟩ := e.shr i d z; ⟨v, h1, h2.grow h⟩
  own := fun i d z => let ⟨a, h1, h2, h3⟩ := e.own i d z; ⟨a, h1, h2, h3.stay (Same.stay h) (fun _ z => z) (fun o q => h _ o q)⟩
  dis := e.dis
theorem EnvOk.there (e : EnvOk K G H0 env σ H) {a : Addr} (o : zM env σ a) : ∃ u, H a = some u := by
  obtain ⟨i, d, h1, h2⟩ := o
  obtain ⟨b, h3, _, h4⟩ := e.own i d h1
  rw [h2] at h3; cases h3
  obtain ⟨u, h5, _⟩ := h4.there
  exact ⟨u, h5⟩
theorem EnvOk.mutO (k : EnvOk K G H0 env σ H) {a : Addr} (o : zM env σ a) {u : HO} (e : H a = some u) : Mut (some u) := by
  obtain ⟨i, d, h1, h2⟩ := o
  obtain ⟨b, h3, _, h4⟩ := k.own i d h1
  rw [h2] at h3; cases h3
  obtain ⟨u', h5, m⟩ := h4.there
  rw [e] at h5; cases h5; exact m
theorem EnvOk.new (k : EnvOk K G H0 env σ H) : ∀ a, H a = none → Sf G env σ a := fun a z => ⟨fun o => (by
  obtain ⟨u, q⟩ := k.there o
  rw [z] at q; cases q), k.g0 a (Same.free k.base z)⟩
end
inductive Lv where
  | b | s | t
abbrev Any : Addr → Prop := fun _ => True
def Lv.A (l : Lv) (G : Addr → Prop) (env : Sl) (σ : St) : Addr → Prop :=
  match l with
  | .b => Any
  | .s => Sf G env σ
  | .t => Sf G env σ
def NewTop (H : Hp) (v : V) : Prop := ∀ a, v = .ref a → ∀ o, H a = some o → ¬ Mut (some o)
def Lv.T (l : Lv) (H : Hp) (v : V) : Prop :=
  match l with
  | .t => NewTop H v
  | _ => True
theorem NewTop.grow {H H' : Hp} {v : V} (h : Same H H') (n : NewTop H' v) : NewTop H v := fun a e o q => n a e o (h a o q)
theorem Lv.Tgrow {l : Lv} {H H' : Hp} {v : V} (h : Same H H') (n : l.T H' v) : l.T H v := by
  cases l with
  | t => exact NewTop.grow h n
  | b => trivial
  | s => trivial
def tE (K : PySem.W.Frag) (l : Lv) (f : Sl → Res D) : TE := fun σ H Q => ∃ G H0 env d, EnvOk K G H0 env σ H ∧ f env = .ok d ∧ ∀ v H', Same H H' → Rep K (l.A G env σ) H' v d → l.T H v → Q v H'
def tT (K : PySem.W.Frag) (f : Sl → Res Bool) : TT := fun σ H Q => ∃ G H0 env b, EnvOk K G H0 env σ H ∧ f env = .ok b ∧ ∀ H', Same H H' → Q b H'
def tA (K : PySem.W.Frag) (l : Lv) (f : Sl → Res (List D)) : TA := fun σ H Q => ∃ G H0 env ds, EnvOk K G H0 env σ H ∧ f env = .ok ds ∧ ∀ vs H', Same H H' → Reps K (l.A G env σ) H' vs ds → Q vs H'
@[irreducible] def DE (X : Cx) (l : Lv) (e : Expr) (f : Sl → Res D) : Prop := PE X e (tE X.K l f)
@[irreducible] def DT (X : Cx) (e : Expr) (f : Sl → Res Bool) : Prop := PT X e (tT X.K f)
@[irreducible] def DA (X : Cx) (l : Lv) (es : List Expr) (f : Sl → Res (List D)) : Prop := PA X es (tA X.K l f)
inductive Out where
  | nx (env : Sl) | rt (fr : Bool) (d : D) | bk (env : Sl) | ct (env : Sl)
structure Frm (env : Sl) (σ : St) (H : Hp) (env' : Sl) (σ' : St) (H' : Hp) : Prop where
  keep : ∀ b o, H b = some o → ¬ zM env σ b → H' b = some o
  more : ∀ b, zM env' σ' b → zM env σ b ∨ H b = none
  size : ∀ b, H' b = none → H b = none
def Post (K : PySem.W.Frag) (G : Addr → Prop) (H0 : Hp) (env : Sl) (σ : St) (H : Hp) (E : Ends) (o : Out) : Prop :=
  match o with
  | .nx env' => ∀ σ' H', EnvOk K G H0 env' σ' H' → Frm env σ H env' σ' H' → E.nx σ' H'
  | .bk env' => ∀ σ' H', EnvOk K G H0 env' σ' H' → Frm env σ H env' σ' H' → E.bk σ' H'
  | .ct env' => ∀ σ' H', EnvOk K G H0 env' σ' H' → Frm env σ H env' σ' H' → E.ct σ' H'
  | .rt fr d => ∀ v H', Same H0 H' → Rep K G H' v d → (fr = true → NewTop H0 v) → E.rt v H'
def tS (K : PySem.W.Frag) (g : Sl → Res Out) : TS := fun E σ H => ∃ G H0 env o, EnvOk K G H0 env σ H ∧ g env = .ok o ∧ Post K G H0 env σ H E o
@[irreducible] def DS (X : Cx) (st : Stmt) (g : Sl → Res Out) : Prop := PS X st (tS X.K g)
@[irreducible] def DSs (X : Cx) (st : List Stmt) (g : Sl → Res Out) : Prop := PSs X st (tS X.K g)
section
variable {X : Cx} {e : Expr} {es : List Expr} {st : Stmt} {sts : List Stmt}
theorem PE.imp {t t' : TE} (h : PE X e t) (w : ∀ σ H Q, t' σ H Q → t σ H Q) : PE X e t' := fun pins s σ H Q I q => h pins s σ H Q I (w σ H Q q)
theorem PT.imp {t t' : TT} (h : PT X e t) (w : ∀ σ H Q, t' σ H Q → t σ H Q) : PT X e t' := fun pins s σ H Q I q => h pins s σ H Q I (w σ H Q q)
theorem PA.imp {t t' : TA} (h : PA X es t) (w : ∀ σ H Q, t' σ H Q → t σ H Q) : PA X es t' := fun pos pins s σ H Q I q => h pos pins s σ H Q I (w σ H Q q)
theorem PS.imp {t t' : TS} (h : PS X st t) (w : ∀ E σ H, t' E σ H → t E σ H) : PS X st t' := fun pins s σ H E I q => h pins s σ H E I (w E σ H q)
theorem PSs.imp {t t' : TS} (h : PSs X sts t) (w : ∀ E σ H, t' E σ H → t E σ H) : PSs X sts t' := fun pins s σ H E I q => h pins s σ H E I (w E σ H q)
end
theorem Frm.refl {env : Sl} {σ : St} {H H' : Hp} (h : Same H H') : Frm env σ H env σ H' := ⟨fun b o e _ => h b o e, fun b o => .inl o, fun b e => Same.free h e⟩
theorem Frm.trans {env env1 env2 : Sl} {σ σ1 σ2 : St} {H H1 H2 : Hp} (a : Frm env σ H env1 σ1 H1) (b : Frm env1 σ1 H1 env2 σ2 H2) : Frm env σ H env2 σ2 H2 where
  keep := fun c o e n => b.keep c o (a.keep c o e n) fun z => by
    rcases a.more c z with z | z
    · exact n z
    · rw [e] at z; cases z
  more := fun c o => by
    rcases b.more c o with z | z
    · exact a.more c z
    · exact .inr (a.size c z)
  size := fun c e => a.size c (b.size c e)
theorem Frm.grow {env env1 : Sl} {σ σ1 : St} {H Hm H1 : Hp} (h : Same H Hm) (b : Frm env σ Hm env1 σ1 H1) : Frm env σ H env1 σ1 H1 := (Frm.refl h).trans b
section
variable {X : Cx} {e : Expr} {f : Sl → Res D}
theorem Lv.weak_b {l : Lv} {G : Addr → Prop} {env : Sl} {σ : St} : ∀ a, l.A G env σ a → Any a := fun _ _ => trivial
theorem DE.b {l : Lv} (h : DE X l e f) : DE X .b e f := by
 with_unfolding_all exact (PE.imp h fun σ H Q ⟨G, H0, env, d, k, ef, q⟩ => ⟨G, H0, env, d, k, ef, fun v H' s r _ => q v H' s (r.weak Lv.weak_b) trivial⟩)
theorem DE.s (h : DE X .t e f) : DE X .s e f := by
 with_unfolding_all exact (PE.imp h fun σ H Q ⟨G, H0, env, d, k, ef, q⟩ => ⟨G, H0, env, d, k, ef, fun v H' s r _ => q v H' s r trivial⟩)
theorem uw {K : PySem.W.Frag} {A : Addr → Prop} {H H' : Hp} {v : V} {d : D} (s : Same H H') (r : Rep K A H' v d) (i : d.imm = true) : NewTop H v := fun a e o q m => by
  subst e
  cases r with
  | tup e _ => rw [s _ _ q] at e; cases e; exact m
  | lst _ _ _ => simp [D.imm] at i
  | lsk _ _ => simp [D.imm] at i
  | dic _ _ _ _ _ => simp [D.imm] at i
  | dit _ _ _ _ _ => simp [D.imm] at i
  | obj _ _ _ _ _ => simp [D.imm] at i
  | fdc _ _ _ _ => simp [D.imm] at i
  | hdc _ _ _ _ => simp [D.imm] at i
  | exn e _ _ => rw [s _ _ q] at e; cases e; exact m
end
end M
namespace M
open PySem PySem.Spec L2
open PyProof.Rows hiding St
def Qg : Expr → Bool
  | .Starred _ _ => false
  | _ => true
theorem jx {e : Expr} {es : List Expr} {env : Env} (h : Qg e = true) : starEach (e :: es) env = (false, eval e env) :: starEach es env := by
  cases e <;> first | rfl | cases h
theorem WG {es : List Expr} {env : Env} (h : es.all Qg = true) : (starEach es env).all (fun x => !x.1) = true := by
  induction es with
  | nil => rfl
  | cons e r ih =>
    rw [List.all_cons, Bool.and_eq_true] at h
    rw [jx h.1, List.all_cons, ih h.2]; rfl
theorem XG {pos : Pos} {l : List (Bool × Sem Value)} (h : l.all (fun x => !x.1) = true) : (backTo pos l).all (fun x => !x.1) = true := by
  induction l with
  | nil => rfl
  | cons p r ih =>
    obtain ⟨s, t⟩ := p
    rw [List.all_cons, Bool.and_eq_true] at h
    show ((!s) && (backTo pos r).all (fun x => !x.1)) = true
    rw [ih h.2, Bool.and_true]; exact h.1
theorem jR {pos : Pos} {es : List Expr} {env : Env} (h : es.all Qg = true) : (backTo pos (starEach es env)).any (·.1) = false := by
  have := XG (pos := pos) (WG (env := env) h)
  rw [List.all_eq_true] at this
  rw [List.any_eq_false]
  intro x hx z
  have q := this x hx
  rw [z] at q; cases q
theorem Je {cpos : Pos} {e : Expr} {es : List Expr} {env : Env} (h : (e :: es).all Qg = true) (hl : decide ((e :: es).length < 30) = true) :
    ((backTo cpos (starEach (e :: es) env)).all (fun x => !x.1) && (backToKw cpos (keywordEach [] env)).all (fun x => x.1.isSome)
      && decide ((e :: es).length + ([] : List Keyword).length + (if ([] : List Keyword).isEmpty then 0 else 1) < 30)) = true := by
  have hk : (backToKw cpos (keywordEach [] env)).all (fun x => x.1.isSome) = true := rfl
  rw [XG (WG h), hk]
  simpa using hl
section
variable {X : Cx} {e a b c o : Expr} {es : List Expr} {pos : Pos} {l l1 l2 l' : Lv} {f f1 f2 f3 : Sl → Res D}
def cI (i : Int) : Sl → Res D := fun _ => .ok (.int i)
def cB (b : Bool) : Sl → Res D := fun _ => .ok (.bl b)
def cN : Sl → Res D := fun _ => .ok .non
def cS (x : Str) : Sl → Res D := fun _ => .ok (.str x)
def rdS (i : Nat) : Sl → Res D := fun env => match env[i]? with
  | some (.shr d) => .ok d
  | _ => .stuck
def rdB (i : Nat) : Sl → Res D := fun env => match env[i]? with
  | some (.shr d) => .ok d
  | some (.own d) => .ok d
  | _ => .stuck
theorem Y4 {i : Nat} {env : Sl} {d : D} (h : rdS i env = .ok d) : env[i]? = some (.shr d) := by
  unfold rdS at h
  split at h
  · cases h; assumption
  · cases h
theorem Z0 {i : Nat} {env : Sl} {d : D} (h : rdB i env = .ok d) : env[i]? = some (.shr d) ∨ env[i]? = some (.own d) := by
  unfold rdB at h
  split at h
  · cases h; left; assumption
  · cases h; right; assumption
  · cases h
theorem Q2 {K : PySem.W.Frag} {G : Addr → Prop} {H0 H : Hp} {env : Sl} {σ : L2.St} {i : Nat} {d : D} {a : Addr} (k : EnvOk K G H0 env σ H) (h1 : env[i]? = some (.own d)) (h2 : σ[i]? = some (some (.ref a))) : ∀ c, Sf G env σ c → c ≠ a := fun c z e => z.1 (by rw [e]; exact ⟨i, d, h1, h2⟩)
theorem dv (i : Nat) {x : Str} (hN : X.N[i]? = some x := by rfl) (hv : Vis X.env.scope x := by first | exact Or.inl rfl | exact Or.inr (Or.inl rfl) | exact Or.inr (Or.inr rfl)) (hd : (x == ("__debug__" : Str)) = false := by decide)
    (hcd : (x == ("__classdict__" : Str)) = false := by decide) : DE X .s (.Name x pos) (rdS i) := by
 with_unfolding_all exact (
  PE.imp (wf hN hv hd hcd) fun σ H Q ⟨G, H0, env, d, k, ef, q⟩ => by
    obtain ⟨v, h1, h2⟩ := k.shr i d (Y4 ef)
    exact ⟨v, h1, q v H (Same.refl H) h2 trivial⟩)
theorem db (i : Nat) {x : Str} (hN : X.N[i]? = some x := by rfl) (hv : Vis X.env.scope x := by first | exact Or.inl rfl | exact Or.inr (Or.inl rfl) | exact Or.inr (Or.inr rfl)) (hd : (x == ("__debug__" : Str)) = false := by decide)
    (hcd : (x == ("__classdict__" : Str)) = false := by decide) : DE X .b (.Name x pos) (rdB i) := by
 with_unfolding_all exact (
  PE.imp (wf hN hv hd hcd) fun σ H Q ⟨G, H0, env, d, k, ef, q⟩ => by
    rcases Z0 ef with z | z
    · obtain ⟨v, h1, h2⟩ := k.shr i d z
      exact ⟨v, h1, q v H (Same.refl H) (h2.weak fun _ _ => trivial) trivial⟩
    · obtain ⟨v, h1, _, h2⟩ := k.own i d z
      exact ⟨_, h1, q _ H (Same.refl H) (h2.rep (fun c y => ⟨trivial, Q2 k z h1 c y⟩) trivial) trivial⟩)
def Sc (K : PySem.W.Frag) (v : V) (d : D) : Prop := (∀ A H, Rep K A H v d) ∧ ∀ a, v ≠ .ref a
theorem Sc.T {K : PySem.W.Frag} {v : V} {d : D} {H : Hp} (h : Sc K v d) : l.T H v := by
  cases l with
  | t => exact fun a e => absurd e (h.2 a)
  | b => trivial
  | s => trivial
theorem wb {K : PySem.W.Frag} (i : Int) : Sc K (.int i) (.int i) := ⟨fun _ _ => .int i, fun a e => by cases e⟩
theorem xG {K : PySem.W.Frag} (i : Bool) : Sc K (.bl i) (.bl i) := ⟨fun _ _ => .bl i, fun a e => by cases e⟩
theorem jal {K : PySem.W.Frag} : Sc K .non .non := ⟨fun _ _ => .non, fun a e => by cases e⟩
theorem WJ {K : PySem.W.Frag} (x : Str) (h : x.length ≤ sizeLine) : Sc K (.str x) (.str x) := ⟨fun _ _ => .str x h, fun a e => by cases e⟩
theorem de_c {v : V} {d : D} (h : PE X e (tC v)) (r : Sc X.K v d) : DE X l e (fun _ => .ok d) := by
 with_unfolding_all exact (
  PE.imp h fun σ H Q ⟨G, H0, env, d', k, ef, q⟩ => by
    cases ef
    exact q v H (Same.refl H) (r.1 _ H) r.T)
theorem jn {i : Int} {j} : DE X l (.Constant (.int i) j pos) (cI i) := de_c jaK (wb i)
theorem xu {i : Bool} {j} : DE X l (.Constant (.bool i) j pos) (cB i) := de_c jbP (xG i)
theorem jbn {j} : DE X l (.Constant .none j pos) cN := de_c jaH jal
theorem vt {x : Str} {j} (h : x.length ≤ sizeLine := by decide) : DE X l (.Constant (.str x) j pos) (cS x) := de_c jaE (WJ x h)
theorem yj {x : Str} {i : Int} {t : Tok} (hg : Gl X x) (hm : X.mg x = some (.int i t)) (hd : (x == ("__debug__" : Str)) = false := by decide) : DE X l (.Name x pos) (cI i) :=
  de_c (Kg (v := .int i) hg hm ⟨t, rfl⟩ hd) (wb i)
theorem uQ {x y : Str} {t : Tok} (hg : Gl X x) (hm : X.mg x = some (.str y t)) (hl : y.length ≤ sizeLine := by decide) (hd : (x == ("__debug__" : Str)) = false := by decide) : DE X l (.Name x pos) (cS y) :=
  de_c (Kg (v := .str y) hg hm ⟨t, rfl⟩ hd) (WJ y hl)
def OpS (K : PySem.W.Frag) (r : R2) (g : D → D → Res D) : Prop := ∀ (x y : V) (H : Hp) (a b d : D) (Q : VK), Rep K Any H x a → Rep K Any H y b → g a b = .ok d → (∀ v, Sc K v d → Q v H) → r x y H Q
def OpD (K : PySem.W.Frag) (r : R2) (g : D → D → Res D) : Prop := ∀ (A : Addr → Prop) (x y : V) (H : Hp) (a b d : D) (Q : VK), Rep K A H x a → Rep K A H y b → g a b = .ok d → (∀ v H', Same H H' → Rep K (fun c => H c = none ∨ A c) H' v d → NewTop H v → Q v H') → r x y H Q
def two (f1 f2 : Sl → Res D) (g : D → D → Res D) : Sl → Res D := fun env => f1 env >>= fun x => f2 env >>= fun y => g x y
theorem vD {K : PySem.W.Frag} {r : R2} {g : D → D → Res D} (hr : OpS K r g) {σ : L2.St} {H : Hp} {Q : VK} (h : tE K l (two f1 f2 g) σ H Q) : tOp r (tE K l1 f1) (tE K l2 f2) σ H Q := by
  obtain ⟨G, H0, env, d, k, ef, q⟩ := h
  obtain ⟨a, e1, ef⟩ := jc ef
  obtain ⟨b, e2, e3⟩ := jc ef
  refine ⟨G, H0, env, a, k, e1, fun x H1 s1 r1 _ => ⟨G, H0, env, b, k.grow s1, e2, fun y H2 s2 r2 _ => ?_⟩⟩
  exact hr x y H2 a b d Q ((r1.grow s2).weak Lv.weak_b) (r2.weak Lv.weak_b) e3 fun v sc => q v H2 (s1.trans s2) (sc.1 _ _) sc.T
theorem jbC {K : PySem.W.Frag} {r : R2} {g : D → D → Res D} (hr : OpD K r g) {σ : L2.St} {H : Hp} {Q : VK} (h : tE K .t (two f1 f2 g) σ H Q) : tOp r (tE K .s f1) (tE K .s f2) σ H Q := by
  obtain ⟨G, H0, env, d, k, ef, q⟩ := h
  obtain ⟨a, e1, ef⟩ := jc ef
  obtain ⟨b, e2, e3⟩ := jc ef
  refine ⟨G, H0, env, a, k, e1, fun x H1 s1 r1 _ => ⟨G, H0, env, b, k.grow s1, e2, fun y H2 s2 r2 _ => ?_⟩⟩
  have sm := s1.trans s2
  exact hr _ x y H2 a b d Q (r1.grow s2) r2 e3 fun v H3 s3 r3 nt => q v H3 (sm.trans s3) (r3.weak fun c z => z.elim (fun z => k.new c (Same.free sm z)) fun z => z) (nt.grow sm)
theorem qi {op : Operator} {r : R2} {g : D → D → Res D} (ho : OpR X (binaryOp op) r) (hr : OpS X.K r g) (ha : DE X l1 a f1) (hb : DE X l2 b f2) : DE X l (.BinOp a op b pos) (two f1 f2 g) := by
 with_unfolding_all exact (
  PE.imp (vW ho ha hb) fun _ _ _ h => vD hr h)
theorem j7 {op : Operator} {r : R2} {g : D → D → Res D} (ho : OpR X (binaryOp op) r) (hr : OpD X.K r g) (ha : DE X .s a f1) (hb : DE X .s b f2) : DE X .t (.BinOp a op b pos) (two f1 f2 g) := by
 with_unfolding_all exact (
  PE.imp (vW ho ha hb) fun _ _ _ h => jbC hr h)
theorem vw {op : CmpOp} {r : R2} {g : D → D → Res D} (ho : OpR X (compareOp op) r) (hr : OpS X.K r g) (ha : DE X l1 a f1) (hb : DE X l2 b f2) (hm : behindInMarks op b = false := by first | exact kY _ | (with_unfolding_all rfl)) : DE X l (.Compare a [op] [b] pos) (two f1 f2 g) := by
 with_unfolding_all exact (
  PE.imp (vY ho ha hb hm) fun _ _ _ h => vD hr h)
def asB (f : Sl → Res D) : Sl → Res Bool := fun env => f env >>= fun d => match d with
  | .bl b => .ok b
  | _ => .stuck
theorem u3 {env : Sl} {b : Bool} (h : asB f env = .ok b) : f env = .ok (.bl b) := by
  obtain ⟨d, e1, e2⟩ := jc h
  cases d with
  | bl c => cases e2; exact e1
  | _ => cases e2
theorem ZT {K : PySem.W.Frag} {t : TE} (ht : ∀ σ H Q, tE K l f σ H Q → t σ H Q) {σ : L2.St} {H : Hp} {Q : Bool → Hp → Prop} (h : tT K (asB f) σ H Q) : vC t σ H Q := by
  obtain ⟨G, H0, env, b, k, ef, q⟩ := h
  refine ht σ H _ ⟨G, H0, env, .bl b, k, u3 ef, fun v H' s r _ => ⟨b, r.blE, q H' s⟩⟩
theorem qS {op : CmpOp} {r : R2} {g : D → D → Res D} (ho : OpR X (compareOp op) r) (hr : OpS X.K r g) (ha : DE X l1 a f1) (hb : DE X l2 b f2) (hm : behindInMarks op b = false := by first | exact kY _ | (with_unfolding_all rfl)) : DT X (.Compare a [op] [b] pos) (asB (two f1 f2 g)) := by
 with_unfolding_all exact (
  PT.imp (vQ ho ha hb hm) fun _ _ _ h => ZT (l := .b) (fun _ _ _ h => vD hr h) h)
def Wv (f1 f2 f3 : Sl → Res D) (g g' : D → D → Res D) : Sl → Res D := fun env => f1 env >>= fun x => f2 env >>= fun y => g x y >>= fun z => match z with
  | .bl true => f3 env >>= fun w => g' y w
  | .bl false => .ok (.bl false)
  | _ => .stuck
theorem WF {K : PySem.W.Frag} {l3 : Lv} {r r' : R2} {g g' : D → D → Res D} (hr : OpS K r g) (hr' : OpS K r' g') {σ : L2.St} {H : Hp} {Q : VK} (h : tE K l (Wv f1 f2 f3 g g') σ H Q) : YU r r' (tE K l1 f1) (tE K l2 f2) (tE K l3 f3) σ H Q := by
  obtain ⟨G, H0, env, d, k, ef, q⟩ := h
  obtain ⟨a, e1, ef⟩ := jc ef
  obtain ⟨b, e2, ef⟩ := jc ef
  obtain ⟨z, e3, e4⟩ := jc ef
  refine ⟨G, H0, env, a, k, e1, fun x H1 s1 r1 _ => ⟨G, H0, env, b, k.grow s1, e2, fun y H2 s2 r2 _ => ?_⟩⟩
  refine hr x y H2 a b z _ ((r1.grow s2).weak Lv.weak_b) (r2.weak Lv.weak_b) e3 fun v sc => ?_
  cases z with
  | bl t =>
    refine ⟨t, (sc.1 Any H2).blE, ?_⟩
    cases t with
    | false =>
      cases e4
      rw [if_neg Bool.false_ne_true]
      exact q _ H2 (s1.trans s2) (.bl false) (xG (K := K) false).T
    | true =>
      obtain ⟨w, e5, e6⟩ := jc e4
      rw [if_pos rfl]
      refine ⟨G, H0, env, w, (k.grow s1).grow s2, e5, fun y' H4 s4 r4 _ => ?_⟩
      refine hr' y y' H4 b w d Q ((r2.grow s4).weak Lv.weak_b) (r4.weak Lv.weak_b) e6 fun v sc => q v H4 (s1.trans (s2.trans s4)) (sc.1 _ _) sc.T
  | _ => cases e4
theorem Xv {op op' : CmpOp} {l3 : Lv} {r r' : R2} {g g' : D → D → Res D} (ho : OpR X (compareOp op) r) (hr : OpS X.K r g) (ho' : OpR X (compareOp op') r') (hr' : OpS X.K r' g') (ha : DE X l1 a f1) (hb : DE X l2 b f2) (hc : DE X l3 c f3)
    (hm : lastMarks [op, op'] [b, c] = false := by with_unfolding_all rfl) : DE X l (.Compare a [op, op'] [b, c] pos) (Wv f1 f2 f3 g g') := by
 with_unfolding_all exact (
  PE.imp (Um ho ho' ha hb hc hm) fun _ _ _ h => WF hr hr' h)
theorem ke {op op' : CmpOp} {l3 : Lv} {r r' : R2} {g g' : D → D → Res D} (ho : OpR X (compareOp op) r) (hr : OpS X.K r g) (ho' : OpR X (compareOp op') r') (hr' : OpS X.K r' g') (ha : DE X l1 a f1) (hb : DE X l2 b f2) (hc : DE X l3 c f3)
    (hm : lastMarks [op, op'] [b, c] = false := by with_unfolding_all rfl) : DT X (.Compare a [op, op'] [b, c] pos) (asB (Wv f1 f2 f3 g g')) := by
 with_unfolding_all exact (
  PT.imp (Ue ho ho' ha hb hc hm) fun _ _ _ h => ZT (l := .b) (fun _ _ _ h => WF hr hr' h) h)
theorem qx (h : DE X l e f) (he : ∀ whole, isTrue e X.env whole = (do let v ← whole; standAt e.pos; holding [v] (truthy v)) := by intro _; rfl) : DT X e (asB f) := by
 with_unfolding_all exact (
  PT.imp (jau h he) fun _ _ _ h => ZT (l := l) (fun _ _ _ h => h) h)
def tru : D → Res Bool
  | .non => .ok false
  | .bl b => .ok b
  | .int i => .ok (i != 0)
  | .str x => .ok ((x.length : Int) != 0)
  | .tup ds => .ok (!ds.isEmpty)
  | .lst ds => .ok (!ds.isEmpty)
  | .scr ds => .ok (!ds.isEmpty)
  | .dic _ _ => .stuck
  | .dit _ _ => .stuck
  | .exn _ => .stuck
  | .fdc _ _ => .stuck
  | .hdc _ _ => .stuck
  | .obj _ _ _ => .stuck
theorem jbz {K : PySem.W.Frag} {A : Addr → Prop} {H : Hp} {v : V} {d : D} {b : Bool} (r : Rep K A H v d) (h : tru d = .ok b) : TruV K v H b := by
  cases r with
  | non => cases h; rfl
  | bl c => cases h; rfl
  | int i => cases h; rfl
  | str x hx => cases h; exact ⟨hx, rfl⟩
  | tup e r => cases h; exact .inr (.inl ⟨_, .of e, by rw [r.isEmpty]⟩)
  | lst e _ r => cases h; exact .inl ⟨_, .of e, by rw [r.isEmpty]⟩
  | lsk e r => cases h; exact .inl ⟨_, e.sql, by rw [r.isEmpty]⟩
  | dic _ _ _ _ _ => cases h
  | dit _ _ _ _ _ => cases h
  | exn _ _ _ => cases h
  | fdc _ _ _ _ => cases h
  | hdc _ _ _ _ => cases h
  | obj _ _ _ _ _ => cases h
def truF (f : Sl → Res D) : Sl → Res Bool := fun env => f env >>= tru
theorem jbi (h : DE X l e f) (he : ∀ whole, isTrue e X.env whole = (do let v ← whole; standAt e.pos; holding [v] (truthy v)) := by intro _; rfl) : DT X e (truF f) := by
 with_unfolding_all exact (
  PT.imp (Ud h he) fun σ H Q ⟨G, H0, env, b, k, ef, q⟩ => by
    obtain ⟨d, e1, e2⟩ := jc ef
    exact ⟨G, H0, env, d, k, e1, fun v H' s r _ => ⟨b, jbz r e2, q H' s⟩⟩)
section
variable {g g1 g2 : Sl → Res Bool} {rest : List Expr}
def notB (g : Sl → Res Bool) : Sl → Res Bool := fun env => g env >>= fun b => .ok (!b)
theorem zf (h : DT X a g) : DT X (.UnaryOp .Not a pos) (notB g) := by
 with_unfolding_all exact (
  PT.imp (jav h) fun σ H Q ⟨G, H0, env, b, k, ef, q⟩ => by
    obtain ⟨d, e1, e2⟩ := jc ef
    cases e2
    exact ⟨G, H0, env, d, k, e1, q⟩)
@[irreducible] def DW (X : Cx) (e : Expr) (f : Sl → Res Bool) : Prop := PW X e (tT X.K f)
theorem PW.imp {t t' : TT} (h : PW X e t) (w : ∀ σ H Q, t' σ H Q → t σ H Q) : PW X e t' := fun wh pins s σ H Q I q => h wh pins s σ H Q I (w σ H Q q)
theorem DW.dt (h : DW X e g) : DT X e g := by
 with_unfolding_all exact (PW.pt h)
theorem QA (h : DT X a g) : DW X (.BoolOp .And [a] pos) g := by
 with_unfolding_all exact (vP h)
theorem xw (h : DT X a g) : DW X (.BoolOp .Or [a] pos) g := by
 with_unfolding_all exact (jaq h)
def andB (g1 g2 : Sl → Res Bool) : Sl → Res Bool := fun env => g1 env >>= fun b => if b = true then g2 env else .ok false
def orB (g1 g2 : Sl → Res Bool) : Sl → Res Bool := fun env => g1 env >>= fun b => if b = true then .ok true else g2 env
theorem Xq (h1 : DT X a g1) (h2 : DW X (.BoolOp .And (b :: rest) pos) g2) : DW X (.BoolOp .And (a :: b :: rest) pos) (andB g1 g2) := by
 with_unfolding_all exact (
  PW.imp (jar h1 h2) fun σ H Q ⟨G, H0, env, r, k, ef, q⟩ => by
    obtain ⟨d, e1, e2⟩ := jc ef
    refine ⟨G, H0, env, d, k, e1, fun H' s => ?_⟩
    cases d with
    | true => rw [if_pos rfl] at e2 ⊢; exact ⟨G, H0, env, r, k.grow s, e2, fun H2 s2 => q H2 (s.trans s2)⟩
    | false => rw [if_neg Bool.false_ne_true] at e2 ⊢; cases e2; exact q H' s)
theorem yh (h1 : DT X a g1) (h2 : DW X (.BoolOp .Or (b :: rest) pos) g2) : DW X (.BoolOp .Or (a :: b :: rest) pos) (orB g1 g2) := by
 with_unfolding_all exact (
  PW.imp (jbO h1 h2) fun σ H Q ⟨G, H0, env, r, k, ef, q⟩ => by
    obtain ⟨d, e1, e2⟩ := jc ef
    refine ⟨G, H0, env, d, k, e1, fun H' s => ?_⟩
    cases d with
    | false => rw [if_neg Bool.false_ne_true] at e2 ⊢; exact ⟨G, H0, env, r, k.grow s, e2, fun H2 s2 => q H2 (s.trans s2)⟩
    | true => rw [if_pos rfl] at e2 ⊢; cases e2; exact q H' s)
def toB (f : Sl → Res D) (g : Sl → Res D) (w : Bool) : Sl → Res D := fun env => f env >>= fun d => match d with
  | .bl b => if b = w then g env else .ok (.bl b)
  | _ => .stuck
theorem Zy {op} (h : DE X l a f) : DE X l (.BoolOp op [a] pos) f := by
 with_unfolding_all exact (jaF h)
theorem ZA (h1 : DE X l1 a f1) (h2 : DE X l (.BoolOp .And (b :: rest) pos) f2) : DE X l (.BoolOp .And (a :: b :: rest) pos) (toB f1 f2 true) := by
 with_unfolding_all exact (
  PE.imp (jaN h1 h2) fun σ H Q ⟨G, H0, env, r, k, ef, q⟩ => by
    obtain ⟨d, e1, e2⟩ := jc ef
    refine ⟨G, H0, env, d, k, e1, fun v H' s rr _ => ?_⟩
    cases d with
    | bl t =>
      refine ⟨t, rr.blE, ?_⟩
      cases t with
      | true => exact ⟨G, H0, env, r, k.grow s, e2, fun v H2 s2 r2 nt => q v H2 (s.trans s2) r2 (Lv.Tgrow s nt)⟩
      | false => cases e2; exact q _ H' s (.bl false) (xG (K := X.K) false).T
    | _ => cases e2)
def notD : D → Res D
  | .bl b => .ok (.bl (!b))
  | _ => .stuck
def notF (f : Sl → Res D) : Sl → Res D := fun env => f env >>= notD
theorem Vx (h : DE X l1 a f) : DE X l (.UnaryOp .Not a pos) (notF f) := by
 with_unfolding_all exact (
  PE.imp (jaG h) fun σ H Q ⟨G, H0, env, r, k, ef, q⟩ => by
    obtain ⟨d, e1, e2⟩ := jc ef
    refine ⟨G, H0, env, d, k, e1, fun v H' s rr _ => ?_⟩
    cases d with
    | bl t => cases e2; exact ⟨t, rr.blE, q _ H' s (.bl _) (xG (K := X.K) _).T⟩
    | _ => cases e2)
def ifD (g : Sl → Res Bool) (f1 f2 : Sl → Res D) : Sl → Res D := fun env => g env >>= fun b => if b = true then f1 env else f2 env
theorem vv (hc : DT X c g) (h1 : DE X l a f1) (h2 : DE X l b f2) : DE X l (.IfExp c a b pos) (ifD g f1 f2) := by
 with_unfolding_all exact (
  PE.imp (Uj hc h1 h2) fun σ H Q ⟨G, H0, env, r, k, ef, q⟩ => by
    obtain ⟨d, e1, e2⟩ := jc ef
    refine ⟨G, H0, env, d, k, e1, fun H' s => ?_⟩
    cases d with
    | true => rw [if_pos rfl] at e2 ⊢; exact ⟨G, H0, env, r, k.grow s, e2, fun v H2 s2 r2 nt => q v H2 (s.trans s2) r2 (Lv.Tgrow s nt)⟩
    | false => rw [if_neg Bool.false_ne_true] at e2 ⊢; exact ⟨G, H0, env, r, k.grow s, e2, fun v H2 s2 r2 nt => q v H2 (s.trans s2) r2 (Lv.Tgrow s nt)⟩)
end
def ja (f : Sl → Res D) (g : Sl → Res (List D)) : Sl → Res (List D) := fun env => f env >>= fun d => g env >>= fun ds => .ok (d :: ds)
def nil1 : Sl → Res (List D) := fun _ => .ok []
theorem ji : DA X l [] nil1 := by
 with_unfolding_all exact (PA.imp wN fun σ H Q ⟨G, H0, env, d, k, ef, q⟩ => by cases ef; exact q [] H (Same.refl H) .nil)
theorem jb {g : Sl → Res (List D)} (ha : DE X l e f) (hr : DA X l es g) (hs : starEach (e :: es) X.env = (false, eval e X.env) :: starEach es X.env := by exact jx rfl) : DA X l (e :: es) (ja f g) := by
 with_unfolding_all exact (
  PA.imp (qA ha hr hs) fun σ H Q ⟨G, H0, env, ds, k, ef, q⟩ => by
    obtain ⟨d, e1, e2⟩ := jc ef
    obtain ⟨ds', e3, e4⟩ := jc e2
    cases e4
    exact ⟨G, H0, env, d, k, e1, fun v H1 s1 r1 _ => ⟨G, H0, env, ds', k.grow s1, e3, fun vs H2 s2 r2 => q _ H2 (s1.trans s2) (.cons (r1.grow s2) r2)⟩⟩)
theorem j4 {H H1 : Hp} {p : Addr} (s : Same H H1) (hp : H1 p = none) : NewTop H (.ref p) := fun a e o q => by
  cases e
  rw [s _ _ q] at hp; cases hp
def tupF (g : Sl → Res (List D)) : Sl → Res D := fun env => g env >>= fun ds => must (ds.length ≤ sizeLine) (.ok (.tup ds))
def lstF (g : Sl → Res (List D)) : Sl → Res D := fun env => g env >>= fun ds => must (ds.length ≤ sizeLine) (.ok (.lst ds))
theorem zU {x1} {g : Sl → Res (List D)} (h : DA X .s es g) : DE X .t (.Tuple es x1 pos) (tupF g) := by
 with_unfolding_all exact (
  PE.imp (jaD h) fun σ H Q ⟨G, H0, env, d, k, ef, q⟩ => by
    obtain ⟨ds, e1, e2⟩ := jc ef
    obtain ⟨hz, e3⟩ := jB e2
    cases e3
    refine ⟨G, H0, env, ds, k, e1, fun vs H1 s1 r1 => ⟨by rw [r1.length]; exact hz, fun p hp => ?_⟩⟩
    exact q _ _ (s1.trans (Same.upd hp)) (.tup jA (r1.grow (Same.upd hp))) (j4 s1 hp))
theorem zJ {g : Sl → Res (List D)} (h : DA X .s es g) : DE X .t (.List es pos) (lstF g) := by
 with_unfolding_all exact (
  PE.imp (jaI h) fun σ H Q ⟨G, H0, env, d, k, ef, q⟩ => by
    obtain ⟨ds, e1, e2⟩ := jc ef
    obtain ⟨hz, e3⟩ := jB e2
    cases e3
    refine ⟨G, H0, env, ds, k, e1, fun vs H1 s1 r1 => ⟨by rw [r1.length]; exact hz, fun p hp => ?_⟩⟩
    exact q _ _ (s1.trans (Same.upd hp)) (.lst jA (k.new p (Same.free s1 hp)) (r1.laid hp)) (j4 s1 hp))
def kM (K : PySem.W.Frag) (r : List V → Hp → VK → Prop) (g : List D → Res D) : Prop := ∀ (xs : List V) (H : Hp) (ds : List D) (d : D) (Q : VK), Reps K Any H xs ds → g ds = .ok d → (∀ v, Sc K v d → Q v H) → r xs H Q
def QG (K : PySem.W.Frag) (r : List V → Hp → VK → Prop) (g : List D → Res D) : Prop := ∀ (A : Addr → Prop) (xs : List V) (H : Hp) (ds : List D) (d : D) (Q : VK), Reps K A H xs ds → g ds = .ok d → (∀ v H', Same H H' → Rep K (fun c => H c = none ∨ A c) H' v d → NewTop H v → Q v H') → r xs H Q
def app (f : Sl → Res (List D)) (g : List D → Res D) : Sl → Res D := fun env => f env >>= g
theorem jbK {K : PySem.W.Frag} {r : List V → Hp → VK → Prop} {g : List D → Res D} {fa : Sl → Res (List D)} (hr : kM K r g) {σ : L2.St} {H : Hp} {Q : VK} (h : tE K l' (app fa g) σ H Q) : tCB r (tA K l fa) σ H Q := by
  obtain ⟨G, H0, env, d, k, ef, q⟩ := h
  obtain ⟨ds, e1, e2⟩ := jc ef
  refine ⟨G, H0, env, ds, k, e1, fun vs H1 s1 r1 => ?_⟩
  exact hr vs H1 ds d Q (r1.weak Lv.weak_b) e2 fun v sc => q v H1 s1 (sc.1 _ _) sc.T
theorem jah {K : PySem.W.Frag} {r : List V → Hp → VK → Prop} {g : List D → Res D} {fa : Sl → Res (List D)} (hr : QG K r g) {σ : L2.St} {H : Hp} {Q : VK} (h : tE K .t (app fa g) σ H Q) : tCB r (tA K .s fa) σ H Q := by
  obtain ⟨G, H0, env, d, k, ef, q⟩ := h
  obtain ⟨ds, e1, e2⟩ := jc ef
  refine ⟨G, H0, env, ds, k, e1, fun vs H1 s1 r1 => ?_⟩
  exact hr _ vs H1 ds d Q r1 e2 fun v H2 s2 r2 nt => q v H2 (s1.trans s2) (r2.weak fun c z => z.elim (fun z => k.new c (Same.free s1 z)) fun z => z) (nt.grow s1)
section
variable {x : Str} {id T : String} {p : Pos} {r : List V → Hp → VK → Prop} {g : List D → Res D} {fa : Sl → Res (List D)}
theorem jZ (hc : CallR X (.builtin id) r) (hr : kM X.K r g) (hg : Gl X x) (hm : X.mg x = none) (hv : bootBuiltins x = some (.builtin id))
    (ha : DA X l (e :: es) fa) (hn : x ≠ "__name__" := by decide) (hdb : (x == ("__debug__" : Str)) = false := by decide)
    (he : starEach (e :: es) X.env = (false, eval e X.env) :: starEach es X.env := by exact jx rfl) (hpl : (backTo pos (starEach es X.env)).any (·.1) = false := by exact jR rfl) : DE X l' (.Call (.Name x p) (e :: es) [] pos) (app fa g) := by
 with_unfolding_all exact (
  PE.imp (yw hc hg hm hv ha hn hdb he hpl) fun _ _ _ h => jbK hr h)
theorem xa (hc : CallR X (.type T) r) (hr : QG X.K r g) (hg : Gl X x) (hm : X.mg x = none) (hv : bootBuiltins x = some (.type T))
    (ha : DA X .s (e :: es) fa) (hn : x ≠ "__name__" := by decide) (hdb : (x == ("__debug__" : Str)) = false := by decide)
    (he : starEach (e :: es) X.env = (false, eval e X.env) :: starEach es X.env := by exact jx rfl) (hpl : (backTo pos (starEach es X.env)).any (·.1) = false := by exact jR rfl) : DE X .t (.Call (.Name x p) (e :: es) [] pos) (app fa g) := by
 with_unfolding_all exact (
  PE.imp (xK hc hg hm hv ha hn hdb he hpl) fun _ _ _ h => jah hr h)
end
def spF (K : PySem.W.Frag) (fr : Bool) (n : Nat) (F : List D → Res D) : Sp := fun vs H Q _ => ∃ B ds d, vs.length = n ∧ Reps K B H vs ds ∧ F ds = .ok d ∧ ∀ v H', Same H H' → Rep K (fun a => H a = none ∨ B a) H' v d → (fr = true → NewTop H v) → Q v H'
def jo (n : Nat) (F : List D → Res D) (g : Sl → Res (List D)) : Sl → Res D := fun env => g env >>= fun ds => must (ds.length = n) (F ds)
section
variable {CX : CXT} {k : Nat} {x : Str} {fa : Addr} {fd : FuncData} {ps : List Str} {p : Pos} {n : Nat} {F : List D → Res D} {E : XK} {g : Sl → Res (List D)} {fr : Bool}
theorem uS (G : FnOk X.prog X.w X.K X.mg X.base CX k fa fd ps (spF X.K fr n F)) (hr : Room k X.A) (hg : Gl X x) (hm : X.mg x = some (.ref fa)) (hk : PySem.W.keepIn X.K (.ref fa) = true) (hb : Binds X.K fd ps []) (hx : xW CX X E)
    (ha : DA X .s (e :: es) g) (hdb : (x == ("__debug__" : Str)) = false := by decide) (he : starEach (e :: es) X.env = (false, eval e X.env) :: starEach es X.env := by exact jx rfl) (hpl : (backTo pos (starEach es X.env)).any (·.1) = false := by exact jR rfl) :
    DE X .s (.Call (.Name x p) (e :: es) [] pos) (jo n F g) := by
 with_unfolding_all exact (
  PE.imp (Z5 G hr hg hm hk hb .nil hx ha hdb he hpl) fun σ H Q ⟨GG, H0, env, d, k, ef, q⟩ => by
    obtain ⟨ds, e1, e2⟩ := jc ef
    obtain ⟨hn, e3⟩ := jB e2
    refine ⟨GG, H0, env, ds, k, e1, fun vs H1 s1 r1 => ?_⟩
    show spF X.K fr n F (vs ++ []) H1 Q E
    rw [List.append_nil]
    exact ⟨_, ds, d, by rw [r1.length]; exact hn, r1, e3, fun v H2 s2 r2 _ => q v H2 (s1.trans s2) (r2.weak fun c z => z.elim (fun z => k.new c (Same.free s1 z)) fun z => z) trivial⟩)
theorem ku (G : FnOk X.prog X.w X.K X.mg X.base CX k fa fd ps (spF X.K true n F)) (hr : Room k X.A) (hg : Gl X x) (hm : X.mg x = some (.ref fa)) (hk : PySem.W.keepIn X.K (.ref fa) = true) (hb : Binds X.K fd ps []) (hx : xW CX X E)
    (ha : DA X .s (e :: es) g) (hdb : (x == ("__debug__" : Str)) = false := by decide) (he : starEach (e :: es) X.env = (false, eval e X.env) :: starEach es X.env := by exact jx rfl) (hpl : (backTo pos (starEach es X.env)).any (·.1) = false := by exact jR rfl) :
    DE X .t (.Call (.Name x p) (e :: es) [] pos) (jo n F g) := by
 with_unfolding_all exact (
  PE.imp (Z5 G hr hg hm hk hb .nil hx ha hdb he hpl) fun σ H Q ⟨GG, H0, env, d, k, ef, q⟩ => by
    obtain ⟨ds, e1, e2⟩ := jc ef
    obtain ⟨hn, e3⟩ := jB e2
    refine ⟨GG, H0, env, ds, k, e1, fun vs H1 s1 r1 => ?_⟩
    show spF X.K true n F (vs ++ []) H1 Q E
    rw [List.append_nil]
    exact ⟨_, ds, d, by rw [r1.length]; exact hn, r1, e3, fun v H2 s2 r2 nt => q v H2 (s1.trans s2) (r2.weak fun c z => z.elim (fun z => k.new c (Same.free s1 z)) fun z => z) ((nt rfl).grow s1)⟩)
theorem ky (G : FnOk X.prog X.w X.K X.mg X.base CX k fa fd ps (spF X.K fr n F)) (hr : Room k X.A) (hg : Gl X x) (hm : X.mg x = some (.ref fa)) (hk : PySem.W.keepIn X.K (.ref fa) = true) (hb : Binds X.K fd ps []) (hx : xW CX X E)
    (ha : DA X .b (e :: es) g) (hdb : (x == ("__debug__" : Str)) = false := by decide) (he : starEach (e :: es) X.env = (false, eval e X.env) :: starEach es X.env := by exact jx rfl) (hpl : (backTo pos (starEach es X.env)).any (·.1) = false := by exact jR rfl) :
    DE X .b (.Call (.Name x p) (e :: es) [] pos) (jo n F g) := by
 with_unfolding_all exact (
  PE.imp (Z5 G hr hg hm hk hb .nil hx ha hdb he hpl) fun σ H Q ⟨GG, H0, env, d, k, ef, q⟩ => by
    obtain ⟨ds, e1, e2⟩ := jc ef
    obtain ⟨hn, e3⟩ := jB e2
    refine ⟨GG, H0, env, ds, k, e1, fun vs H1 s1 r1 => ?_⟩
    show spF X.K fr n F (vs ++ []) H1 Q E
    rw [List.append_nil]
    exact ⟨_, ds, d, by rw [r1.length]; exact hn, r1, e3, fun v H2 s2 r2 _ => q v H2 (s1.trans s2) (r2.weak fun c _ => trivial) trivial⟩)
end
def ixD : D → D → Res D
  | .lst ds, .int i => match atI ds i with
    | some d => .ok d
    | none => .stuck
  | .scr ds, .int i => match atI ds i with
    | some d => .ok d
    | none => .stuck
  | .tup ds, .int i => match atI ds i with
    | some d => .ok d
    | none => .stuck
  | .str z, .int i => match atI z.cps.toList i with
    | some c => .ok (.str ⟨#[c]⟩)
    | none => .stuck
  | _, _ => .stuck
theorem QF {K : PySem.W.Frag} {A : Addr → Prop} {H : Hp} {xs : List V} {ds : List D} {i : Int} {d : D} (r : Reps K A H xs ds) (h : atI ds i = some d) : ∃ v, atI xs i = some v ∧ Rep K A H v d := by
  unfold atI at h ⊢
  rw [r.length]
  cases e : ixN ds.length i with
  | none => rw [e] at h; cases h
  | some j => rw [e] at h; exact r.get h
theorem ue (c : Nat) : (⟨#[c]⟩ : Str).length ≤ sizeLine := by show 1 ≤ sizeLine; decide
theorem jaR {A : Addr → Prop} {x y : V} {H : Hp} {a b d : D} {Q : VK} (ra : Rep X.K A H x a) (rb : Rep X.K Any H y b) (h : ixD a b = .ok d) (q : ∀ v, Rep X.K A H v d → Q v H) : rIx X.K x y H Q := by
  cases b with
  | int i =>
    cases rb.intE
    cases a with
    | lst ds =>
      unfold ixD at h; dsimp only at h
      cases e : atI ds i with
      | none => rw [e] at h; cases h
      | some d' =>
        rw [e] at h; cases h
        obtain ⟨p, xs, rfl, hq, _, r⟩ := ra.lstE
        obtain ⟨v, e2, r2⟩ := QF r.low e
        exact .inl ⟨p, xs, i, v, rfl, rfl, .of hq, e2, q v r2⟩
    | scr ds =>
      unfold ixD at h; dsimp only at h
      cases e : atI ds i with
      | none => rw [e] at h; cases h
      | some d' =>
        rw [e] at h; cases h
        obtain ⟨p, xs, rfl, hq, r⟩ := ra.scrE
        obtain ⟨v, e2, r2⟩ := QF r e
        exact .inl ⟨p, xs, i, v, rfl, rfl, hq.sql, e2, q v r2⟩
    | tup ds =>
      unfold ixD at h; dsimp only at h
      cases e : atI ds i with
      | none => rw [e] at h; cases h
      | some d' =>
        rw [e] at h; cases h
        obtain ⟨p, xs, rfl, hq, r⟩ := ra.tupE
        obtain ⟨v, e2, r2⟩ := QF r e
        exact .inr (.inl ⟨p, xs, i, v, rfl, rfl, .of hq, e2, q v r2⟩)
    | str z =>
      unfold ixD at h; dsimp only at h
      cases e : atI z.cps.toList i with
      | none => rw [e] at h; cases h
      | some c =>
        rw [e] at h; cases h
        obtain ⟨rfl, hz⟩ := ra.strE
        exact .inr (.inr ⟨z, i, c, rfl, rfl, hz, e, q _ (.str _ (by show 1 ≤ sizeLine; decide))⟩)
    | _ => cases h
  | _ => cases a <;> cases h
theorem zN (ha : DE X .s a f1) (hb : DE X l2 b f2) (hs : WA b := by intro _ _; rfl) : DE X .s (.Subscript a b pos) (two f1 f2 ixD) := by
 with_unfolding_all exact (
  PE.imp (jaJ vf ha hb hs) fun σ H Q ⟨G, H0, env, d, k, ef, q⟩ => by
    obtain ⟨a', e1, ef⟩ := jc ef
    obtain ⟨b', e2, e3⟩ := jc ef
    refine ⟨G, H0, env, a', k, e1, fun x H1 s1 r1 _ => ⟨G, H0, env, b', k.grow s1, e2, fun y H2 s2 r2 _ => ?_⟩⟩
    exact jaR (r1.grow s2) (r2.weak Lv.weak_b) e3 fun v r3 => q v H2 (s1.trans s2) r3 trivial)
@[irreducible] def DO (X : Cx) (e : Option Expr) (f : Sl → Res (Option Int)) : Prop := PO X e (fun σ H Q => ∃ G H0 env i, EnvOk X.K G H0 env σ H ∧ f env = .ok i ∧ ∀ H', Same H H' → Q i H')
theorem PO.imp {e : Option Expr} {t t' : TO} (h : PO X e t) (w : ∀ σ H Q, t' σ H Q → t σ H Q) : PO X e t' := fun pins s σ H Q I q => h pins s σ H Q I (w σ H Q q)
def Zc : Sl → Res (Option Int) := fun _ => .ok none
theorem QB : DO X none Zc := by
 with_unfolding_all exact (PO.imp vT fun σ H Q ⟨G, H0, env, i, k, ef, q⟩ => by cases ef; exact q H (Same.refl H))
def asI : D → Res (Option Int)
  | .int i => .ok (some i)
  | _ => .stuck
def wO (f : Sl → Res D) : Sl → Res (Option Int) := fun env => f env >>= asI
theorem yi (h : DE X l e f) : DO X (some e) (wO f) := by
 with_unfolding_all exact (PO.imp (vS h) fun σ H Q ⟨G, H0, env, i, k, ef, q⟩ => by
  obtain ⟨d, e1, e2⟩ := jc ef
  cases d with
  | int j => cases e2; exact ⟨G, H0, env, .int j, k, e1, fun v H' s r _ => ⟨j, r.intE, q H' s⟩⟩
  | _ => cases e2)
def cutD (ds : List D) (lo hi : Option Int) : List D := (ds.drop (HT.sIx ds.length 0 lo)).take (HT.sIx ds.length ds.length hi - HT.sIx ds.length 0 lo)
theorem Wt {K : PySem.W.Frag} {A : Addr → Prop} {H : Hp} {xs : List V} {ds : List D} {lo hi : Option Int} (r : Reps K A H xs ds) : Reps K A H (cutV xs lo hi) (cutD ds lo hi) := by
  unfold cutV cutD; rw [r.length]; exact (r.drop _).take _
def zB (f : Sl → Res D) (fl fh : Sl → Res (Option Int)) (g : D → Option Int → Option Int → Res D) : Sl → Res D := fun env => f env >>= fun a => fl env >>= fun lo => fh env >>= fun hi => g a lo hi
end
end M
namespace M
open PySem PySem.Spec L2
open PyProof.Rows hiding St
section
variable {K : PySem.W.Frag} {G : Addr → Prop} {H0 H H1 H' : Hp} {env env' : Sl} {σ σ' : L2.St} {i : Nat} {d : D} {v : V}
theorem jy {α : Type} {l : List α} {i j : Nat} {x : α} (h : i ≠ j) : (l.set i x)[j]? = l[j]? := List.getElem?_set_ne h
theorem jE {α : Type} {l : List α} {i : Nat} {x y : α} (h : (l.set i x)[i]? = some y) : y = x ∧ i < l.length := by
  have hl : i < l.length := by
    have := (List.getElem?_eq_some_iff.mp h).1
    simpa using this
  rw [List.getElem?_set_self hl] at h
  exact ⟨(Option.some.inj h).symm, hl⟩
theorem yR {s : Slot} {a : Addr} (h : zM (env.set i s) (σ.set i (some v)) a) : zM env σ a ∨ (∃ d, s = .own d ∧ v = .ref a) := by
  obtain ⟨j, d, h1, h2⟩ := h
  by_cases e : i = j
  · subst e
    obtain ⟨q1, _⟩ := jE h1
    obtain ⟨q2, _⟩ := jE h2
    exact .inr ⟨d, q1.symm, (Option.some.inj q2).symm⟩
  · rw [jy e] at h1 h2
    exact .inl ⟨j, d, h1, h2⟩
theorem EnvOk.setS (k : EnvOk K G H0 env σ H) (r : Rep K (Sf G env σ) H v d) : EnvOk K G H0 (env.set i (.shr d)) (σ.set i (some v)) H := by
  have w : ∀ a, Sf G env σ a → Sf G (env.set i (.shr d)) (σ.set i (some v)) a := fun a n => ⟨fun o => (by
    rcases yR o with z | ⟨d', z, _⟩
    · exact n.1 z
    · cases z), n.2⟩
  refine ⟨by simp [k.len], k.base, k.g0, fun j e h => ?_, fun j e h => ?_, fun j j' e e' a h1 h2 h3 h4 => ?_⟩
  · by_cases z : i = j
    · subst z
      obtain ⟨q, hl⟩ := jE h
      cases q
      exact ⟨v, List.getElem?_set_self (by rw [k.len]; exact hl), r.weak w⟩
    · rw [jy z] at h ⊢
      obtain ⟨v', h1, h2⟩ := k.shr j e h
      exact ⟨v', h1, h2.weak w⟩
  · by_cases z : i = j
    · subst z
      obtain ⟨q, hl⟩ := jE h
      cases q
    · rw [jy z] at h ⊢
      obtain ⟨v', h1, h0, h2⟩ := k.own j e h
      exact ⟨v', h1, h0, h2.stay (fun _ _ e _ => e) w fun _ e => e⟩
  · have n1 : i ≠ j := fun z => by subst z; obtain ⟨q, _⟩ := jE h1; cases q
    have n2 : i ≠ j' := fun z => by subst z; obtain ⟨q, _⟩ := jE h2; cases q
    rw [jy n1] at h1 h3
    rw [jy n2] at h2 h4
    exact k.dis j j' e e' a h1 h2 h3 h4
def J9 : D → Bool
  | .lst _ => true
  | .dic _ _ => true
  | .dit _ _ => true
  | .obj _ _ _ => true
  | _ => false
theorem Z6 {A : Addr → Prop} (r : Rep K A H v d) (h : J9 d = true) : ∃ a, v = .ref a ∧ A a ∧ (∃ o, H a = some o ∧ Mut (some o)) ∧ Top K (fun c => A c ∧ c ≠ a) H a d := by
  cases r with
  | lst e a r => exact ⟨_, rfl, a, ⟨_, e, trivial⟩, .lst e r⟩
  | dic e a k1 k2 r => exact ⟨_, rfl, a, ⟨_, e, trivial⟩, .dic e k1 k2 r⟩
  | dit e a k1 k2 r => exact ⟨_, rfl, a, ⟨_, e, trivial⟩, .dit e k1 k2 r⟩
  | obj e a k1 k2 r => exact ⟨_, rfl, a, ⟨_, e, trivial⟩, .obj e k1 k2 r⟩
  | _ => cases h
theorem jaU {a : Addr} (s : Same H H1) (nt : NewTop H (.ref a)) (h : ∃ o, H1 a = some o ∧ Mut (some o)) : H a = none := by
  cases e : H a with
  | none => rfl
  | some o =>
    obtain ⟨o', h1, h2⟩ := h
    rw [s a o e] at h1; cases h1
    exact (nt a rfl o e h2).elim
theorem EnvOk.setN (k : EnvOk K G H0 env σ H) (s : Same H H1) (r : Rep K (Sf G env σ) H1 v d) (nt : NewTop H v) (hd : J9 d = true) : EnvOk K G H0 (env.set i (.own d)) (σ.set i (some v)) H1 ∧ ∃ a, v = .ref a ∧ H a = none := by
  obtain ⟨a, rfl, ga, mt, top⟩ := Z6 r hd
  have fa := jaU s nt mt
  refine ⟨?_, a, rfl, fa⟩
  have w : ∀ c, (Sf G env σ c ∧ c ≠ a) → Sf G (env.set i (.own d)) (σ.set i (some (V.ref a))) c := fun c n => ⟨fun o => (by
    rcases yR o with z | ⟨d', z, z2⟩
    · exact n.1.1 z
    · cases z2; exact n.2 rfl), n.1.2⟩
  have w2 : ∀ c, (Sf G env σ c ∧ H c ≠ none) → Sf G (env.set i (.own d)) (σ.set i (some (V.ref a))) c := fun c n => w c ⟨n.1, fun e => n.2 (by rw [e]; exact fa)⟩
  have k1 := k.grow s
  refine ⟨by simp [k.len], k1.base, k.g0, fun j e h => ?_, fun j e h => ?_, fun j j' e e' b h1 h2 h3 h4 => ?_⟩
  · by_cases z : i = j
    · subst z
      obtain ⟨q, hl⟩ := jE h
      cases q
    · rw [jy z] at h ⊢
      obtain ⟨v', h1, h2⟩ := k.shr j e h
      exact ⟨v', h1, (h2.inDom.grow s).weak w2⟩
  · by_cases z : i = j
    · subst z
      obtain ⟨q, hl⟩ := jE h
      cases q
      exact ⟨a, List.getElem?_set_self (by rw [k.len]; exact hl), Same.free k.base fa, top.stay (fun _ _ e _ => e) w fun _ e => e⟩
    · rw [jy z] at h ⊢
      obtain ⟨v', h1, h0, h2⟩ := k.own j e h
      refine ⟨v', h1, h0, ?_⟩
      cases h2 with
      | lst e2 r2 => exact .lst (s _ _ e2) ((r2.inDom.grow s).weak w2)
      | dic e2 k2 k3 r2 => exact .dic (s _ _ e2) k2 k3 ((r2.inDom.grow s).weak w2)
      | dit e2 k2 k3 r2 => exact .dit (s _ _ e2) k2 k3 ((r2.inDom.grow s).weak w2)
      | obj e2 k2 k3 r2 => exact .obj (s _ _ e2) k2 k3 ((r2.inDom.grow s).weak w2)
  · have new : ∀ (j : Nat) (e : D), env[j]? = some (.own e) → σ[j]? = some (some (.ref a)) → False := fun j e q1 q2 => by
      obtain ⟨u, q⟩ := k.there ⟨j, e, q1, q2⟩
      rw [fa] at q; cases q
    by_cases z1 : i = j
    · subst z1
      by_cases z2 : i = j'
      · exact z2
      · rw [jy z2] at h2 h4
        obtain ⟨q, _⟩ := jE h3
        cases q
        exact (new j' e' h2 h4).elim
    · rw [jy z1] at h1 h3
      by_cases z2 : i = j'
      · subst z2
        obtain ⟨q, _⟩ := jE h4
        cases q
        exact (new j e h1 h3).elim
      · rw [jy z2] at h2 h4
        exact k.dis j j' e e' b h1 h2 h3 h4
theorem Frm.set {s : Slot} (sm : Same H H1) (fresh : ∀ a d, s = .own d → v = .ref a → H a = none) : Frm env σ H (env.set i s) (σ.set i (some v)) H1 :=
  ⟨fun b o e _ => sm b o e, fun b o => by
    rcases yR o with z | ⟨d', z, z2⟩
    · exact .inl z
    · exact .inr (fresh b d' z z2), fun b e => Same.free sm e⟩
theorem Frm.sf (f : Frm env σ H env' σ' H') : ∀ a, (Sf G env σ a ∧ H a ≠ none) → Sf G env' σ' a := fun a z => ⟨fun o => (f.more a o).elim z.1.1 z.2, z.1.2⟩
theorem Frm.st (k : EnvOk K G H0 env σ H) (f : Frm env σ H env' σ' H') : Stay (fun a => Sf G env σ a ∧ H a ≠ none) H H' := fun a o e m => f.keep a o e fun ow => (m (k.mutO ow e)).1.1 ow
theorem Frm.rep (k : EnvOk K G H0 env σ H) (f : Frm env σ H env' σ' H') (r : Rep K (Sf G env σ) H v d) : Rep K (Sf G env' σ') H' v d := r.inDom.stay (f.st k) f.sf
theorem Frm.reps (k : EnvOk K G H0 env σ H) (f : Frm env σ H env' σ' H') {vs : List V} {ds : List D} (r : Reps K (Sf G env σ) H vs ds) : Reps K (Sf G env' σ') H' vs ds := r.inDom.stay (f.st k) f.sf
end
def ZW (d : D) : Slot := if J9 d = true then .own d else .shr d
theorem EnvOk.setNew {K : PySem.W.Frag} {G : Addr → Prop} {H0 H H1 : Hp} {env : Sl} {σ : L2.St} {i : Nat} {d : D} {v : V} (k : EnvOk K G H0 env σ H) (s : Same H H1) (r : Rep K (Sf G env σ) H1 v d) (nt : NewTop H v) :
    EnvOk K G H0 (env.set i (ZW d)) (σ.set i (some v)) H1 ∧ Frm env σ H (env.set i (ZW d)) (σ.set i (some v)) H1 := by
  unfold ZW
  by_cases h : J9 d = true
  · rw [if_pos h]
    obtain ⟨z, a', e', fa⟩ := k.setN (i := i) s r nt h
    refine ⟨z, .set s fun a d' _ e => ?_⟩
    rw [e] at e'; cases e'; exact fa
  · rw [if_neg h]
    exact ⟨(k.grow s).setS r, .set s fun _ _ z _ => by cases z⟩
def nxO : Sl → Res Out := fun env => .ok (.nx env)
def augI (h : Int → Int → Int) (a b : D) : Res D := match a, b with
  | .int m, .int n => .ok (.int (h m n))
  | _, _ => .stuck
def seqO (g1 g2 : Sl → Res Out) : Sl → Res Out := fun env => g1 env >>= fun o => match o with
  | .nx env' => g2 env'
  | .rt fr d => .ok (.rt fr d)
  | .bk env' => .ok (.bk env')
  | .ct env' => .ok (.ct env')
section
variable {X : Cx} {e c tg : Expr} {st : Stmt} {rest body orelse : List Stmt} {pos : Pos} {l : Lv} {f : Sl → Res D} {g g1 g2 : Sl → Res Out}
theorem j0 : DSs X [] nxO := by
 with_unfolding_all exact (PSs.imp Y8 fun E σ H ⟨G, H0, env, o, k, ef, q⟩ => by
  cases ef
  exact q σ H k (Frm.refl (Same.refl H)))
theorem Q3 {K : PySem.W.Frag} {G : Addr → Prop} {H0 H H' : Hp} {env env' : Sl} {σ σ' : L2.St} {E : Ends} {o : Out} (f : Frm env σ H env' σ' H') (q : Post K G H0 env σ H E o) : Post K G H0 env' σ' H' E o := by
  cases o with
  | nx e => exact fun σ2 H2 k2 f2 => q σ2 H2 k2 (f.trans f2)
  | bk e => exact fun σ2 H2 k2 f2 => q σ2 H2 k2 (f.trans f2)
  | ct e => exact fun σ2 H2 k2 f2 => q σ2 H2 k2 (f.trans f2)
  | rt fr d => exact q
theorem jm (h1 : DS X st g1) (h2 : DSs X rest g2) : DSs X (st :: rest) (seqO g1 g2) := by
 with_unfolding_all exact (PSs.imp (WR h1 h2) fun E σ H ⟨G, H0, env, o, k, ef, q⟩ => by
  obtain ⟨o1, e1, e2⟩ := jc ef
  refine ⟨G, H0, env, o1, k, e1, ?_⟩
  cases o1 with
  | nx env1 => exact fun σ' H' k' f' => ⟨G, H0, env1, o, k', e2, Q3 f' q⟩
  | rt fr d => cases e2; exact q
  | bk e' => cases e2; exact q
  | ct e' => cases e2; exact q)
theorem jp (h1 : DS X st g1) : DSs X [st] g1 := by
 with_unfolding_all exact (PSs.imp (Y7 h1) fun E σ H q => q)
def retO (f : Sl → Res D) : Sl → Res Out := fun env => f env >>= fun d => .ok (.rt true d)
theorem jT (h : DE X .t e f) : DS X (.Return (some e) pos) (retO f) := by
 with_unfolding_all exact (PS.imp (Y9 h) fun E σ H ⟨G, H0, env, o, k, ef, q⟩ => by
  obtain ⟨d, e1, e2⟩ := jc ef
  cases e2
  exact ⟨G, H0, env, d, k, e1, fun v H' s r nt => q v H' (k.base.trans s) (r.weak fun a z => z.2) fun _ => NewTop.grow k.base nt⟩)
def retS (f : Sl → Res D) : Sl → Res Out := fun env => f env >>= fun d => .ok (.rt false d)
theorem uM (h : DE X .s e f) : DS X (.Return (some e) pos) (retS f) := by
 with_unfolding_all exact (PS.imp (Y9 h) fun E σ H ⟨G, H0, env, o, k, ef, q⟩ => by
  obtain ⟨d, e1, e2⟩ := jc ef
  cases e2
  exact ⟨G, H0, env, d, k, e1, fun v H' s r nt => q v H' (k.base.trans s) (r.weak fun a z => z.2) fun z => by cases z⟩)
def rdO (i : Nat) : Sl → Res D := fun env => match env[i]? with
  | some (.own d) => .ok d
  | some (.shr d) => must (d.imm = true) (.ok d)
  | _ => .stuck
theorem xC (i : Nat) {x : Str} {p : Pos} (hN : X.N[i]? = some x := by rfl) (hv : Vis X.env.scope x := by first | exact Or.inl rfl | exact Or.inr (Or.inl rfl) | exact Or.inr (Or.inr rfl)) (hd : (x == ("__debug__" : Str)) = false := by decide)
    (hcd : (x == ("__classdict__" : Str)) = false := by decide) : DS X (.Return (some (.Name x p)) pos) (retO (rdO i)) := by
 with_unfolding_all exact (PS.imp (Y9 (wf hN hv hd hcd)) fun E σ H ⟨G, H0, env, o, k, ef, q⟩ => by
  obtain ⟨d, e1, e2⟩ := jc ef
  cases e2
  unfold rdO at e1
  split at e1
  · rename_i d' hs
    cases e1
    obtain ⟨a, h1, h0, h2⟩ := k.own i d hs
    refine ⟨.ref a, h1, q _ H k.base (h2.rep (fun c z => ⟨z.2, Q2 k hs h1 c z⟩) (k.g0 a h0)) fun _ b e o' q' => ?_⟩
    cases e
    rw [h0] at q'; cases q'
  · rename_i d' hs
    obtain ⟨hm, e3⟩ := jB e1
    cases e3
    obtain ⟨v, h1, h2⟩ := k.shr i d hs
    exact ⟨v, h1, q v H k.base (h2.imm hm) fun _ => uw k.base h2 hm⟩
  · cases e1)
def ifO (t : Sl → Res Bool) (g1 g2 : Sl → Res Out) : Sl → Res Out := fun env => t env >>= fun b => if b = true then g1 env else g2 env
theorem zY {t : Sl → Res Bool} (hc : DT X c t) (h1 : DSs X body g1) (h2 : DSs X orelse g2) : DS X (.If c body orelse pos) (ifO t g1 g2) := by
 with_unfolding_all exact (PS.imp (jaw hc h1 h2) fun E σ H ⟨G, H0, env, o, k, ef, q⟩ => by
  obtain ⟨b, e1, e2⟩ := jc ef
  refine ⟨G, H0, env, b, k, e1, fun H' s => ?_⟩
  cases b with
  | true => rw [if_pos rfl] at e2 ⊢; exact ⟨G, H0, env, o, k.grow s, e2, Q3 (Frm.refl s) q⟩
  | false => rw [if_neg Bool.false_ne_true] at e2 ⊢; exact ⟨G, H0, env, o, k.grow s, e2, Q3 (Frm.refl s) q⟩)
def setO (i : Nat) (f : Sl → Res D) : Sl → Res Out := fun env => f env >>= fun d => .ok (.nx (env.set i (ZW d)))
theorem w4 (i : Nat) {x : Str} {pos' : Pos} (hN : X.N.Nodup) (h : DE X .t e f) (hi : X.N[i]? = some x := by rfl) (hx : Loc X.env.scope x := by first | exact Or.inl rfl | exact Or.inr rfl) (hs : swapsWith e (some (.Name x pos')) pos.line X.env = pure false := by rfl)
    (hf : X.fn x = true ∨ X.env.scope.names.lookup x = some .local := by first | exact .inl rfl | exact .inr rfl | assumption) : DS X (.Assign [.Name x pos'] e pos) (setO i f) := by
 with_unfolding_all exact (
  PS.imp (kT (i := i) hN hi hx h hs hf) fun E σ H ⟨G, H0, env, o, k, ef, q⟩ => by
    obtain ⟨d, e1, e2⟩ := jc ef
    cases e2
    exact ⟨G, H0, env, d, k, e1, fun v H' s r nt => q _ H' (k.setNew s r nt).1 (k.setNew s r nt).2⟩)
def qg (i : Nat) (f : Sl → Res D) : Sl → Res Out := fun env => f env >>= fun d => .ok (.nx (env.set i (.shr d)))
theorem qa (i : Nat) {x : Str} {pos' : Pos} (hN : X.N.Nodup) (h : DE X .s e f) (hi : X.N[i]? = some x := by rfl) (hx : Loc X.env.scope x := by first | exact Or.inl rfl | exact Or.inr rfl) (hs : swapsWith e (some (.Name x pos')) pos.line X.env = pure false := by rfl)
    (hf : X.fn x = true ∨ X.env.scope.names.lookup x = some .local := by first | exact .inl rfl | exact .inr rfl | assumption) : DS X (.Assign [.Name x pos'] e pos) (qg i f) := by
 with_unfolding_all exact (
  PS.imp (kT (i := i) hN hi hx h hs hf) fun E σ H ⟨G, H0, env, o, k, ef, q⟩ => by
    obtain ⟨d, e1, e2⟩ := jc ef
    cases e2
    exact ⟨G, H0, env, d, k, e1, fun v H' s r _ => q _ H' ((k.grow s).setS r) (.set s fun _ _ z _ => by cases z)⟩)
theorem vo (i : Nat) {x : Str} {pos' : Pos} {op : Operator} {h : Int → Int → Int} (hN : X.N.Nodup) (he : DE X l e f) (ho : PIp X op (ipI h)) (hi : X.N[i]? = some x := by rfl) (hx : Loc X.env.scope x := by first | exact Or.inl rfl | exact Or.inr rfl)
    (hf : X.fn x = true ∨ X.env.scope.names.lookup x = some .local := by first | exact .inl rfl | exact .inr rfl | assumption) :
    DS X (.AugAssign (.Name x pos') op e pos) (qg i (two (rdS i) f (augI h))) := by
 with_unfolding_all exact (
  PS.imp (jaz (i := i) hN hi hx he ho hf) fun E σ H ⟨G, H0, env, o, k, ef, q⟩ => by
    obtain ⟨d, e1, e2⟩ := jc ef
    obtain ⟨a, e3, e4⟩ := jc e1
    obtain ⟨b, e5, e6⟩ := jc e4
    cases e2
    obtain ⟨v, h1, h2⟩ := k.shr i a (Y4 e3)
    refine ⟨v, h1, G, H0, env, b, k, e5, fun w H' s r _ => ?_⟩
    cases a with
    | int m =>
      cases b with
      | int n =>
        cases e6
        cases h2.intE
        cases r.intE
        exact ⟨m, n, rfl, rfl, q _ H' ((k.grow s).setS (.int _)) (.set s fun _ _ z _ => by cases z)⟩
      | _ => cases e6
    | _ => cases e6)
end
end M
namespace M
open PySem PySem.Spec L2
open PyProof.Rows hiding St
def Its (x : Str) : It := ⟨fun i _ => i < x.cps.size, fun i H v H' => H' = H ∧ ∃ c, x.cps[i]? = some c ∧ v = .str ⟨#[c]⟩, fun i _ => x.cps.size ≤ i⟩
theorem XV {P : Program} {w : World} {K : PySem.W.Frag} {tg : Expr} (it : Addr) (x : Str) (t : Tok) : Turn P w K tg (Its x) [it] it (fun i h => h.IsStrIter it "str_ascii_iterator" x t i) where
  mem := by simp
  obj := fun i h st b hb => by
    have e : b = it := by simpa using hb
    subst e
    obtain ⟨o, e, c, d⟩ := st
    exact ⟨o, e, fun v z => by rw [d] at z; cases z⟩
  keep := fun i h h' st k => let ⟨o, ho, r⟩ := st; ⟨o, k it (by simp) o ho, r⟩
  item := by
    intro X hP hw hK hc i pins s σ H E I hf st hg
    subst hP hw hK
    have hi : i < x.cps.size := hg
    obtain ⟨f0, f1, f2, f3, f4, f5⟩ := hf it (by simp)
    refine wpAny_pyNext_ascii_item st (c := x.cps[i]) (by simp [hi]) fun h' st' sb => ?_
    have I1 : Inv X pins σ H { s with heap := h', toks := s.toks + 1 } := I.turned (fun b o hb e => (sb.2 b hb).trans e) f0 f1 f3 f4 f5
    obtain ⟨o, e, c, d⟩ := id st'
    exact ⟨_, rfl, Va (s := { s with heap := h', toks := s.toks + 1 }) e c d (by decide) ⟨.str ⟨#[x.cps[i]]⟩, H, I1, ⟨_, rfl⟩, ⟨rfl, _, by simp [hi], rfl⟩, st', fun b hb => (hf b hb).1⟩⟩
  done := by
    intro X hP hw hK hc i pins s σ H E I hf st hg
    subst hP hw hK
    have hi : x.cps.size ≤ i := hg
    obtain ⟨f0, f1, f2, f3, f4, f5⟩ := hf it (by simp)
    exact wpAny_pyNext_ascii_end (I.ok.hd hc) st (by simp; exact hi) fun h' eb => ⟨rfl, I.turned (t' := s.toks) (fun b o hb e => eb b o hb e) f0 f1 f3 f4 f5⟩
  self := fun _ _ _ _ _ st h => wpAny_pyIter_striter_ascii st h
theorem YM {P : Program} {w : World} {K : PySem.W.Frag} {tg : Expr} (it : Addr) (x : Str) (t : Tok) : Turn P w K tg (Its x) [it] it (fun i h => h.IsStrIter it "str_iterator" x t i) where
  mem := by simp
  obj := fun i h st b hb => by
    have e : b = it := by simpa using hb
    subst e
    obtain ⟨o, e, c, d⟩ := st
    exact ⟨o, e, fun v z => by rw [d] at z; cases z⟩
  keep := fun i h h' st k => let ⟨o, ho, r⟩ := st; ⟨o, k it (by simp) o ho, r⟩
  item := by
    intro X hP hw hK hc i pins s σ H E I hf st hg
    subst hP hw hK
    have hi : i < x.cps.size := hg
    obtain ⟨f0, f1, f2, f3, f4, f5⟩ := hf it (by simp)
    refine wpAny_pyNext_wide_item st (c := x.cps[i]) (by simp [hi]) fun h' st' sb => ?_
    have I1 : Inv X pins σ H { s with heap := h', toks := s.toks + 1 } := I.turned (fun b o hb e => (sb.2 b hb).trans e) f0 f1 f3 f4 f5
    obtain ⟨o, e, c, d⟩ := id st'
    exact ⟨_, rfl, Va (s := { s with heap := h', toks := s.toks + 1 }) e c d (by decide) ⟨.str ⟨#[x.cps[i]]⟩, H, I1, ⟨_, rfl⟩, ⟨rfl, _, by simp [hi], rfl⟩, st', fun b hb => (hf b hb).1⟩⟩
  done := by
    intro X hP hw hK hc i pins s σ H E I hf st hg
    subst hP hw hK
    have hi : x.cps.size ≤ i := hg
    obtain ⟨f0, f1, f2, f3, f4, f5⟩ := hf it (by simp)
    exact wpAny_pyNext_wide_end (I.ok.hd hc) st (by simp; exact hi) fun h' eb => ⟨rfl, I.turned (t' := s.toks) (fun b o hb e => eb b o hb e) f0 f1 f3 f4 f5⟩
  self := fun _ _ _ _ _ st h => wpAny_pyIter_striter_wide st h
def Walk (J : It) (xs : List V) (P : Hp → Prop) : Prop := ∀ i H, P H → (i < xs.length → J.go i H) ∧ (i < xs.length → ∀ x H', J.yld i H x H' → H' = H ∧ xs[i]? = some x) ∧ (xs.length ≤ i → J.stop i H)
def Yd (K : PySem.W.Frag) (A : Addr → Prop) (H1 H H' : Hp) (x : V) (d : D) : Prop :=
  (H' = H ∧ Rep K A H1 x d) ∨ ∃ p vs es, H p = none ∧ x = .ref p ∧ H' = L2.upd H p (.tup vs) ∧ d = .tup es ∧ Reps K A H1 vs es
def u7 (K : PySem.W.Frag) (A : Addr → Prop) (H1 : Hp) (J : It) (ds : List D) (P : Hp → Prop) : Prop := ∀ i H, P H → (i < ds.length → J.go i H) ∧ (∀ d, ds[i]? = some d → ∀ x H', J.yld i H x H' → Yd K A H1 H H' x d) ∧ (ds.length ≤ i → J.stop i H)
theorem Walk.toD {K : PySem.W.Frag} {A : Addr → Prop} {H1 : Hp} {J : It} {xs : List V} {ds : List D} {P : Hp → Prop} (rs : Reps K A H1 xs ds) (w : Walk J xs P) : u7 K A H1 J ds P := fun i H p => by
  have hl := rs.length
  obtain ⟨w1, w2, w3⟩ := w i H p
  refine ⟨fun h => w1 (by omega), fun d hd x H' y => ?_, fun h => w3 (by omega)⟩
  have hi : i < ds.length := (List.getElem?_eq_some_iff.mp hd).1
  obtain ⟨e, hx⟩ := w2 (by omega) x H' y
  obtain ⟨d', hd', r⟩ := rs.get' hx
  rw [hd] at hd'; cases hd'
  exact .inl ⟨e, r⟩
def tI (K : PySem.W.Frag) (f : Sl → Res (List D)) : TI := fun σ H R => ∃ G H0 env ds, EnvOk K G H0 env σ H ∧ f env = .ok ds ∧
  ∀ J H1 P, Same H H1 → u7 K (Sf G env σ) H1 J ds P → P H1 → (∀ env' σ' H', Frm env σ H1 env' σ' H' → P H') → R J H1
@[irreducible] def DI (X : Cx) (tg e : Expr) (f : Sl → Res (List D)) : Prop := PI X tg e (tI X.K f)
def Js (z : Str) : List D := z.cps.toList.map fun c => .str ⟨#[c]⟩
def UI : D → Res (List D)
  | .lst ds => .ok ds
  | .scr ds => .ok ds
  | .tup ds => .ok ds
  | .str z => .ok (Js z)
  | _ => .stuck
def XY (z : Str) : List V := z.cps.toList.map fun c => .str ⟨#[c]⟩
theorem YW {K : PySem.W.Frag} {A : Addr → Prop} {H : Hp} (z : Str) : Reps K A H (XY z) (Js z) := by
  unfold XY Js
  generalize z.cps.toList = l
  induction l with
  | nil => exact .nil
  | cons c r ih => exact .cons (.str _ (ue c)) ih
section
variable {X : Cx} {tg e : Expr} {f : Sl → Res D} {l : Lv}
def itF (f : Sl → Res D) : Sl → Res (List D) := fun env => f env >>= UI
theorem zg (h : DE X .s e f) : DI X tg e (itF f) := by
 with_unfolding_all exact (by
  intro pins s σ H R I ⟨G, H0, env, ds, k, ef, q⟩
  obtain ⟨d, e1, e2⟩ := jc ef
  refine thn (h pins s σ H (fun v H1 => Same H H1 ∧ Rep X.K (Sf G env σ) H1 v d) I ⟨G, H0, env, d, k, e1, fun v H' s r _ => ⟨s, r⟩⟩) fun v s1 ⟨x, H1, I1, r1, sm, rep⟩ => ?_
  have k1 := k.grow sm
  cases d with
  | lst ds' =>
    cases e2
    obtain ⟨a, xs, rfl, ha, na, rs⟩ := rep.lstE
    cases r1
    obtain ⟨its, rv, p, hz⟩ := I1.list (.of ha)
    refine wpAny_pyIter_list p.isList ?_
    refine ⟨s1.heap.objs.size, [s1.heap.objs.size], _, _, H1, rfl, I1.kept (t' := s1.toks) fun b o e => Heap.get?_push_of_some _ e, QM a _, ⟨_, Heap.get?_push_size _ rfl, rfl, rfl⟩, fun b hb => ?_, ?_⟩
    · have e : b = s1.heap.objs.size := by simpa using hb
      subst e
      exact I1.fpOk (Nat.le_refl _) (I1.hok.fresh (Nat.le_refl _))
    · refine q _ H1 (fun H => H a = some (.lst xs)) sm (Walk.toD rs.low fun i H' p => ?_) ha (fun env' σ' H' fr => fr.keep a _ ha na.1)
      exact ⟨fun hi => ⟨xs, xs[i], .of p, by simp [hi]⟩, fun _ x H' y => ⟨y.1, y.2 xs (.of p)⟩, fun hi => ⟨xs, .of p, hi⟩⟩
  | scr ds' =>
    cases e2
    obtain ⟨a, xs, rfl, ha, rs⟩ := rep.scrE
    cases r1
    obtain ⟨its, rv, p, hz⟩ := I1.list ha.sql
    refine wpAny_pyIter_list p.isList ?_
    refine ⟨s1.heap.objs.size, [s1.heap.objs.size], _, _, H1, rfl, I1.kept (t' := s1.toks) fun b o e => Heap.get?_push_of_some _ e, QM a _, ⟨_, Heap.get?_push_size _ rfl, rfl, rfl⟩, fun b hb => ?_, ?_⟩
    · have e : b = s1.heap.objs.size := by simpa using hb
      subst e
      exact I1.fpOk (Nat.le_refl _) (I1.hok.fresh (Nat.le_refl _))
    · refine q _ H1 (fun H => LsK X.K H a xs) sm (Walk.toD rs fun i H' p => ?_) ha (fun env' σ' H' fr => ?_)
      · exact ⟨fun hi => ⟨xs, xs[i], p.sql, by simp [hi]⟩, fun _ x H' y => ⟨y.1, y.2 xs p.sql⟩, fun hi => ⟨xs, p.sql, hi⟩⟩
      · rcases ha with ⟨o, eo⟩ | z
        · exact .inl ⟨o, fr.keep a _ eo fun ow => (k1.mutO ow eo).elim⟩
        · exact .inr z
  | tup ds' =>
    cases e2
    obtain ⟨a, xs, rfl, ha, rs⟩ := rep.tupE
    cases r1
    obtain ⟨its, rv, p, hz⟩ := I1.tuple (.of ha)
    refine wpAny_pyIter_tuple (show s1.heap.IsTuple a its.toArray from p) ?_
    refine ⟨s1.heap.objs.size, [s1.heap.objs.size], _, _, H1, rfl, I1.kept (t' := s1.toks) fun b o e => Heap.get?_push_of_some _ e, XS a _, ⟨_, Heap.get?_push_size _ rfl, rfl, rfl⟩, fun b hb => ?_, ?_⟩
    · have e : b = s1.heap.objs.size := by simpa using hb
      subst e
      exact I1.fpOk (Nat.le_refl _) (I1.hok.fresh (Nat.le_refl _))
    · refine q _ H1 (fun H => H a = some (.tup xs)) sm (Walk.toD rs fun i H' p => ?_) ha (fun env' σ' H' fr => fr.keep a _ ha fun ow => (k1.mutO ow ha).elim)
      exact ⟨fun hi => ⟨xs, xs[i], .of p, by simp [hi]⟩, fun _ x H' y => ⟨y.1, y.2 xs (.of p)⟩, fun hi => ⟨xs, .of p, hi⟩⟩
  | str z =>
    cases e2
    obtain ⟨rfl, hz⟩ := rep.strE
    obtain ⟨t, rfl⟩ := r1
    have fin : ∀ (J : It) , J = Its z → ∃ (xs : List V) (P : Hp → Prop), Reps X.K (Sf G env σ) H1 xs (Js z) ∧ Walk J xs P ∧ P H1 ∧ ∀ env' σ' H', Frm env σ H1 env' σ' H' → P H' := by
      rintro J rfl
      refine ⟨XY z, fun _ => True, YW z, fun i H' _ => ?_, trivial, fun _ _ _ _ => trivial⟩
      have hl : (XY z).length = z.cps.size := by simp [XY]
      refine ⟨fun hi => by rw [hl] at hi; exact hi, fun hi x H2 y => ?_, fun hi => by rw [hl] at hi; exact hi⟩
      obtain ⟨y1, c, y2, y3⟩ := y
      refine ⟨y1, ?_⟩
      subst y3
      simp [XY, y2]
    obtain ⟨xs, P, h1, h2, h3, h4⟩ := fin (Its z) rfl
    cases hall : z.cps.all (· < 128) with
    | true =>
      refine wpAny_pyIter_ascii hall ?_
      refine ⟨s1.heap.objs.size, [s1.heap.objs.size], _, _, H1, rfl, I1.kept (t' := s1.toks) fun b o e => Heap.get?_push_of_some _ e, XV _ z t, ⟨_, Heap.get?_push_size _ rfl, rfl, rfl⟩, fun b hb => ?_, q _ H1 P sm (Walk.toD h1 h2) h3 h4⟩
      have e : b = s1.heap.objs.size := by simpa using hb
      subst e
      exact I1.fpOk (Nat.le_refl _) (I1.hok.fresh (Nat.le_refl _))
    | false =>
      refine wpAny_pyIter_wide hall ?_
      refine ⟨s1.heap.objs.size, [s1.heap.objs.size], _, _, H1, rfl, I1.kept (t' := s1.toks) fun b o e => Heap.get?_push_of_some _ e, YM _ z t, ⟨_, Heap.get?_push_size _ rfl, rfl, rfl⟩, fun b hb => ?_, q _ H1 P sm (Walk.toD h1 h2) h3 h4⟩
      have e : b = s1.heap.objs.size := by simpa using hb
      subst e
      exact I1.fpOk (Nat.le_refl _) (I1.hok.fresh (Nat.le_refl _))
  | _ => cases e2)
def wA (lo : Int) (n : Nat) : List D := (List.range n).map fun (i : Nat) => .int (lo + (i : Int))
def Yj (lo : Int) (n : Nat) : List V := (List.range n).map fun (i : Nat) => .int (lo + (i : Int))
theorem KW {K : PySem.W.Frag} {A : Addr → Prop} {H : Hp} (lo : Int) (n : Nat) : Reps K A H (Yj lo n) (wA lo n) := by
  unfold Yj wA
  generalize List.range n = l
  induction l with
  | nil => exact .nil
  | cons c r ih => exact .cons (.int _) ih
theorem XR (lo : Int) (n : Nat) : Walk (Itr lo n) (Yj lo n) (fun _ => True) := fun i H _ => by
  have hl : (Yj lo n).length = n := by simp [Yj]
  refine ⟨fun hi => by rw [hl] at hi; exact hi, fun hi x H2 y => ?_, fun hi => by rw [hl] at hi; exact hi⟩
  obtain ⟨y1, y2⟩ := y
  refine ⟨y1, ?_⟩
  subst y2
  rw [hl] at hi
  simp [Yj, hi]
def rng1 : List D → Res (List D)
  | [.int j] => must (-(2 ^ 62) ≤ j ∧ j < 2 ^ 62) (.ok (wA 0 j.toNat))
  | _ => .stuck
theorem Reps.one {K : PySem.W.Frag} {A : Addr → Prop} {H : Hp} {vs : List V} {d : D} (r : Reps K A H vs [d]) : ∃ v, vs = [v] ∧ Rep K A H v d := by
  cases r with
  | cons h t => cases t; exact ⟨_, rfl, h⟩
theorem Reps.two {K : PySem.W.Frag} {A : Addr → Prop} {H : Hp} {vs : List V} {d d' : D} (r : Reps K A H vs [d, d']) : ∃ v v', vs = [v, v'] ∧ Rep K A H v d ∧ Rep K A H v' d' := by
  cases r with
  | cons h t =>
    obtain ⟨v', rfl, h'⟩ := t.one
    exact ⟨_, _, rfl, h, h'⟩
theorem PI.imp {t t' : TI} (h : PI X tg e t) (w : ∀ σ H Q, t' σ H Q → t σ H Q) : PI X tg e t' := fun pins s σ H Q I q => h pins s σ H Q I (w σ H Q q)
def rngF (fa : Sl → Res (List D)) : Sl → Res (List D) := fun env => fa env >>= rng1
theorem w9 {a : Expr} {p pos : Pos} {fa : Sl → Res (List D)} (hg : Gl X "range") (hm : X.mg "range" = none) (ha : DA X l [a] fa) (hs : starEach [a] X.env = [(false, eval a X.env)] := by rfl) : DI X tg (.Call (.Name "range" p) [a] [] pos) (rngF fa) := by
 with_unfolding_all exact (
  PI.imp (Kf hg hm ha hs) fun σ H R ⟨G, H0, env, ds, k, ef, q⟩ => by
    obtain ⟨as, e1, e2⟩ := jc ef
    refine ⟨G, H0, env, as, k, e1, fun vs H1 s1 r1 => ?_⟩
    unfold rng1 at e2
    split at e2
    · obtain ⟨⟨h1, h2⟩, e3⟩ := jB e2
      cases e3
      obtain ⟨v, rfl, r⟩ := r1.one
      cases r.intE
      exact ⟨_, rfl, h1, h2, q _ H1 _ s1 (Walk.toD (KW 0 _) (XR 0 _)) trivial fun _ _ _ _ => trivial⟩
    · cases e2)
def tG (K : PySem.W.Frag) (t : D → Sl → Res Sl) : TG := fun v σ H Q => ∃ G H0 env d env', EnvOk K G H0 env σ H ∧ Rep K (Sf G env σ) H v d ∧ t d env = .ok env' ∧ ∀ σ', EnvOk K G H0 env' σ' H → Frm env σ H env' σ' H → Q σ' H
@[irreducible] def DG (X : Cx) (tg : Expr) (t : D → Sl → Res Sl) : Prop := PG X tg (tG X.K t)
theorem PG.imp {t t' : TG} (h : PG X tg t) (w : ∀ v σ H Q, t' v σ H Q → t v σ H Q) : PG X tg t' := fun pins s σ H v u Q I r q => h pins s σ H v u Q I r (w v σ H Q q)
def gN (i : Nat) : D → Sl → Res Sl := fun d env => .ok (env.set i (.shr d))
theorem ju (i : Nat) {x : Str} {pos : Pos} (hN : X.N.Nodup) (hi : X.N[i]? = some x := by rfl) (hx : Loc X.env.scope x := by first | exact Or.inl rfl | exact Or.inr rfl)
    (hf : X.fn x = true ∨ X.env.scope.names.lookup x = some .local := by first | exact .inl rfl | exact .inr rfl | assumption) : DG X (.Name x pos) (gN i) := by
 with_unfolding_all exact (
  PG.imp (vV hN hi hx hf) fun v σ H Q ⟨G, H0, env, d, env', k, r, e, q⟩ => by
    cases e
    exact q _ (k.setS r) (.set (Same.refl H) fun _ _ z _ => by cases z))
def g2 (t u : D → Sl → Res Sl) : D → Sl → Res Sl := fun d env => match d with
  | .tup [x, y] => t x env >>= fun env' => u y env'
  | _ => .stuck
theorem zm {a b : Expr} {k : Nat} {pos : Pos} {t u : D → Sl → Res Sl} (hc : X.calm = true) (h1 : DG X a t) (h2 : DG X b u)
    (hs : (assignEach [a, b] X.env).map (·.2) = assign a X.env :: (assignEach [b] X.env).map (·.2) := by rfl) (hs2 : (assignEach [b] X.env).map (·.2) = assign b X.env :: (assignEach [] X.env).map (·.2) := by rfl)
    (hn : (assignEach [a, b] X.env).length = 2 := by rfl) (hst : (assignEach [a, b] X.env).findIdx? (·.1) = none := by rfl) : DG X (.Tuple [a, b] k pos) (g2 t u) := by
 with_unfolding_all exact (
  PG.imp (jaC (n := 2) hc (WW h1 (WW h2 vU hs2) hs) hn hst) fun v σ H Q ⟨G, H0, env, d, env', k, r, e, q⟩ => by
    unfold g2 at e
    split at e
    · obtain ⟨env1, e1, e2⟩ := jc e
      obtain ⟨a, xs, rfl, ha, rs⟩ := r.tupE
      obtain ⟨v1, v2, rfl, r1, r2⟩ := rs.two
      refine ⟨a, _, rfl, .of ha, rfl, v1, [v2], rfl, G, H0, env, _, env1, k, r1, e1, fun σ1 k1 f1 => ⟨v2, [], rfl, G, H0, env1, _, env', k1, f1.rep k r2, e2, fun σ2 k2 f2 => ⟨rfl, q σ2 k2 (f1.trans f2)⟩⟩⟩
    · cases e)
def asgO (f : Sl → Res D) (t : D → Sl → Res Sl) : Sl → Res Out := fun env => f env >>= fun d => t d env >>= fun env' => .ok (.nx env')
theorem JS {pos : Pos} {t : D → Sl → Res Sl} (he : DE X .s e f) (hg : DG X tg t) (hs : swapsWithSole [tg] e pos.line X.env = pure false := by rfl) (hw : swappedStores [tg] e X.env = pure none := by rfl)
    (h1 : (assignEach [tg] X.env).map (·.2) = [assign tg X.env] := by rfl) : DS X (.Assign [tg] e pos) (asgO f t) := by
 with_unfolding_all exact (
  PS.imp (jaA he hg hs hw h1) fun E σ H ⟨G, H0, env, o, k, ef, q⟩ => by
    obtain ⟨d, e1, e2⟩ := jc ef
    obtain ⟨env', e3, e4⟩ := jc e2
    cases e4
    exact ⟨G, H0, env, d, k, e1, fun v H' s r _ => ⟨G, H0, env, d, env', k.grow s, r, e3, fun σ' k' f' => q σ' H' k' (f'.grow s)⟩⟩)
def forD (body : D → Sl → Res Out) : List D → Sl → Res Out
  | [], env => .ok (.nx env)
  | d :: ds, env => body d env >>= fun o => match o with
    | .nx env' => forD body ds env'
    | .ct env' => forD body ds env'
    | .bk env' => .ok (.nx env')
    | .rt fr d => .ok (.rt fr d)
def qk (t : D → Sl → Res Sl) (g : Sl → Res Out) : D → Sl → Res Out := fun d env => t d env >>= g
def forO (f : Sl → Res (List D)) (t : D → Sl → Res Sl) (g : Sl → Res Out) : Sl → Res Out := fun env => f env >>= fun ds => forD (qk t g) ds env
theorem zl {pos : Pos} {body : List Stmt} {fi : Sl → Res (List D)} {t : D → Sl → Res Sl} {g : Sl → Res Out} (hp : PassesOwn (model X.prog X.w) X.A X.env X.xe) (hc : X.calm = true) (hi : DI X tg e fi) (hg : DG X tg t) (hb : DSs X body g)
    (hs : ∀ x, foldedSetIterable e X.env x = pure x := by intro _; rfl) : DS X (.For tg e body [] pos) (forO fi t g) := by
 with_unfolding_all exact (
  PS.imp (jax hp hc hi hg hb hs) fun E σ H ⟨G, H0, env, o, k, ef, q⟩ => by
    obtain ⟨ds, e1, e2⟩ := jc ef
    refine ⟨G, H0, env, ds, k, e1, fun J H1 P sm wk p0 pst => ?_⟩
    have k1 := k.grow sm
    have q1 : Post X.K G H0 env σ H1 E o := Q3 (Frm.refl sm) q
    refine ⟨fun i m σ' H' => m = ds.length - i ∧ i ≤ ds.length ∧ ∃ env', EnvOk X.K G H0 env' σ' H' ∧ Frm env σ H1 env' σ' H' ∧ forD (qk t g) (ds.drop i) env' = .ok o, ⟨ds.length, by simp, Nat.zero_le _, env, k1, Frm.refl (Same.refl H1), by simpa using e2⟩, ?_⟩
    rintro i m σ' H' ⟨rfl, hi, env', k', f', e'⟩
    obtain ⟨w1, w2, w3⟩ := wk i H' (pst env' σ' H' f')
    by_cases hd : i < ds.length
    · refine .inr ⟨w1 hd, ?_⟩
      rw [List.drop_eq_getElem_cons hd] at e'
      obtain ⟨o1, e3, e4⟩ := jc e'
      obtain ⟨env1, e5, e6⟩ := jc e3
      refine ⟨fun σ2 H2 => ds.length - (i + 1) = ds.length - (i + 1) ∧ i + 1 ≤ ds.length ∧ ∃ env2, EnvOk X.K G H0 env2 σ2 H2 ∧ Frm env σ H1 env2 σ2 H2 ∧ forD (qk t g) (ds.drop (i + 1)) env2 = .ok o, fun σ2 H2 z => ⟨ds.length - (i + 1), by omega, z⟩, fun x H2 y => ?_⟩
      obtain ⟨sm2, rd⟩ : Same H' H2 ∧ Rep X.K (Sf G env' σ') H2 x ds[i] := by
        rcases w2 _ (List.getElem?_eq_getElem hd) x H2 y with ⟨rfl, rd⟩ | ⟨p, vs, es, hp, rfl, rfl, ed, rds⟩
        · exact ⟨Same.refl _, f'.rep k1 rd⟩
        · refine ⟨Same.upd hp, ?_⟩
          rw [ed]
          exact .tup jA ((f'.reps k1 rds).grow (Same.upd hp))
      refine ⟨G, H0, env', ds[i], env1, k'.grow sm2, rd, e5, fun σ1 kk1 ff1 => ⟨G, H0, env1, o1, kk1, e6, ?_⟩⟩
      have fr1 := (f'.trans (Frm.refl sm2)).trans ff1
      cases o1 with
      | nx env2 => exact fun σ2 H3 kk2 ff2 => ⟨rfl, hd, env2, kk2, fr1.trans ff2, e4⟩
      | ct env2 => exact fun σ2 H3 kk2 ff2 => ⟨rfl, hd, env2, kk2, fr1.trans ff2, e4⟩
      | bk env2 => cases e4; exact fun σ2 H3 kk2 ff2 => q1 σ2 H3 kk2 (fr1.trans ff2)
      | rt fr dd => cases e4; exact q1
    · have he : i = ds.length := by omega
      refine .inl ⟨w3 (by omega), ?_⟩
      rw [List.drop_eq_nil_of_le (by omega)] at e'
      cases e'
      exact q1 σ' H' k' f')
def zk (n : Nat) (t : Sl → Res Bool) (g : Sl → Res Out) : Sl → Res Out := fun env => match n with
  | 0 => .stuck
  | n + 1 => t env >>= fun b => if b = true then g env >>= fun o => match o with
      | .nx env' => zk n t g env'
      | .ct env' => zk n t g env'
      | .bk env' => .ok (.nx env')
      | .rt fr d => .ok (.rt fr d)
    else .ok (.nx env)
theorem kg (n : Nat) {pos : Pos} {c : Expr} {body : List Stmt} {t : Sl → Res Bool} {g : Sl → Res Out} (hp : PassesOwn (model X.prog X.w) X.A X.env X.xe) (hc : DT X c t) (hb : DSs X body g) : DS X (.While c body [] pos) (zk n t g) := by
 with_unfolding_all exact (
  PS.imp (Uf hp hc hb) fun E σ H ⟨G, H0, env, o, k, ef, q⟩ => by
    refine ⟨fun m σ' H' => ∃ env', EnvOk X.K G H0 env' σ' H' ∧ Frm env σ H env' σ' H' ∧ zk m t g env' = .ok o, ⟨n, env, k, Frm.refl (Same.refl H), ef⟩, ?_⟩
    rintro m σ' H' ⟨env', k', f', e'⟩
    cases m with
    | zero => cases e'
    | succ m =>
      obtain ⟨b, e1, e2⟩ := jc e'
      refine ⟨G, H0, env', b, k', e1, fun H1 s1 => ?_⟩
      cases b with
      | false =>
        rw [if_neg Bool.false_ne_true] at e2 ⊢
        cases e2
        exact q σ' H1 (k'.grow s1) (f'.trans (Frm.refl s1))
      | true =>
        rw [if_pos rfl] at e2 ⊢
        obtain ⟨o1, e3, e4⟩ := jc e2
        refine ⟨fun σ2 H2 => ∃ env2, EnvOk X.K G H0 env2 σ2 H2 ∧ Frm env σ H env2 σ2 H2 ∧ zk m t g env2 = .ok o, fun σ2 H2 z => ⟨m, Nat.lt_succ_self m, z⟩, G, H0, env', o1, k'.grow s1, e3, ?_⟩
        have fr1 := f'.trans (Frm.refl s1)
        cases o1 with
        | nx env2 => exact fun σ2 H3 kk2 ff2 => ⟨env2, kk2, fr1.trans ff2, e4⟩
        | ct env2 => exact fun σ2 H3 kk2 ff2 => ⟨env2, kk2, fr1.trans ff2, e4⟩
        | bk env2 => cases e4; exact fun σ2 H3 kk2 ff2 => q σ2 H3 kk2 (fr1.trans ff2)
        | rt fr dd => cases e4; exact q)
end
def frz (i : Nat) (env : Sl) : Sl := match env[i]? with
  | some (.own d) => env.set i (.shr d)
  | _ => env
theorem Q1 {i : Nat} {env : Sl} {σ : L2.St} {a : Addr} (h : zM (frz i env) σ a) : zM env σ a := by
  unfold frz at h
  split at h
  · rename_i d hd
    obtain ⟨j, e, h1, h2⟩ := h
    by_cases z : i = j
    · subst z
      obtain ⟨q, _⟩ := jE h1
      cases q
    · rw [jy z] at h1
      exact ⟨j, e, h1, h2⟩
  · exact h
theorem EnvOk.frz {K : PySem.W.Frag} {G : Addr → Prop} {H0 H : Hp} {env : Sl} {σ : L2.St} (i : Nat) (k : EnvOk K G H0 env σ H) : EnvOk K G H0 (frz i env) σ H := by
  have w : ∀ a, Sf G env σ a → Sf G (M.frz i env) σ a := fun a n => ⟨fun o => n.1 (Q1 o), n.2⟩
  cases hi : env[i]? with
  | none => have e : M.frz i env = env := by unfold M.frz; rw [hi]
            rw [e]; exact k
  | some s =>
    cases s with
    | un => have e : M.frz i env = env := by unfold M.frz; rw [hi]
            rw [e]; exact k
    | shr d => have e : M.frz i env = env := by unfold M.frz; rw [hi]
               rw [e]; exact k
    | own d =>
      have e : M.frz i env = env.set i (.shr d) := by unfold M.frz; rw [hi]
      obtain ⟨a, h1, h0, h2⟩ := k.own i d hi
      have na : NotO (M.frz i env) σ a := by
        rintro ⟨j, d', q1, q2⟩
        rw [e] at q1
        by_cases z : i = j
        · subst z
          obtain ⟨q, _⟩ := jE q1
          cases q
        · rw [jy z] at q1
          exact z (k.dis i j d d' a hi q1 h1 q2)
      rw [e] at w na ⊢
      refine ⟨by simp [k.len], k.base, k.g0, fun j d' h => ?_, fun j d' h => ?_, fun j j' d1 d2 b q1 q2 q3 q4 => ?_⟩
      · by_cases z : i = j
        · subst z
          obtain ⟨q, hl⟩ := jE h
          cases q
          exact ⟨_, h1, h2.rep (fun c z => ⟨w c z, Q2 k hi h1 c z⟩) ⟨na, k.g0 a h0⟩⟩
        · rw [jy z] at h
          obtain ⟨v', g1, g2⟩ := k.shr j d' h
          exact ⟨v', g1, g2.weak w⟩
      · by_cases z : i = j
        · subst z
          obtain ⟨q, hl⟩ := jE h
          cases q
        · rw [jy z] at h
          obtain ⟨v', g1, g0, g2⟩ := k.own j d' h
          exact ⟨v', g1, g0, g2.stay (fun _ _ e _ => e) w fun _ e => e⟩
      · have n1 : i ≠ j := fun z => by subst z; obtain ⟨q, _⟩ := jE q1; cases q
        have n2 : i ≠ j' := fun z => by subst z; obtain ⟨q, _⟩ := jE q2; cases q
        rw [jy n1] at q1
        rw [jy n2] at q2
        exact k.dis j j' d1 d2 b q1 q2 q3 q4
def frzO (i : Nat) (g : Sl → Res Out) : Sl → Res Out := fun env => g (frz i env)
theorem vn (i : Nat) {X : Cx} {st : Stmt} {g : Sl → Res Out} (h : DS X st g) : DS X st (frzO i g) := by
 with_unfolding_all exact (PS.imp h fun E σ H ⟨G, H0, env, o, k, ef, q⟩ => by
  refine ⟨G, H0, frz i env, o, k.frz i, ef, ?_⟩
  have f : Frm env σ H (frz i env) σ H := ⟨fun _ _ e _ => e, fun b o => .inl (Q1 o), fun _ e => e⟩
  exact Q3 f q)
end M
namespace PySem.AutoSeq1
open PySem Builtin
theorem list_extend_tupleG (l : Addr) (items : Array Value) (n : Nat) (b : Addr) (items2 : Array Value) (n2 : Nat) (dd : Option Addr) (sl : Array (Option Value)) (hs0 : ¬(!items.isEmpty && Builtin.List.listTooLong (items.size + items2.size)) = true) (hs1 : items.size ≤ sizeLine) (hs2 : items.size + items2.size ≤ sizeLine + 1) :
    Meets (Builtin.«list.extend» ⟨[.ref l, .ref b], []⟩) (fun _ R s => s.heap.get? l = some { cls := .type "list", dict := none, data := .seq items n, slots := #[] } ∧ s.heap.get? b = some { cls := .type "tuple", dict := dd, data := .seq items2 n2, slots := sl } ∧ R (.ok (.ret Value.none)) { s with heap := s.heap.update l (Obj.mapSeq fun x => x ++ items2), toks := s.toks }) :=
  .of_wp fun prog w A R s h => by
    obtain ⟨hp, g, d, tk, os⟩ := s; obtain ⟨hl, hb, h⟩ := h; have f1 := idx_int; have f2 := sub_tuple_tuple; have f3 := sub_list_list; have f4 := sub_tuple_list; have f5 := sub_list_tuple;
    have hz' : (items ++ items2).size ≤ sizeLine + 1 := by rw [Array.size_append]; exact hs2
    wp_walk using (wpAny_updateSeq hl rfl (hz := hs1) (_hz' := hz')), wpAny_loadPart' hl, wpAny_loadPart' hb; exact ⟨_, rfl, h⟩
end PySem.AutoSeq1
namespace M
open PySem PySem.Spec L2
open PyProof.Rows hiding St
section
variable {X : Cx}
def Uc : V → List V → Hp → VK → Prop := fun x vs H Q => ∃ l b xs zs, x = .ref l ∧ vs = [.ref b] ∧ H l = some (.lst xs) ∧ H b = some (.tup zs) ∧ xs.length + zs.length ≤ sizeLine ∧ Q .non (upd H l (.lst (xs ++ zs)))
theorem Yb : MtM X "list.extend" Uc := by
  intro pins s σ H x vs v us Q I rx rv h
  obtain ⟨l, b, xs, zs, rfl, rfl, hH, hB, hz, q⟩ := h
  cases rx
  obtain ⟨u, rfl, ru⟩ := rv.one
  cases ru
  obtain ⟨z, its, n, r, hl, e⟩ := I.lstM hH
  obtain ⟨its2, r2, ⟨ob, e2, hc, n2, hd⟩, z2⟩ := I.tuple (.of hB)
  have hl2 := r2.length
  obtain ⟨c2, dd2, dt2, sl2⟩ := ob
  have hc' : c2 = .type "tuple" := hc
  have hd' : dt2 = .seq its2.toArray n2 := hd
  subst hc' hd'
  have hsz : its.toArray.size + its2.toArray.size ≤ sizeLine := by rw [List.size_toArray, List.size_toArray]; omega
  have hlong : ¬ (!its.toArray.isEmpty && Builtin.List.listTooLong (its.toArray.size + its2.toArray.size)) = true := by
    rw [WZ hsz, Bool.and_false]
    exact Bool.false_ne_true
  refine call_meets F.slot_list_extend ⟨_, e, rfl⟩ F.entry_list_extend (F.args_list_extend_2 _ _)
    (AutoSeq1.list_extend_tupleG l its.toArray n b its2.toArray n2 dd2 sl2 hlong (by rw [List.size_toArray]; omega) (by omega)) ⟨e, e2, ?_⟩
  refine ⟨.non, _, I.lset (its' := its ++ its2) hH e (by simp) (r.append r2) ?_, rfl, q⟩
  rw [List.length_append]
  omega
theorem wj {env : Sl} {σ : L2.St} {i : Nat} {d d' : D} {a : Addr} (hi : env[i]? = some (.own d)) : zM (env.set i (.own d')) σ a ↔ zM env σ a := by
  have hl : i < env.length := (List.getElem?_eq_some_iff.mp hi).1
  constructor
  · rintro ⟨j, e, h1, h2⟩
    by_cases z : i = j
    · subst z; exact ⟨i, d, hi, h2⟩
    · rw [jy z] at h1; exact ⟨j, e, h1, h2⟩
  · rintro ⟨j, e, h1, h2⟩
    by_cases z : i = j
    · subst z; exact ⟨i, d', List.getElem?_set_self hl, h2⟩
    · exact ⟨j, e, by rw [jy z]; exact h1, h2⟩
theorem EnvOk.write {K : PySem.W.Frag} {G : Addr → Prop} {H0 H : Hp} {env : Sl} {σ : L2.St} {i : Nat} {ds ds' : List D} {a : Addr} {xs xs' : List V} (k : EnvOk K G H0 env σ H) (hi : env[i]? = some (.own (.lst ds))) (ha : σ[i]? = some (some (.ref a))) (hx : H a = some (.lst xs))
    (r : Reps K (Sf G env σ) H xs' ds') : EnvOk K G H0 (env.set i (.own (.lst ds'))) σ (upd H a (.lst xs')) ∧ Frm env σ H (env.set i (.own (.lst ds'))) σ (upd H a (.lst xs')) := by
  have hl : i < env.length := (List.getElem?_eq_some_iff.mp hi).1
  have ow : zM env σ a := ⟨i, _, hi, ha⟩
  have st : Stay (Sf G env σ) H (upd H a (.lst xs')) := fun c o e m => by
    rw [jJ ?_]
    · exact e
    · rintro rfl
      rw [hx] at e; cases e
      exact (m trivial).1 ow
  have w : ∀ c, Sf G env σ c → Sf G (env.set i (.own (.lst ds'))) σ c := fun c n => ⟨fun o => n.1 ((wj hi).mp o), n.2⟩
  refine ⟨⟨by simp [k.len], fun c o e => ?_, k.g0, fun j d' h => ?_, fun j d' h => ?_, fun j j' d1 d2 b q1 q2 q3 q4 => ?_⟩, ⟨fun c o e n => ?_, fun c o => .inl ((wj hi).mp o), fun c e => ?_⟩⟩
  · have hc : c ≠ a := by
      rintro rfl
      obtain ⟨b, h1, h0, _⟩ := k.own i _ hi
      rw [ha] at h1; cases h1
      rw [h0] at e; cases e
    rw [jJ hc]
    exact k.base c o e
  · by_cases z : i = j
    · subst z
      obtain ⟨q, _⟩ := jE h
      cases q
    · rw [jy z] at h
      obtain ⟨v, h1, h2⟩ := k.shr j d' h
      exact ⟨v, h1, h2.stay st w⟩
  · by_cases z : i = j
    · subst z
      obtain ⟨q, _⟩ := jE h
      cases q
      obtain ⟨b, h1, h0, _⟩ := k.own i _ hi
      rw [ha] at h1; cases h1
      exact ⟨a, ha, h0, .lst jA (r.stay st w)⟩
    · rw [jy z] at h
      obtain ⟨b, h1, h0, h2⟩ := k.own j d' h
      have hb : b ≠ a := by
        rintro rfl
        exact z (k.dis i j _ _ b hi h ha h1)
      exact ⟨b, h1, h0, h2.stay st w fun o e => by rw [jJ hb]; exact e⟩
  · have real : ∀ (j : Nat) (d1 : D), (env.set i (.own (.lst ds')))[j]? = some (.own d1) → ∃ d0 : D, env[j]? = some (.own d0) := fun j d1 q => by
      by_cases z : i = j
      · subst z; exact ⟨_, hi⟩
      · rw [jy z] at q; exact ⟨_, q⟩
    obtain ⟨e1, z1⟩ := real j d1 q1
    obtain ⟨e2, z2⟩ := real j' d2 q2
    exact k.dis j j' e1 e2 b z1 z2 q3 q4
  · have hc : c ≠ a := by
      rintro rfl
      exact n ow
    rw [jJ hc]; exact e
  · by_cases hc : c = a
    · subst hc; rw [jA] at e; cases e
    · rw [jJ hc] at e; exact e
theorem wx {K : PySem.W.Frag} {G : Addr → Prop} {H0 H : Hp} {env : Sl} {σ : L2.St} {i : Nat} {ds : List D} (k : EnvOk K G H0 env σ H) (hi : env[i]? = some (.own (.lst ds))) : ∃ a xs, σ[i]? = some (some (.ref a)) ∧ H a = some (.lst xs) ∧ Reps K (Sf G env σ) H xs ds := by
  obtain ⟨a, h1, h0, h2⟩ := k.own i _ hi
  cases h2 with
  | lst e r => exact ⟨a, _, h1, e, r⟩
variable {e : Expr} {f : Sl → Res D} {l : Lv} {pos cpos apos p : Pos} {x : Str}
def ownL (i : Nat) (env : Sl) : Res (List D) := match env[i]? with
  | some (.own (.lst ds)) => .ok ds
  | _ => .stuck
theorem xn {i : Nat} {env : Sl} {ds : List D} (h : ownL i env = .ok ds) : env[i]? = some (.own (.lst ds)) := by
  unfold ownL at h
  split at h
  · cases h; assumption
  · cases h
def wI (i : Nat) (f : Sl → Res D) : Sl → Res Out := fun env => ownL i env >>= fun ds => f env >>= fun d => must (ds.length < sizeLine) (.ok (.nx (env.set i (.own (.lst (ds ++ [d]))))))
theorem Jh (i : Nat) (he : DE X .s e f) (hN : X.N[i]? = some x := by rfl) (hv : Vis X.env.scope x := by first | exact Or.inl rfl | exact Or.inr (Or.inl rfl) | exact Or.inr (Or.inr rfl))
    (hd : (x == ("__debug__" : Str)) = false := by decide) (hcd : (x == ("__classdict__" : Str)) = false := by decide)
    (hbase : attributeBase (.Name x p) "append" X.env (eval (.Name x p) X.env) = eval (.Name x p) X.env := by rfl)
    (hfew : ((backTo cpos (starEach [e] X.env)).all (fun x => !x.1) && (backToKw cpos (keywordEach [] X.env)).all (fun x => x.1.isSome)
      && decide ([e].length + ([] : List Keyword).length + (if ([] : List Keyword).isEmpty then 0 else 1) < 30)) = true := by exact Je rfl rfl)
    (hline : (apos.endLine == cpos.line) = true := by rfl) (hs : starEach [e] X.env = (false, eval e X.env) :: starEach [] X.env := by exact jx rfl) (hplain : (backTo cpos (starEach [] X.env)).any (·.1) = false := by exact jR rfl)
    (hsw : swapsWith (.Call (.Attribute (.Name x p) "append" apos) [e] [] cpos) none pos.line X.env = pure false := by rfl) :
    DS X (.Expr (.Call (.Attribute (.Name x p) "append" apos) [e] [] cpos) pos) (wI i f) := by
 with_unfolding_all exact (
  PS.imp (J6 (vZ PySem.F.plainAttrs_list PySem.F.slot_list_append PySem.F.type_list_append Ze (wf (i := i) hN hv hd hcd) (qA he wN hs) hbase hfew hline hs hplain) hsw) fun E σ H ⟨G, H0, env, o, k, ef, q⟩ => by
    obtain ⟨ds, e1, e2⟩ := jc ef
    obtain ⟨d, e3, e4⟩ := jc e2
    obtain ⟨hz, e5⟩ := jB e4
    cases e5
    have hi := xn e1
    obtain ⟨a, xs, ha, hx, rs⟩ := wx k hi
    refine ⟨.ref a, ha, .inl ⟨rfl, xs, .of hx⟩, G, H0, env, d, k, e3, fun v H1 s1 r1 _ => ?_⟩
    have hx1 := s1 _ _ hx
    refine ⟨a, xs, v, rfl, rfl, hx1, by rw [rs.length]; exact hz, ?_⟩
    have W := (k.grow s1).write hi ha hx1 (xs' := xs ++ [v]) (ds' := ds ++ [d]) ((rs.grow s1).append (.cons r1 .nil))
    exact q σ _ W.1 (W.2.grow s1))
def qh (i : Nat) (f : Sl → Res D) : Sl → Res Out := fun env => ownL i env >>= fun ds => f env >>= fun d => match d with
  | .lst es => must (ds.length + es.length ≤ sizeLine) (.ok (.nx (env.set i (.own (.lst (ds ++ es))))))
  | .tup es => must (ds.length + es.length ≤ sizeLine) (.ok (.nx (env.set i (.own (.lst (ds ++ es))))))
  | _ => .stuck
theorem w5 (i : Nat) (he : DE X .s e f) (hN : X.N[i]? = some x := by rfl) (hv : Vis X.env.scope x := by first | exact Or.inl rfl | exact Or.inr (Or.inl rfl) | exact Or.inr (Or.inr rfl))
    (hd : (x == ("__debug__" : Str)) = false := by decide) (hcd : (x == ("__classdict__" : Str)) = false := by decide)
    (hbase : attributeBase (.Name x p) "extend" X.env (eval (.Name x p) X.env) = eval (.Name x p) X.env := by rfl)
    (hfew : ((backTo cpos (starEach [e] X.env)).all (fun x => !x.1) && (backToKw cpos (keywordEach [] X.env)).all (fun x => x.1.isSome)
      && decide ([e].length + ([] : List Keyword).length + (if ([] : List Keyword).isEmpty then 0 else 1) < 30)) = true := by exact Je rfl rfl)
    (hline : (apos.endLine == cpos.line) = true := by rfl) (hs : starEach [e] X.env = (false, eval e X.env) :: starEach [] X.env := by exact jx rfl) (hplain : (backTo cpos (starEach [] X.env)).any (·.1) = false := by exact jR rfl)
    (hsw : swapsWith (.Call (.Attribute (.Name x p) "extend" apos) [e] [] cpos) none pos.line X.env = pure false := by rfl) :
    DS X (.Expr (.Call (.Attribute (.Name x p) "extend" apos) [e] [] cpos) pos) (qh i f) := by
 with_unfolding_all exact (
  PS.imp (J6 (vZ PySem.F.plainAttrs_list PySem.F.slot_list_extend PySem.F.type_list_extend (MtR.or KA Yb) (wf (i := i) hN hv hd hcd) (qA he wN hs) hbase hfew hline hs hplain) hsw) fun E σ H ⟨G, H0, env, o, k, ef, q⟩ => by
    obtain ⟨ds, e1, e2⟩ := jc ef
    obtain ⟨d, e3, e4⟩ := jc e2
    have hi := xn e1
    obtain ⟨a, xs, ha, hx, rs⟩ := wx k hi
    refine ⟨.ref a, ha, .inl ⟨rfl, xs, .of hx⟩, G, H0, env, d, k, e3, fun v H1 s1 r1 _ => ?_⟩
    have hx1 := s1 _ _ hx
    cases d with
    | lst es =>
      obtain ⟨hz, e5⟩ := jB e4
      cases e5
      obtain ⟨b, ys, rfl, hb, _, ry⟩ := r1.lstE
      have ry' := ry.low
      refine .inl ⟨a, b, xs, ys, rfl, rfl, hx1, hb, by rw [rs.length, ry.length]; exact hz, ?_⟩
      have W := (k.grow s1).write hi ha hx1 (xs' := xs ++ ys) (ds' := ds ++ es) ((rs.grow s1).append ry')
      exact q σ _ W.1 (W.2.grow s1)
    | tup es =>
      obtain ⟨hz, e5⟩ := jB e4
      cases e5
      obtain ⟨b, ys, rfl, hb, ry⟩ := r1.tupE
      have ry' := ry
      refine .inr ⟨a, b, xs, ys, rfl, rfl, hx1, hb, by rw [rs.length, ry.length]; exact hz, ?_⟩
      have W := (k.grow s1).write hi ha hx1 (xs' := xs ++ ys) (ds' := ds ++ es) ((rs.grow s1).append ry')
      exact q σ _ W.1 (W.2.grow s1)
    | _ => cases e4)
def VD (i : Nat) : Sl → Res Out := fun env => ownL i env >>= fun _ => .ok (.nx (env.set i (.own (.lst []))))
theorem ki (i : Nat) (hN : X.N[i]? = some x := by rfl) (hv : Vis X.env.scope x := by first | exact Or.inl rfl | exact Or.inr (Or.inl rfl) | exact Or.inr (Or.inr rfl))
    (hd : (x == ("__debug__" : Str)) = false := by decide) (hcd : (x == ("__classdict__" : Str)) = false := by decide)
    (hbase : attributeBase (.Name x p) "clear" X.env (eval (.Name x p) X.env) = eval (.Name x p) X.env := by rfl) (hline : (apos.endLine == cpos.line) = true := by rfl)
    (hsw : swapsWith (.Call (.Attribute (.Name x p) "clear" apos) [] [] cpos) none pos.line X.env = pure false := by rfl) : DS X (.Expr (.Call (.Attribute (.Name x p) "clear" apos) [] [] cpos) pos) (VD i) := by
 with_unfolding_all exact (
  PS.imp (J6 (jaM PySem.F.plainAttrs_list PySem.F.slot_list_clear PySem.F.type_list_clear UB (wf (i := i) hN hv hd hcd) hbase hline) hsw) fun E σ H ⟨G, H0, env, o, k, ef, q⟩ => by
    obtain ⟨ds, e1, e2⟩ := jc ef
    cases e2
    have hi := xn e1
    obtain ⟨a, xs, ha, hx, rs⟩ := wx k hi
    have W := k.write hi ha hx (xs' := []) (ds' := []) .nil
    exact ⟨.ref a, ha, .inl ⟨rfl, xs, .of hx⟩, a, xs, rfl, rfl, hx, q σ _ W.1 W.2⟩)
end
end M
namespace M
open PySem PySem.Spec L2
open PyProof.Rows hiding St
theorem ZC {prog : Program} {w : World} {A : Around} {R : Result → Shared → Prop} {s : Shared} {elt target iter : Expr} {ifs : List Expr} {scope : Scope} {pos : Pos} {it acc : Value} {env : Env} (I : Nat → Shared → Prop)
    (turn : ∀ n s, I n s → wpAny (model prog w) A (pyNext it) (fun r s₁ => match r with
      | none => R (.ok .next) s₁
      | some v => wpAny (model prog w) A (letOwnedTupleGo target it v) (fun _ s₁' => wpAny (model prog w) A (assign target env v) (fun _ s₂ =>
          wpAny (model prog w) A (forIn ifs true fun c r => if r = true then do let ok ← isTrue c env (eval c env); pure (ForInStep.yield ok) else pure (ForInStep.yield r)) (fun ok s₃ =>
            if ok = true then wpAny (model prog w) A (eval elt env) (fun x s₄ =>
              wpAny (model prog w) A (call (.builtin "list.append") [acc, x]) (fun _ s₅ => ∃ m, m < n ∧ I m s₅) (fun _ _ => False) s₄) (fun _ _ => False) s₃
            else ∃ m, m < n ∧ I m s₃) (fun _ _ => False) s₂) (fun _ _ => False) s₁') (fun _ _ => False) s₁) (fun _ _ => False) s)
    (n : Nat) (h : I n s) : codeAny (model prog w) A (.compLoop (.ListComp elt [⟨target, iter, ifs, 0⟩] scope pos) 0 it acc env) R s := by
  refine codeAny_loop rfl I (fun n s hI => ?_) n h
  show wpAny _ A ((compTurn (.ListComp elt [⟨target, iter, ifs, 0⟩] scope pos) 0 it acc env).onRaise (fun x => do noteFrame x env; theTreesLotGoes x)) _ _ s
  refine wpAny_noted ?_
  rw [compTurn_list]
  refine wpAny_bind (wpAny_standAt (wpAny_bind (wpAny_mono (turn n s hI) (fun r s₁ h₁ => ?_) fun _ _ h' => h'.elim)))
  cases r with
  | none => exact wpAny_pure h₁
  | some v =>
    refine wpAny_bind (wpAny_mono h₁ (fun _ s₁' h₁' => ?_) fun _ _ h' => h'.elim)
    refine wpAny_bind (wpAny_mono h₁' (fun _ s₂ h₂ => wpAny_bind (wpAny_mono h₂ (fun ok s₃ h₃ => ?_) fun _ _ h' => h'.elim)) fun _ _ h' => h'.elim)
    cases ok with
    | false => exact wpAny_pure ⟨rfl, h₃⟩
    | true =>
      exact wpAny_bind (wpAny_bind (wpAny_mono h₃ (fun x s₄ h₄ => wpAny_bind (wpAny_mono h₄ (fun _ s₅ h₅ => wpAny_pure (wpAny_pure ⟨rfl, h₅⟩)) fun _ _ h' => h'.elim)) fun _ _ h' => h'.elim))
def j5 (X : Cx) (N : List Str) (scope : Scope) (cl : List (Str × Addr)) (C : Addr) (s : Shared) (H : Hp) (fp : List Addr) : Cx where
  prog := X.prog
  w := X.w
  K := X.K
  mg := X.mg
  base := X.base
  A := X.A
  N := N
  s₀ := s
  H₀ := H
  env := compEnvC scope cl C X.env
  outer := X.stack
  stack := X.stack
  ex := fp
  fn := fun _ => false
  calm := true
  pn := []
  xe := fun _ _ => False
@[irreducible] def DTs (X : Cx) (ifs : List Expr) (c : Sl → Res Bool) : Prop :=
  ∀ (pins : List (Addr × Obj)) (s : Shared) (σ : L2.St) (H : Hp) (Q : Bool → Hp → Prop), Inv X pins σ H s → tT X.K c σ H Q →
    wpAny (model X.prog X.w) X.A (forIn ifs true fun c r => if r = true then do let ok ← isTrue c X.env (eval c X.env); pure (ForInStep.yield ok) else pure (ForInStep.yield r)) (TP X pins σ Q) X.xe s
def j8 : Sl → Res Bool := fun _ => .ok true
theorem zH {X : Cx} : DTs X [] j8 := by
 with_unfolding_all exact (fun pins s σ H Q I ⟨G, H0, env, b, k, ef, q⟩ => by
  cases ef
  exact wpAny_tests_nil ⟨H, I, q H (Same.refl H)⟩)
def zq (n : Nat) (t : D → Sl → Res Sl) (c : Sl → Res Bool) (fe : Sl → Res D) : List D → Sl → Res Sl
  | [], env => .ok env
  | d :: ds, env => t d env >>= fun env1 => c env1 >>= fun b => if b = true
      then fe env1 >>= fun v => ownL n env1 >>= fun acc => must (acc.length < sizeLine) (zq n t c fe ds (env1.set n (.own (.lst (acc ++ [v])))))
      else zq n t c fe ds env1
def capS (im : Bool) (env : Sl) (j : Nat) : Slot := match env[j]? with
  | some (.shr d) => .shr d
  | some (.own d) => if im = true then .shr d else .un
  | _ => .un
def xb (im : Bool) (m : Nat) (js : List Nat) (env : Sl) : Sl := List.replicate m .un ++ js.map (capS im env) ++ [.own (.lst [])]
def qQ (im : Bool) (m : Nat) (js : List Nat) (fi : Sl → Res (List D)) (t : D → Sl → Res Sl) (c : Sl → Res Bool) (fe : Sl → Res D) : Sl → Res D := fun env =>
  fi env >>= fun ds => zq (m + js.length) t c fe ds (xb im m js env) >>= fun env' => ownL (m + js.length) env' >>= fun acc => must (im = true → D.imms acc = true) (.ok (.lst acc))
def wn (m : Nat) (js : List Nat) (σ : L2.St) (a : Addr) : L2.St := List.replicate m none ++ js.map (fun j => (σ[j]?).join) ++ [some (.ref a)]
theorem qZ {env : Env} : ∀ {names : List (Str × NameKind)} {x : Str} {k : NameKind},
    (names.map fun (n, k) => if (k == NameKind.free && env.scope.kind == .function && env.kindOf n == some .cell) then (n, NameKind.cell) else (n, k)).lookup x = some k → ∃ k', (x, k') ∈ names ∧ (k = k' ∨ k' = .free)
  | [], _, _, h => by simp at h
  | (n, k') :: r, x, k, h => by
    have h' : List.lookup x ((if (k' == NameKind.free && env.scope.kind == .function && env.kindOf n == some .cell) = true then (n, NameKind.cell) else (n, k')) :: (r.map fun (n, k) => if (k == NameKind.free && env.scope.kind == .function && env.kindOf n == some .cell) then (n, NameKind.cell) else (n, k))) = some k := h
    by_cases hc : (k' == NameKind.free && env.scope.kind == .function && env.kindOf n == some .cell) = true
    · rw [if_pos hc] at h'
      simp only [List.lookup_cons] at h'
      cases hx : x == n with
      | true =>
        rw [hx] at h'
        have e : x = n := by simpa using hx
        subst e
        refine ⟨k', List.mem_cons_self, .inr ?_⟩
        simp only [Bool.and_eq_true, beq_iff_eq] at hc
        exact hc.1.1
      | false =>
        rw [hx] at h'
        obtain ⟨k2, h1, h2⟩ := qZ h'
        exact ⟨k2, List.mem_cons_of_mem _ h1, h2⟩
    · rw [if_neg hc] at h'
      simp only [List.lookup_cons] at h'
      cases hx : x == n with
      | true =>
        rw [hx] at h'
        have e : x = n := by simpa using hx
        subst e
        cases h'
        exact ⟨_, List.mem_cons_self, .inl rfl⟩
      | false =>
        rw [hx] at h'
        obtain ⟨k2, h1, h2⟩ := qZ h'
        exact ⟨k2, List.mem_cons_of_mem _ h1, h2⟩
structure CompSc (X : Cx) (scope : Scope) (cl : List (Str × Addr)) (N : List Str) (m : Nat) (js : List Nat) : Prop where
  clos : closureFor scope X.env = pure cl
  kind : scope.kind = .function
  names : ∀ x ∈ scope.names, x.2 = .local → scope.names.lookup x.1 = some .local
  nocell : ∀ y ∈ scope.names, y.2 ≠ .cell
  cls : ∀ x c, cl.lookup x = some c → X.env.cells.lookup x = some c
  free : ∀ y ∈ scope.names, y.2 = .free → ∃ c, cl.lookup y.1 = some c
  nd : N.Nodup
  len : N.length = m + js.length + 1
  cap : ∀ (k j : Nat), js[k]? = some j → ∃ y, N[m + k]? = some y ∧ X.N[j]? = some y ∧ (X.env.scope.names.lookup y = some .cell ∨ X.env.scope.names.lookup y = some .free) ∧ scope.names.lookup y = some .free
  last : ∀ y, N[m + js.length]? = some y → ∀ p ∈ scope.names, p.1 ≠ y
section
variable {X : Cx} {tg iter elt : Expr} {ifs : List Expr} {scope : Scope} {cl : List (Str × Addr)} {N : List Str} {m : Nat} {js : List Nat} {pos : Pos} {im : Bool}
  {fi : Sl → Res (List D)} {t : D → Sl → Res Sl} {c : Sl → Res Bool} {fe : Sl → Res D}
theorem uW {pins : List (Addr × Obj)} {σ : L2.St} {H : Hp} {s : Shared} {C : Addr} {fp : List Addr} (S : CompSc X scope cl N m js) (hc : X.calm = true) (I : Inv X pins σ H s) (hC : s.heap.objs.size ≤ C) (hf : ∀ b ∈ fp, FpOk X pins H b) (hfp : ∀ b ∈ fp, b < s.heap.objs.size) :
    (j5 X N scope cl C s H fp).Ok where
  mod := I.ok.mod
  kind := S.kind
  glob := I.ok.glob
  blt := I.ok.blt
  above := hC
  inj := fun x y c h1 h2 => I.ok.inj x y c (S.cls x c h1) (S.cls y c h2)
  has := fun x h => by
    have mem : ∃ k', (x, k') ∈ scope.names ∧ k' = .free := by
      rcases h with h | h
      · obtain ⟨k', h1, h2⟩ := qZ (env := X.env) (names := scope.names) h
        rcases h2 with z | z
        · exact absurd z.symm (S.nocell _ h1)
        · exact ⟨k', h1, z⟩
      · obtain ⟨k', h1, h2⟩ := qZ (env := X.env) (names := scope.names) h
        rcases h2 with z | z
        · exact ⟨k', h1, z.symm⟩
        · exact ⟨k', h1, z⟩
    obtain ⟨k', h1, h2⟩ := mem
    exact S.free _ h1 h2
  cab := fun x c h => by cases h
  hd := fun _ => I.ok.hd hc
  frames := I.ok.frames
  stk := .inl rfl
  exf := fun b hb => ⟨fun z => absurd (Nat.lt_of_lt_of_le (hfp b hb) (by rw [z]; exact hC)) (Nat.lt_irrefl _), fun x c h => (hf b hb).2.2.2.2.1 x c (S.cls x c h)⟩
  bs := I.bs
  bsz := Nat.le_trans I.ok.bsz I.sz
  noex := fun b o e hb => by
    rcases (hf b hb).2.2.2.1 with z | z
    · exact I.ok.noex b o e z
    · exact absurd (Nat.lt_of_lt_of_le (Heap.lt_size e) (Nat.le_trans I.ok.bsz z)) (Nat.lt_irrefl _)
  exfs := fun b hb z => by
    rcases List.mem_cons.mp (I.stkSub b z) with q | q
    · exact (hf b hb).2.1 q
    · exact (hf b hb).2.2.1 q
  funs := I.stack
  frf := I.stkFree
theorem VF {env : Sl} {j : Nat} {d : D} (h : capS im env j = .own d) : False := by
  unfold capS at h
  split at h
  · cases h
  · split at h <;> cases h
  · cases h
theorem Yt {env : Sl} {σ : L2.St} {a b : Addr} (h : zM (xb im m js env) (wn m js σ a) b) : b = a := by
  obtain ⟨i, d, h, h2⟩ := h
  have hi : i = m + js.length := by
    unfold xb at h
    by_cases h1 : i < m
    · rw [List.append_assoc, List.getElem?_append_left (by simpa using h1), List.getElem?_replicate] at h
      split at h <;> cases h
    · rw [List.append_assoc, List.getElem?_append_right (by simpa using h1)] at h
      simp only [List.length_replicate] at h
      by_cases h2 : i - m < js.length
      · rw [List.getElem?_append_left (by simpa using h2), List.getElem?_map] at h
        cases e : js[i - m]? with
        | none => rw [e] at h; cases h
        | some j =>
          rw [e] at h
          have h' : capS im env j = .own d := Option.some.inj h
          exact (VF h').elim
      · rw [List.getElem?_append_right (by simpa using h2)] at h
        simp only [List.length_map] at h
        by_cases h3 : i - m - js.length = 0
        · omega
        · rw [List.getElem?_eq_none (by simp; omega)] at h; cases h
  subst hi
  have at_n : (wn m js σ a)[m + js.length]? = some (some (.ref a)) := by
    unfold wn
    rw [List.append_assoc, List.getElem?_append_right (by simp), List.getElem?_append_right (by simp)]
    simp
  rw [at_n] at h2; cases h2; rfl
abbrev Gc (im : Bool) (G : Addr → Prop) (env : Sl) (σ : L2.St) : Addr → Prop := fun c => G c ∧ (im = false → ¬ zM env σ c)
theorem UX {K : PySem.W.Frag} {G : Addr → Prop} {H0 H : Hp} {env : Sl} {σ : L2.St} {a : Addr} (k : EnvOk K G H0 env σ H) (ha : H a = none) :
    EnvOk K (Gc im G env σ) H (xb im m js env) (wn m js σ a) (upd H a (.lst [])) := by
  have own1 : ∀ (i : Nat) (d : D), (xb im m js env)[i]? = some (.own d) → i = m + js.length ∧ d = .lst [] := fun i d h => by
    unfold xb at h
    by_cases h1 : i < m
    · rw [List.append_assoc, List.getElem?_append_left (by simpa using h1), List.getElem?_replicate] at h
      split at h <;> cases h
    · rw [List.append_assoc, List.getElem?_append_right (by simpa using h1)] at h
      simp only [List.length_replicate] at h
      by_cases h2 : i - m < js.length
      · rw [List.getElem?_append_left (by simpa using h2), List.getElem?_map] at h
        cases e : js[i - m]? with
        | none => rw [e] at h; cases h
        | some j =>
          rw [e] at h
          have h' : capS im env j = .own d := Option.some.inj h
          exact (VF h').elim
      · rw [List.getElem?_append_right (by simpa using h2)] at h
        simp only [List.length_map] at h
        by_cases h3 : i - m - js.length = 0
        · rw [h3] at h
          cases h
          exact ⟨by omega, rfl⟩
        · rw [List.getElem?_eq_none (by simp; omega)] at h; cases h
  have at_n : (wn m js σ a)[m + js.length]? = some (some (.ref a)) := by
    unfold wn
    rw [List.append_assoc, List.getElem?_append_right (by simp), List.getElem?_append_right (by simp)]
    simp
  have owned : ∀ b, zM (xb im m js env) (wn m js σ a) b → b = a := fun b ⟨i, d, h1, h2⟩ => by
    obtain ⟨rfl, rfl⟩ := own1 i d h1
    rw [at_n] at h2; cases h2; rfl
  have sm : Same H (upd H a (.lst [])) := Same.upd ha
  refine ⟨by simp [xb, wn], sm, fun c z => ⟨(k.new c z).2, fun _ => (k.new c z).1⟩, fun i d h => ?_, fun i d h => ?_, fun i j d e b h1 h2 h3 h4 => (own1 i d h1).1.trans (own1 j e h2).1.symm⟩
  · unfold xb at h
    by_cases h1 : i < m
    · rw [List.append_assoc, List.getElem?_append_left (by simpa using h1), List.getElem?_replicate] at h
      split at h <;> cases h
    · rw [List.append_assoc, List.getElem?_append_right (by simpa using h1)] at h
      simp only [List.length_replicate] at h
      by_cases h2 : i - m < js.length
      · rw [List.getElem?_append_left (by simpa using h2), List.getElem?_map] at h
        cases e : js[i - m]? with
        | none => rw [e] at h; cases h
        | some j =>
          rw [e] at h
          have h' : capS im env j = .shr d := Option.some.inj h
          have hσ : (wn m js σ a)[i]? = some ((σ[j]?).join) := by
            unfold wn
            rw [List.append_assoc, List.getElem?_append_right (by simpa using h1)]
            simp only [List.length_replicate]
            rw [List.getElem?_append_left (by simpa using h2), List.getElem?_map, e]
            rfl
          have fin : ∀ v, σ[j]? = some (some v) → Rep K (Gc im G env σ) H v d → ∃ v, (wn m js σ a)[i]? = some (some v) ∧ Rep K (Sf (Gc im G env σ) (xb im m js env) (wn m js σ a)) (upd H a (.lst [])) v d := fun v e1 r => by
            refine ⟨v, by rw [hσ, e1]; rfl, (r.inDom.grow sm).weak fun b z => ⟨fun o => ?_, z.1⟩⟩
            rw [owned b o] at z
            exact z.2 ha
          unfold capS at h'
          split at h'
          · rename_i d' hd; cases h'
            obtain ⟨v, h3, h4⟩ := k.shr j d hd
            exact fin v h3 (h4.weak fun c z => ⟨z.2, fun _ => z.1⟩)
          · rename_i d' hd
            split at h'
            · rename_i hi'
              cases h'
              obtain ⟨v, h3, h0, h4⟩ := k.own j d hd
              exact fin _ h3 (h4.rep (fun c z => ⟨⟨z.2, fun _ => z.1⟩, Q2 k hd h3 c z⟩) ⟨k.g0 _ h0, fun z => by rw [hi'] at z; cases z⟩)
            · cases h'
          · cases h'
      · rw [List.getElem?_append_right (by simpa using h2)] at h
        simp only [List.length_map] at h
        by_cases h3 : i - m - js.length = 0
        · rw [h3] at h
          cases h
        · rw [List.getElem?_eq_none (by simp; omega)] at h; cases h
  · obtain ⟨rfl, rfl⟩ := own1 i d h
    exact ⟨a, at_n, ha, .lst jA .nil⟩
theorem ZB (use : Option (Value → Sem Unit)) (Q' : Value → Shared → Prop) (im : Bool) (N : List Str) (m : Nat) (js : List Nat) (S : CompSc X scope cl N m js) (hc : X.calm = true) (hi : PI X tg iter (tI X.K fi))
    (hb : ∀ (C : Addr) (s : Shared) (H : Hp) (fp : List Addr), PG (j5 X N scope cl C s H fp) tg (tG X.K t) ∧ DTs (j5 X N scope cl C s H fp) ifs c ∧ PE (j5 X N scope cl C s H fp) elt (tE X.K .s fe))
    (hs : ∀ x, foldedSetIterable iter X.env x = pure x) {pins : List (Addr × Obj)} {s : Shared} {σ : L2.St} {H : Hp} {G : Addr → Prop} {H0 : Hp} {env : Sl} {d : D} (I : Inv X pins σ H s) (k : EnvOk X.K G H0 env σ H) (ef : qQ im m js fi t c fe env = .ok d)
    (hend : ∀ (a C : Addr) (s' : Shared) (H' : Hp) (mm : Str → Option Value) (r : Flow), s'.heap.Ns C mm → (∀ h', Heap.SameBut C s'.heap h' → Inv X pins σ H' { s' with heap := h' }) → FpOk X pins H' C → Same H H' → Rep X.K (Sf G env σ) H' (.ref a) d → NewTop H (.ref a) → compPost (model X.prog X.w) X.A X.xe use Q' (.ref a) C (.ok r) s') :
    wpAny (model X.prog X.w) X.A (comprehension (.ListComp elt [⟨tg, iter, ifs, 0⟩] scope pos) scope X.env (firstIterPos [⟨tg, iter, ifs, 0⟩] pos) (newList []) (firstAsync [⟨tg, iter, ifs, 0⟩]) (firstIter [⟨tg, iter, ifs, 0⟩] X.env) use) Q' X.xe s := by
 with_unfolding_all exact (by
  obtain ⟨ds, e1, ef⟩ := jc ef
  obtain ⟨envF, e2, ef⟩ := jc ef
  obtain ⟨accF, e3, e4⟩ := jc ef
  obtain ⟨himF, e4⟩ := jB e4
  cases e4
  refine wpAny_comprehension_free (use := use) rfl hs S.clos S.kind S.names ?_
  refine thn (hi pins s σ H (fun J H1 => ∃ P, Same H H1 ∧ u7 X.K (Sf G env σ) H1 J ds P ∧ P H1 ∧ ∀ env' σ' H', Frm env σ H1 env' σ' H' → P H') I ⟨G, H0, env, ds, k, e1, fun J H1 P a b c' d' => ⟨P, a, b, c', d'⟩⟩) fun v s1 h1 => thn h1 fun itv s2 h2 => ?_
  obtain ⟨it, fp, tn, J, H2, rfl, I2, T, st2, f2, P, sm, wk, p0, pst⟩ := h2
  have k2 := k.grow sm
  refine wpAny_newObj_type (wpAny_newFunctionEnv S.nocell (by intro y hy; simp at hy) (fun h₁ hns₁ hsb₁ => ?_) S.kind)
  dsimp only at hns₁ hsb₁ ⊢
  have hfr : H2 s2.heap.objs.size = none := I2.hok.fresh (Nat.le_refl _)
  let a := s2.heap.objs.size
  have ha : H2 a = none := hfr
  have I3 : Inv X pins σ (upd H2 a (.lst [])) { s2 with heap := s2.heap.push { cls := .type "list", dict := none, data := .seq ([] : List Value).toArray } } := I2.lnew (t' := s2.toks) (its := []) .nil (Nat.zero_le _)
  let s3 : Shared := { s2 with heap := s2.heap.push { cls := .type "list", dict := none, data := .seq ([] : List Value).toArray } }
  let C := s3.heap.objs.size
  have f3 : ∀ b ∈ fp, FpOk X pins (upd H2 a (.lst [])) b := fun b hb' => by
    obtain ⟨z0, z⟩ := f2 b hb'
    refine ⟨?_, z⟩
    have hb2 : b ≠ a := by
      obtain ⟨o, ho, _⟩ := T.obj 0 _ st2 b hb'
      exact Nat.ne_of_lt (Heap.lt_size ho)
    rw [jJ hb2]; exact z0
  have hfp : ∀ b ∈ fp, b < s3.heap.objs.size := fun b hb' => by
    obtain ⟨o, ho, _⟩ := T.obj 0 _ st2 b hb'
    refine Nat.lt_of_lt_of_le (Heap.lt_size ho) ?_
    show s2.heap.objs.size ≤ (s2.heap.push { cls := .type "list", dict := none, data := .seq ([] : List Value).toArray }).objs.size
    rw [Heap.size_push]; exact Nat.le_succ _
  have XO := uW (C := C) S hc I3 (Nat.le_refl _) f3 hfp
  obtain ⟨DGt, DTc, DEe⟩ := hb C s3 (upd H2 a (.lst [])) fp
  have old : ∀ b o, s3.heap.get? b = some o → h₁.get? b = some o := fun b o e => hsb₁.extBut b o (Nat.ne_of_lt (Heap.lt_size e)) (Heap.get?_push_of_some _ e)
  have I4 : Inv (j5 X N scope cl C s3 (upd H2 a (.lst [])) fp) [] (wn m js σ a) (upd H2 a (.lst [])) { s2 with heap := h₁, toks := s2.toks + ([] : List (Str × Value)).length } := by
    refine ⟨XO, rfl, I3.bare, Un.kept old, ⟨_, hns₁, fun i y v' h1 h2 h3 => ?_⟩, fun y c' h => ?_, I3.hok.fresh (Nat.le_refl _), fun y c' h => I3.freeC y c' (S.cls y c' h), fun p hp => absurd hp (by simp [j5]), I3.hok.kept old, ?_⟩
    · -- a captured name
      have hN1 : N[i]? = some y := h1
      unfold wn at h2
      by_cases q1 : i < m
      · rw [List.append_assoc, List.getElem?_append_left (by simpa using q1), List.getElem?_replicate] at h2
        split at h2 <;> cases h2
      · rw [List.append_assoc, List.getElem?_append_right (by simpa using q1)] at h2
        simp only [List.length_replicate] at h2
        by_cases q2 : i - m < js.length
        · rw [List.getElem?_append_left (by simpa using q2), List.getElem?_map] at h2
          cases e : js[i - m]? with
          | none => rw [e] at h2; cases h2
          | some j =>
            rw [e] at h2
            have h2' : (σ[j]?).join = some v' := Option.some.inj h2
            have hj : σ[j]? = some (some v') := by
              cases z : σ[j]? with
              | none => rw [z] at h2'; cases h2'
              | some w' => rw [z] at h2'; simp at h2'; rw [h2']
            obtain ⟨y', g1, g2, g3, g4⟩ := S.cap (i - m) j e
            have ey : y' = y := by
              rw [show m + (i - m) = i by omega, hN1] at g1
              exact (Option.some.inj g1).symm
            subst ey
            obtain ⟨mm, hn, hl⟩ := I3.loc
            have vis : Vis X.env.scope y' := by
              rcases g3 with z | z
              · exact .inr (.inl z)
              · exact .inr (.inr z)
            obtain ⟨u, ru, lk⟩ := hl j y' v' g2 hj vis
            refine ⟨u, ru, .inr ⟨?_, ?_⟩⟩
            · rcases h3 with z | z
              · exfalso
                obtain ⟨k', m1, m2⟩ := qZ (env := X.env) (names := scope.names) z
                have lk2 := S.names _ m1
                rcases m2 with w' | w'
                · subst w'
                  have := lk2 rfl
                  rw [g4] at this; cases this
                · subst w'
                  have : ∀ {names : List (Str × NameKind)}, names.lookup y' = some .free → (names.map fun (n, k) => if (k == NameKind.free && X.env.scope.kind == .function && X.env.kindOf n == some .cell) then (n, NameKind.cell) else (n, k)).lookup y' ≠ some .local := by
                    intro names
                    induction names with
                    | nil => intro h; cases h
                    | cons p r ih =>
                      obtain ⟨n, kk⟩ := p
                      intro h h'
                      have h'' : List.lookup y' ((if (kk == NameKind.free && X.env.scope.kind == .function && X.env.kindOf n == some .cell) = true then (n, NameKind.cell) else (n, kk)) :: (r.map fun (n, k) => if (k == NameKind.free && X.env.scope.kind == .function && X.env.kindOf n == some .cell) then (n, NameKind.cell) else (n, k))) = some .local := h'
                      simp only [List.lookup_cons] at h
                      cases hx : y' == n with
                      | true =>
                        rw [hx] at h
                        cases h
                        split at h'' <;> simp [List.lookup_cons, hx] at h''
                      | false =>
                        rw [hx] at h
                        split at h'' <;> (simp only [List.lookup_cons, hx] at h''; exact ih h h'')
                  exact this g4 z
              · exact z
            · rcases lk with ⟨kk, _⟩ | ⟨kk, c', hc', cell'⟩
              · exfalso
                have kk' : X.env.scope.names.lookup y' = some .local := kk
                rcases g3 with z | z <;> (rw [z] at kk'; cases kk')
              · obtain ⟨c2, hc2⟩ := S.free (y', .free) (PySem.mem_of_lookup g4) rfl
                have : c2 = c' := by
                  have := S.cls _ _ hc2
                  rw [hc'] at this
                  exact (Option.some.inj this).symm
                subst this
                obtain ⟨o, ho, hd⟩ := cell'
                exact ⟨c2, hc2, o, old _ _ ho, hd⟩
        · exfalso
          have hi' : i = m + js.length := by
            have hl : i < N.length := (List.getElem?_eq_some_iff.mp hN1).1
            rw [S.len] at hl
            omega
          subst hi'
          have no := S.last y hN1
          rcases h3 with z | z | z <;>
          · obtain ⟨k', m1, _⟩ := qZ (env := X.env) (names := scope.names) z
            exact no _ m1 rfl
    · obtain ⟨v', o, ho, hd⟩ := I3.cell y c' (S.cls y c' h)
      exact ⟨v', o, old _ _ ho, hd⟩
    · show (wn m js σ a).length = N.length
      rw [S.len]; simp [wn]; omega
  have kC : EnvOk X.K (Gc im G env σ) H2 (xb im m js env) (wn m js σ a) (upd H2 a (.lst [])) := UX k2 ha
  have fC : ∀ b ∈ fp, FpOk (j5 X N scope cl C s3 (upd H2 a (.lst [])) fp) [] (upd H2 a (.lst [])) b := fun b hb' => by
    obtain ⟨z0, z1, z2, z3, z4, z5⟩ := f3 b hb'
    exact ⟨z0, (XO.exf b hb').1, XO.exfs b hb', .inl hb', (XO.exf b hb').2, fun p hp => absurd hp (by simp [j5])⟩
  have stC : tn 0 h₁ := T.keep 0 _ _ st2 fun b hb' o e => old b o (Heap.get?_push_of_some _ e)
  have loop : codeAny (model X.prog X.w) X.A (.compLoop (.ListComp elt [⟨tg, iter, ifs, 0⟩] scope pos) 0 (.ref it) (.ref a) (compEnvC scope cl C X.env))
      (compPost (model X.prog X.w) X.A X.xe use Q' (.ref a) C) { s2 with heap := h₁, toks := s2.toks + ([] : List (Str × Value)).length } := by
    refine ZC (fun n s' => ∃ i σ' H' env', n = ds.length + 1 - i ∧ i ≤ ds.length ∧ Inv (j5 X N scope cl C s3 (upd H2 a (.lst [])) fp) [] σ' H' s' ∧ tn i s'.heap ∧ (∀ b ∈ fp, H' b = none) ∧ (∀ b, zM env' σ' b → b = a) ∧
        EnvOk X.K (Gc im G env σ) H2 env' σ' H' ∧ Frm (xb im m js env) (wn m js σ a) (upd H2 a (.lst [])) env' σ' H' ∧ zq (m + js.length) t c fe (ds.drop i) env' = .ok envF) ?_ (ds.length + 1)
      ⟨0, _, _, _, rfl, Nat.zero_le _, I4, stC, fun b hb' => (fC b hb').1, ?_, kC, Frm.refl (Same.refl _), by simpa using e2⟩
    · rintro n s' ⟨i, σ', H', env', rfl, hi', Ic, st, fr, hs', kc, fc, ec⟩
      have hP : P H' := pst env σ H' (Frm.refl kc.base)
      obtain ⟨w1, w2, w3⟩ := wk i H' hP
      have fpk : ∀ {H' : Hp}, (∀ b ∈ fp, H' b = none) → ∀ b ∈ fp, FpOk (j5 X N scope cl C s3 (upd H2 a (.lst [])) fp) [] H' b := fun hn b hb' => ⟨hn b hb', (fC b hb').2⟩
      by_cases hlt : i < ds.length
      · have hd : i < ds.length := by omega
        rw [List.drop_eq_getElem_cons hd] at ec
        obtain ⟨env1, e5, ec⟩ := jc ec
        obtain ⟨b, e6, ec⟩ := jc ec
        refine thn (T.item (j5 X N scope cl C s3 (upd H2 a (.lst [])) fp) rfl rfl rfl rfl i [] s' σ' H' (fun _ _ => False) Ic (fpk fr) st (w1 hlt)) fun r s4 ⟨u, hr, h4⟩ => ?_
        subst hr
        refine thn h4 fun _ s5 ⟨x, H5, I5, r5, y5, st5, fr5⟩ => ?_
        have wkA : ∀ b, (Sf G env σ b ∧ H2 b ≠ none) → Sf (Gc im G env σ) env' σ' b := fun b z => ⟨fun o => (by
          rw [hs' b o] at z
          exact z.2 ha), z.1.2, fun _ => z.1.1⟩
        obtain ⟨sm5, rd'⟩ : Same H' H5 ∧ Rep X.K (Sf (Gc im G env σ) env' σ') H5 x ds[i] := by
          rcases w2 _ (List.getElem?_eq_getElem hd) x H5 y5 with ⟨rfl, rd⟩ | ⟨p, vs, es, hp, rfl, rfl, ed, rds⟩
          · exact ⟨Same.refl _, (rd.inDom.grow kc.base).weak wkA⟩
          · refine ⟨Same.upd hp, ?_⟩
            rw [ed]
            exact .tup jA (((rds.inDom.grow kc.base).weak wkA).grow (Same.upd hp))
        have kc5 := kc.grow sm5
        have I5' := I5.pinned (fpk fr5) (T.obj _ _ st5)
        refine thn (DGt _ s5 σ' H5 x u (fun σ1 Hn => Hn = H5 ∧ EnvOk X.K (Gc im G env σ) H2 env1 σ1 H5 ∧ Frm env' σ' H5 env1 σ1 H5) I5' r5 ⟨_, H2, env', ds[i], env1, kc5, rd', e5, fun σ1 k1 f1 => ⟨rfl, k1, f1⟩⟩) fun _ s6 ⟨σ6, H6, I6, z6, k6, ff6⟩ => ?_
        subst z6
        have ow6 : ∀ b, zM env1 σ6 b → b = a := fun b o => by
          rcases ff6.more b o with z | z
          · exact hs' b z
          · obtain ⟨uu, hu⟩ := k6.there o
            rw [z] at hu; cases hu
        refine thn (DTc _ s6 σ6 H6 (fun b' Hn => b' = b ∧ Same H6 Hn) I6 ⟨_, H2, env1, b, k6, e6, fun Hn sn => ⟨rfl, sn⟩⟩) fun ok s7 ⟨H7, I7, z7, sm7⟩ => ?_
        subst z7
        have k7 := k6.grow sm7
        have fr7 := ((fc.trans (Frm.refl sm5)).trans ff6).trans (Frm.refl sm7)
        have out : ∀ {s8 : Shared} {σ8 : L2.St} {H8 : Hp} {env8 : Sl}, Inv (j5 X N scope cl C s3 (upd H2 a (.lst [])) fp) ([] ++ QX fp s5.heap) σ8 H8 s8 → (∀ b, zM env8 σ8 b → b = a) → EnvOk X.K (Gc im G env σ) H2 env8 σ8 H8 →
            Frm (xb im m js env) (wn m js σ a) (upd H2 a (.lst [])) env8 σ8 H8 → zq (m + js.length) t c fe (ds.drop (i + 1)) env8 = .ok envF →
            ∃ mm, mm < ds.length + 1 - i ∧ ∃ i σ' H' env', mm = ds.length + 1 - i ∧ i ≤ ds.length ∧ Inv (j5 X N scope cl C s3 (upd H2 a (.lst [])) fp) [] σ' H' s8 ∧ tn i s8.heap ∧ (∀ b ∈ fp, H' b = none) ∧ (∀ b, zM env' σ' b → b = a) ∧
              EnvOk X.K (Gc im G env σ) H2 env' σ' H' ∧ Frm (xb im m js env) (wn m js σ a) (upd H2 a (.lst [])) env' σ' H' ∧ zq (m + js.length) t c fe (ds.drop i) env' = .ok envF := by
          intro s8 σ8 H8 env8 I8 ow8 k8 f8 e8
          refine ⟨ds.length + 1 - (i + 1), by omega, i + 1, σ8, H8, env8, rfl, hlt, I8.unpinned, T.keep _ _ _ st5 fun b hb' o e => (I8.pin (b, o) (List.mem_append_right _ (List.mem_append_right _ (xo hb' e)))).1, fun b hb' => ?_, ow8, k8, f8, e8⟩
          obtain ⟨o, e, _⟩ := T.obj _ _ st5 b hb'
          exact (I8.pin (b, o) (List.mem_append_right _ (List.mem_append_right _ (xo hb' e)))).2.1
        cases ok with
        | false =>
          rw [if_neg Bool.false_ne_true] at ec ⊢
          exact out I7 ow6 k7 fr7 ec
        | true =>
          rw [if_pos rfl] at ec ⊢
          obtain ⟨vd, e7, ec⟩ := jc ec
          obtain ⟨acc, e8, ec⟩ := jc ec
          obtain ⟨hz, ec⟩ := jB ec
          refine thn (DEe _ s7 σ6 H7 (fun y Hn => Same H7 Hn ∧ Rep X.K (Sf (Gc im G env σ) env1 σ6) Hn y vd) I7 ⟨_, H2, env1, vd, k7, e7, fun y Hn sn rn _ => ⟨sn, rn⟩⟩) fun yv s8 ⟨y, H8, I8, ry, sm8, rep8⟩ => ?_
          have k8 := k7.grow sm8
          have hi8 := xn e8
          obtain ⟨a8, xs8, ha8, hx8, rs8⟩ := wx k8 hi8
          have ea : a8 = a := ow6 a8 ⟨_, _, hi8, ha8⟩
          subst ea
          have W := k8.write hi8 ha8 hx8 (xs' := xs8 ++ [y]) (ds' := acc ++ [vd]) (rs8.append (.cons rep8 .nil))
          refine thn (Ze (X := j5 X N scope cl C s3 (upd H2 a (.lst [])) fp) _ s8 σ6 H8 (.ref a) [y] (.ref a) [yv] (fun _ Hn => Hn = upd H8 a (.lst (xs8 ++ [y]))) I8 rfl (.cons ry .nil)
            ⟨a, xs8, y, rfl, rfl, hx8, by rw [rs8.length]; exact hz, rfl⟩) fun _ s9 ⟨_, H9, I9, _, z9⟩ => ?_
          subst z9
          exact out I9 (fun b o => ow6 b ((wj hi8).mp o)) W.1 ((fr7.trans (Frm.refl sm8)).trans W.2) ec
      · have he : i = ds.length := by omega
        rw [List.drop_eq_nil_of_le (by omega)] at ec
        cases ec
        refine thn (T.done (j5 X N scope cl C s3 (upd H2 a (.lst [])) fp) rfl rfl rfl rfl i [] s' σ' H' (fun _ _ => False) Ic (fpk fr) st (w3 (by omega))) fun r s4 ⟨hr, I5⟩ => ?_
        subst hr
        have hiF := xn e3
        obtain ⟨aF, xsF, haF, hxF, rsF⟩ := wx kc hiF
        have ea : aF = a := hs' aF ⟨_, _, hiF, haF⟩
        subst ea
        obtain ⟨mm, hn, _⟩ := I5.loc
        refine hend a C s4 H' mm _ hn (fun h' hsb => ?_) (I3.fpOk (Nat.le_refl _) I5.free) (sm.trans kc.base) (.lst hxF (k.new a (Same.free sm ha)) ?_) (j4 sm ha)
        rotate_left
        · cases him : im with
          | true => exact rsF.imm (himF him)
          | false => exact rsF.weak fun c z => ⟨⟨z.2.2 him, z.2.1⟩, Q2 kc hiF haF c z⟩
        have nC : ∀ b o, H' b = some o → b ≠ C := fun b o e z => by
          have := I5.free
          rw [z] at e
          have e' : H' C = none := this
          rw [e] at e'; cases e'
        have B := I5.base
        have ltC : ∀ b o, s3.heap.get? b = some o → b ≠ C := fun b o e => Nat.ne_of_lt (Heap.lt_size e)
        have U : Un (frs X.stack) fp (upd H2 a (.lst [])) H' s3.heap h' := ⟨fun b o e n hb' hx' => (hsb.2 b (ltC b o e)).trans (B.keep b o e n hb' hx'),
          fun b o e n hb' hx' => let ⟨sl, z⟩ := B.slot b o e n hb' hx'; ⟨sl, (hsb.2 b (ltC b o e)).trans z⟩, B.free,
          fun b o e hx' => let ⟨o', z⟩ := B.there b o e hx'; ⟨o', (hsb.2 b (ltC b o e)).trans z⟩, B.tups, B.frzs, B.tbls⟩
        refine Inv.call' (ch := fp) I3 I5.os U (fun b o e => (I5.hok b o e).stay (fun c' u hc' qq => (hsb.2 c' ?_).trans qq) (fun _ z => z) fun _ _ z => z) I5.bare (fun b hb' => ?_)
        · rcases hc' with z | z
          · rw [z]; exact nC b o e
          · exact nC c' _ z
        · obtain ⟨z0, z1, z2, z3, z4, z5⟩ := f3 b hb'
          exact ⟨z3, z1, z4, z5⟩
    · exact fun b o => Yt o
  exact codeAny_compStart_list loop (T.self _ 0 _ _ _ stC loop))
theorem wG (im : Bool) (N : List Str) (m : Nat) (js : List Nat) (S : CompSc X scope cl N m js) (hc : X.calm = true) (hi : DI X tg iter fi)
    (hb : ∀ (C : Addr) (s : Shared) (H : Hp) (fp : List Addr), DG (j5 X N scope cl C s H fp) tg t ∧ DTs (j5 X N scope cl C s H fp) ifs c ∧ DE (j5 X N scope cl C s H fp) .s elt fe)
    (hs : ∀ x, foldedSetIterable iter X.env x = pure x := by intro _; rfl) :
    DE X .t (.ListComp elt [⟨tg, iter, ifs, 0⟩] scope pos) (qQ im m js fi t c fe) := by
 with_unfolding_all exact (by
  intro pins s σ H Q I ⟨G, H0, env, d, k, ef, q⟩
  rw [eval_ListComp]
  exact ZB none (EP X pins σ Q) im N m js S hc hi hb hs I k ef fun a C s' H' mm r hn hinv hfp sm rep nt => ⟨mm, hn, fun h' hsb => ⟨.ref a, H', hinv h' hsb, rfl, q _ H' sm rep nt⟩⟩)
theorem Xu (sl : D → Slot) (i : Nat) {x : Str} {p ps : Pos} (hW : ∀ {G : Addr → Prop} {H0 H H1 : Hp} {env : Sl} {σ : L2.St} {v : V} {d : D}, EnvOk X.K G H0 env σ H → Same H H1 → Rep X.K (Sf G env σ) H1 v d → NewTop H v → EnvOk X.K G H0 (env.set i (sl d)) (σ.set i (some v)) H1 ∧ Frm env σ H (env.set i (sl d)) (σ.set i (some v)) H1) (hN : X.N.Nodup) (im : Bool) (N : List Str) (m : Nat) (js : List Nat) (S : CompSc X scope cl N m js) (hc : X.calm = true) (hi : DI X tg iter fi)
    (hb : ∀ (C : Addr) (s : Shared) (H : Hp) (fp : List Addr), DG (j5 X N scope cl C s H fp) tg t ∧ DTs (j5 X N scope cl C s H fp) ifs c ∧ DE (j5 X N scope cl C s H fp) .s elt fe)
    (hxi : X.N[i]? = some x) (hx : Loc X.env.scope x) (hf : X.fn x = true ∨ X.env.scope.names.lookup x = some .local)
    (hsw : swapsWith (.ListComp elt [⟨tg, iter, ifs, 0⟩] scope pos) (some (.Name x p)) ps.line X.env = pure true) (hs : ∀ x, foldedSetIterable iter X.env x = pure x) :
    DS X (.Assign [.Name x p] (.ListComp elt [⟨tg, iter, ifs, 0⟩] scope pos) ps) (fun env => qQ im m js fi t c fe env >>= fun d => .ok (.nx (env.set i (sl d)))) := by
 with_unfolding_all exact (by
  intro pins s σ H E I ⟨G, H0, env, o, k, ef, q⟩
  obtain ⟨d, e1, e2⟩ := jc ef
  cases e2
  rw [exec_Assign_Name_used _ _ _ _ hsw]
  refine wpAny_bind (wpAny_standAt (wpAny_bind ?_))
  show wpAny _ _ (do let _ ← comprehension (.ListComp elt [⟨tg, iter, ifs, 0⟩] scope pos) scope X.env (firstIterPos [⟨tg, iter, ifs, 0⟩] pos) (newList []) (firstAsync [⟨tg, iter, ifs, 0⟩]) (firstIter [⟨tg, iter, ifs, 0⟩] X.env) (some (assign (.Name x p) X.env))) _ _ s
  refine wpAny_bind (thn (ZB (some (assign (.Name x p) X.env)) (fun _ s' => SP X pins E .next s') im N m js S hc hi hb hs I k e1 fun a C s' H' mm r hn hinv hfp sm rep nt => ?_) fun _ s' hq => wpAny_pure (wpAny_pure hq))
  have I' : Inv X pins σ H' s' := hinv s'.heap ⟨rfl, fun _ _ => rfl⟩
  obtain ⟨W1, W2⟩ := hW k sm rep nt
  obtain ⟨f0, f1, f2, f3, f4, f5⟩ := hfp
  show wpAny _ _ (assign (.Name x p) X.env (.ref a)) _ _ _
  refine wpAny_assign_Name (QO I' hN hxi hx (show RelV (.ref a) (.ref a) from rfl) (fun s2 I2 hsb => ?_) hf)
  obtain ⟨b, hsb, hbb⟩ := hsb
  have hCb : C ≠ b := by
    rcases hbb with z | z
    · rw [z]; exact f1
    · exact fun e => f4 _ _ z e.symm
  refine ⟨mm, hn.sameBut hsb hCb, fun h' hs' => ⟨_, H', ?_, q _ _ W1 W2⟩⟩
  exact I2.turned (it := C) (t' := s2.toks) (fun b o hb e => (hs'.2 b hb).trans e) f0 f1 f3 f4 f5)
theorem uO (i : Nat) {x : Str} {p ps : Pos} (hN : X.N.Nodup) (im : Bool) (N : List Str) (m : Nat) (js : List Nat) (S : CompSc X scope cl N m js) (hc : X.calm = true) (hi : DI X tg iter fi)
    (hb : ∀ (C : Addr) (s : Shared) (H : Hp) (fp : List Addr), DG (j5 X N scope cl C s H fp) tg t ∧ DTs (j5 X N scope cl C s H fp) ifs c ∧ DE (j5 X N scope cl C s H fp) .s elt fe)
    (hxi : X.N[i]? = some x := by rfl) (hx : Loc X.env.scope x := by first | exact Or.inl rfl | exact Or.inr rfl) (hf : X.fn x = true ∨ X.env.scope.names.lookup x = some .local := by first | exact .inl rfl | exact .inr rfl | assumption)
    (hsw : swapsWith (.ListComp elt [⟨tg, iter, ifs, 0⟩] scope pos) (some (.Name x p)) ps.line X.env = pure true := by rfl) (hs : ∀ x, foldedSetIterable iter X.env x = pure x := by intro _; rfl) :
    DS X (.Assign [.Name x p] (.ListComp elt [⟨tg, iter, ifs, 0⟩] scope pos) ps) (setO i (qQ im m js fi t c fe)) :=
  Xu ZW i (fun k s r nt => k.setNew s r nt) hN im N m js S hc hi hb hxi hx hf hsw hs
theorem kh (i : Nat) {x : Str} {p ps : Pos} (hN : X.N.Nodup) (im : Bool) (N : List Str) (m : Nat) (js : List Nat) (S : CompSc X scope cl N m js) (hc : X.calm = true) (hi : DI X tg iter fi)
    (hb : ∀ (C : Addr) (s : Shared) (H : Hp) (fp : List Addr), DG (j5 X N scope cl C s H fp) tg t ∧ DTs (j5 X N scope cl C s H fp) ifs c ∧ DE (j5 X N scope cl C s H fp) .s elt fe)
    (hxi : X.N[i]? = some x := by rfl) (hx : Loc X.env.scope x := by first | exact Or.inl rfl | exact Or.inr rfl) (hf : X.fn x = true ∨ X.env.scope.names.lookup x = some .local := by first | exact .inl rfl | exact .inr rfl | assumption)
    (hsw : swapsWith (.ListComp elt [⟨tg, iter, ifs, 0⟩] scope pos) (some (.Name x p)) ps.line X.env = pure true := by rfl) (hs : ∀ x, foldedSetIterable iter X.env x = pure x := by intro _; rfl) :
    DS X (.Assign [.Name x p] (.ListComp elt [⟨tg, iter, ifs, 0⟩] scope pos) ps) (qg i (qQ im m js fi t c fe)) :=
  Xu .shr i (fun k s r nt => ⟨(k.grow s).setS r, .set s fun _ _ z _ => by cases z⟩) hN im N m js S hc hi hb hxi hx hf hsw hs
end
end M
namespace M
open PySem PySem.Spec L2
open PyProof.Rows hiding St
def qd (n : Nat) (ds : List D) : Sl := ds.map .shr ++ List.replicate (n - ds.length) .un
theorem Vm {K : PySem.W.Frag} {B : Addr → Prop} {N : List Str} {vs : List V} {ds : List D} {H : Hp} (r : Reps K B H vs ds) : EnvOk K (fun a => H a = none ∨ B a) H (qd N.length ds) (start N vs) H := by
  have hl := r.length
  have no : ∀ (i : Nat) (d : D), (qd N.length ds)[i]? ≠ some (.own d) := fun i d h => by
    unfold qd at h
    by_cases q : i < ds.length
    · rw [List.getElem?_append_left (by simpa using q), List.getElem?_map] at h
      cases e : ds[i]? with
      | none => rw [e] at h; cases h
      | some x => rw [e] at h; cases h
    · rw [List.getElem?_append_right (by simpa using q), List.getElem?_replicate] at h
      split at h <;> cases h
  refine ⟨by simp [L2.start, qd, hl], Same.refl H, fun _ z => .inl z, fun i d h => ?_, fun i d h => (no i d h).elim, fun i j d e a h => (no i d h).elim⟩
  unfold qd at h
  by_cases q : i < ds.length
  · rw [List.getElem?_append_left (by simpa using q), List.getElem?_map] at h
    cases e : ds[i]? with
    | none => rw [e] at h; cases h
    | some x =>
      rw [e] at h
      cases h
      obtain ⟨v, h1, h2⟩ := r.get e
      refine ⟨v, ?_, h2.weak fun a z => ⟨fun o => ?_, .inr z⟩⟩
      · unfold L2.start
        rw [List.getElem?_append_left (by simp; omega), List.getElem?_map, h1]
        rfl
      · obtain ⟨i', d', z, _⟩ := o
        exact no i' d' z
  · rw [List.getElem?_append_right (by simpa using q), List.getElem?_replicate] at h
    split at h <;> cases h
section
variable {P : Program} {w : World} {K : PySem.W.Frag} {mg : Str → Option Value} {base : Heap}
def Meets (fr : Bool) (n : Nat) (g : Sl → Res Out) (ds : List D) (d : D) : Prop := (∃ fr', g (qd n ds) = .ok (.rt fr' d) ∧ (fr = true → fr' = true)) ∨ (d = .non ∧ ∃ env', g (qd n ds) = .ok (.nx env'))
theorem uD {x qual : Str} {st : Stmt} {f : Addr} {fd : FuncData} {N ps : List Str} {k : Nat} {fr : Bool} {F : List D → Res D} {g : Sl → Res Out} (Fu : Fun K x qual st f fd) (S : FnScope N ps (je st))
    (hb : ∀ (cdv : Value) (A : Around) (outer : List Env) (s : Shared) (H : Hp) (E : XK), Room k (A.deeper (envOfC qual (je st) s.heap.objs.size f cdv)) → DSs (cxOf CX0 P w K mg base N qual (je st) f cdv A outer s H E).nox (jD st) g)
    (hF : ∀ ds d, ds.length = ps.length → F ds = .ok d → Meets fr N.length g ds d) :
    FnOk P w K mg base CX0 (k + 1) f fd ps (spF K fr ps.length F) := by
 with_unfolding_all exact (by
  refine Fu.ok S (fun vs H Q E ⟨B, ds, d, hl, _⟩ => hl) (fun cdv A outer s H vs Q E hr h => ?_)
  obtain ⟨B, ds, d, hl, r, e, q⟩ := h
  refine ⟨_, hb cdv A outer s H E hr, ?_⟩
  have kk := Vm (N := N) r
  rcases hF ds d (by rw [← r.length]; exact hl) e with ⟨fr', z, hf⟩ | ⟨rfl, env', z⟩
  · exact ⟨_, H, _, _, kk, z, fun v H' s r nt => q v H' s r fun hh => nt (hf hh)⟩
  · exact ⟨_, H, _, _, kk, z, fun σ' H' k' f' => q .non H' k'.base .non fun _ a e => by cases e⟩)
end
open PySem.W in
theorem uY {ns : List Int} (h : WData.layableAll [WData.list (ns.map WData.int)] = true) : ∀ n ∈ ns, Builtin.Int.intBits n ≤ 2 ^ 20 := fun n hn => by
  have h1 := layableW_arg h _ List.mem_cons_self
  have h2 := layableW_item h1 (.int n) (List.mem_map.mpr ⟨n, hn, rfl⟩)
  have h3 := (layableW_iff.mp h2).2.2
  simpa only [WData.weight, Builtin.Int.intBits] using h3
open PySem.W PySem.Calls Att in
theorem Ww {l : OpenLaw} {n : Nat} {q : Program} {loose : List Str} {XP : (Str → Option Value) → Heap → Prop} {YP : World → Heap → Prop} {d : DefRec}
    (hn : l.most = some n) (hdf : d.params.defaults = [])
    (call : ∀ (w : World) (s₀ s₁ : Shared) (mg mb : Str → Option Value) (fa : Addr) (o : Obj) (pm cd doc : Value) (a : Addr) (vs : List Value) (ns : List Int),
      Ground q loose [] XP w s₀ mg mb s₁.heap → YP w s₁.heap →
      s₁.heap.get? fa = some o → o.data = .func (docDef d.name d.params d.body d.scope pm cd doc) → s₁.heap.CodeRec cd d.name → mg d.name = some (.ref fa) →
      s₁.heap.get? a = some { cls := .type "list", data := .seq vs.toArray } → IntsAre vs ns → ns.length ≤ n → (∀ n ∈ ns, Builtin.Int.intBits n ≤ 2 ^ 20) → s₁.gens = #[] →
      codeAny (model l.prog w) callerA (.call (.ref fa) ⟨[.ref a], []⟩) (fun r s' => r = .ok (.ret (.bool true)) ∧ OldK s₁.heap s'.heap ∧ s'.os = s₁.os ∧ AllBare s'.gens) s₁) :
    WalkO q loose XP YP l.row.toRowW d [] (fun f vs => PySem.call f vs) := by
  intro w s₀ s₁ mg mb G Y fa o pm cd doc dV kV ho hd hcd hD hmg hg args vals as hpre hlay hrd hwl hlo
  obtain rfl : dV = .none := Dflts.none hD hdf
  obtain rfl : kV = .none := Dflts.noKw hD
  obtain ⟨a, vs, ns, rfl, rfl, hobj, hints, hlen⟩ := Y1 hn hpre hwl
  refine enter_call (codeAny_mono (call w s₀ s₁ mg mb fa o pm cd doc a vs ns G Y ho (fd_plain hd) hcd hmg hobj hints hlen (uY hlay) hg) fun r s' hq => ?_)
  obtain ⟨rfl, h2, h3, h4⟩ := hq
  exact ⟨.inl ⟨.bool true, .bool true, [], rfl, fun _ => rfl, .bool true, Kd l _, fun _ => ⟨List.Pairwise.nil, fun _ hm => (nomatch hm)⟩⟩, h2, h3, h4⟩
theorem Uu {K : PySem.W.Frag} {H : Hp} {a : Addr} {xs : List V} (hO : Only H) (h : SqL K H a xs) : LsK K H a xs := by
  rcases h with (h | h) | h
  · rcases hO a with z | ⟨o, ys, z⟩
    · rw [z] at h; cases h
    · rw [z] at h; cases h
  · exact .inl h
  · exact .inr h
theorem Xb {K : PySem.W.Frag} {A : Addr → Prop} {H : Hp} : ∀ ns : List Int, Reps K A H (ns.map V.int) (ns.map D.int)
  | [] => .nil
  | n :: r => .cons (.int n) (Xb r)
theorem walk_law {l : PySem.W.OpenLaw} {n k : Nat} {q : Program} {loose : List Str} {XP : (Str → Option Value) → Heap → Prop} {YP : World → Heap → Prop} {d : DefRec} {K : Params → PySem.W.Frag} {F : List D → Res D} {x : Str}
    (hn : l.most = some n) (hn2 : n ≤ sizeLine) (hdf : d.params.defaults = []) (hr : Room k callerA)
    (hY : ∀ (w : World) (h : Heap), YP w h → (K w.params).In h)
    (hF : ∀ (w : World) (mg : Str → Option Value) (fa : Addr) (h : Heap), (K w.params).In h → h.Ns mainGlobals mg → mg d.name = some (.ref fa) →
      ∃ fd : FuncData, (∀ (s : Shared) (u : Value), BindsTo s fd ⟨[u], []⟩ [(x, u)]) ∧
        ∀ base : Heap, (K w.params).In base → base.Ns mainGlobals mg → FnOk l.prog w (K w.params) mg base CX0 k fa fd [x] (spF (K w.params) true 1 F))
    (ht : ∀ ns : List Int, ns.length ≤ n → (∀ i ∈ ns, Builtin.Int.intBits i ≤ 2 ^ 20) → F [.scr (ns.map D.int)] = .ok (.bl true)) :
    PySem.W.WalkO q loose XP YP l.row.toRowW d [] (fun f vs => PySem.call f vs) := by
  refine Ww hn hdf fun w s₀ s₁ mg mb fa o pm cd doc a vs ns G Y ho hd hcd hmg hobj hints hlen hbits hg => ?_
  have KX := hY w _ Y
  obtain ⟨fd, hb, hFn⟩ := hF w mg fa _ KX G.T.g hmg
  refine UH KX G.T.g G.T.b G.T.builtins G.T.nolimit hg hobj hints (Nat.le_trans hlen hn2) hr hFn hb (fun H hO hS => ?_) fun H e s' h => h
  exact ⟨Any, _, _, rfl, .cons (.lsk (Uu hO hS) (Xb ns)) .nil, ht ns hlen hbits, fun v H' _ r _ => r.blE⟩
end M
namespace M
open PySem PySem.Spec L2
open PyProof.Rows hiding St
section
variable {X : Cx} {K : PySem.W.Frag}
def iOp (C : Int → Int → Prop) [∀ i j, Decidable (C i j)] (g : Int → Int → D) : D → D → Res D
  | .int i, .int j => must (C i j) (.ok (g i j))
  | _, _ => .stuck
theorem K1 {C : Int → Int → Prop} [∀ i j, Decidable (C i j)] {g : Int → Int → D} {a b d : D} (h : iOp C g a b = .ok d) : ∃ i j, a = .int i ∧ b = .int j ∧ C i j ∧ d = g i j := by
  unfold iOp at h
  split at h
  · obtain ⟨h1, h2⟩ := jB h
    cases h2
    exact ⟨_, _, rfl, rfl, h1, rfl⟩
  · cases h
theorem od_I {C C' : Int → Int → Prop} [∀ i j, Decidable (C i j)] {h : Int → Int → V} {g : Int → Int → D} (w : ∀ i j, C i j → C' i j) (r : ∀ i j, Sc K (h i j) (g i j)) : OpS K (rI C' h) (iOp C g) := by
  intro x y H a b d Q ra rb e q
  obtain ⟨i, j, rfl, rfl, hc, rfl⟩ := K1 e
  exact ⟨i, j, ra.intE, rb.intE, w i j hc, q _ (r i j)⟩
abbrev Jy : Int → Int → Prop := fun _ _ => True
instance : ∀ i j, Decidable (Jy i j) := fun _ _ => inferInstanceAs (Decidable True)
theorem Uz {h : Int → Int → V} {g : Int → Int → D} (r : ∀ i j, Sc K (h i j) (g i j)) : OpS K (rI0 h) (iOp Jy g) := by
  intro x y H a b d Q ra rb e q
  obtain ⟨i, j, rfl, rfl, hc, rfl⟩ := K1 e
  exact ⟨i, j, ra.intE, rb.intE, q _ (r i j)⟩
theorem Y2 {v : V} {d : D} {H : Hp} (h : Sc K v d) : NewTop H v := fun a e => absurd e (h.2 a)
def addD : D → D → Res D
  | .int i, .int j => .ok (.int (i + j))
  | .str i, .str j => must (i.length + j.length ≤ sizeLine) (.ok (.str (i ++ j)))
  | .lst a, .lst b => must (a.length + b.length ≤ sizeLine) (.ok (.lst (a ++ b)))
  | .tup a, .tup b => must (a.isEmpty = false ∧ a.length + b.length ≤ sizeLine) (.ok (.tup (a ++ b)))
  | _, _ => .stuck
theorem jS : OpR X (binaryOp .Add) (fun x y H Q => rI0 (fun i j => .int (i + j)) x y H Q ∨ (∃ i j, x = .str i ∧ y = .str j ∧ i.length + j.length ≤ sizeLine ∧ Q (.str (i ++ j)) H) ∨ rCat x y H Q ∨ Y5 X.K x y H Q) :=
  op_add.or (op_add_str.or (op_cat.or uc))
theorem Reps.len_app {A : Addr → Prop} {H : Hp} {xs ys : List V} {a b : List D} (r : Reps K A H xs a) (s : Reps K A H ys b) (h : a.length + b.length ≤ sizeLine) : xs.length + ys.length ≤ sizeLine := by rw [r.length, s.length]; exact h
theorem orA {A : Addr → Prop} {H : Hp} : ∀ c, A c → (H c = none ∨ A c) := fun _ z => .inr z
theorem qj : OpD K (fun x y H Q => rI0 (fun i j => .int (i + j)) x y H Q ∨ (∃ i j, x = .str i ∧ y = .str j ∧ i.length + j.length ≤ sizeLine ∧ Q (.str (i ++ j)) H) ∨ rCat x y H Q ∨ Y5 K x y H Q) addD := by
  intro A x y H a b d Q ra rb e q
  unfold addD at e
  split at e
  · cases e
    exact .inl ⟨_, _, ra.intE, rb.intE, q _ H (Same.refl H) (.int _) (Y2 (wb (K := K) _))⟩
  · obtain ⟨h1, h2⟩ := jB e
    cases h2
    have hl : ∀ i j : Str, i.length + j.length ≤ sizeLine → (i ++ j).length ≤ sizeLine := fun i j h => by rw [strLen_append]; exact h
    exact .inr (.inl ⟨_, _, ra.strE.1, rb.strE.1, h1, q _ H (Same.refl H) (.str _ (hl _ _ h1)) (Y2 (WJ (K := K) _ (hl _ _ h1)))⟩)
  · obtain ⟨h3, h4⟩ := jB e
    cases h4
    obtain ⟨l, xs, rfl, hl, _, rx⟩ := ra.lstE
    obtain ⟨l', ys, rfl, hl', _, ry⟩ := rb.lstE
    refine .inr (.inr (.inl ⟨l, l', xs, ys, rfl, rfl, hl, hl', rx.low.len_app ry.low h3, fun p hp => q _ _ (Same.upd hp) ?_ (j4 (Same.refl H) hp)⟩))
    exact .lst jA (.inl hp) (((rx.low.append ry.low).laid hp).weak fun c z => ⟨.inr z.1, z.2⟩)
  · obtain ⟨⟨h3, h4⟩, h5⟩ := jB e
    cases h5
    obtain ⟨l, xs, rfl, hl, rx⟩ := ra.tupE
    obtain ⟨l', ys, rfl, hl', ry⟩ := rb.tupE
    refine .inr (.inr (.inr ⟨l, l', xs, ys, rfl, rfl, .of hl, .of hl', fun z => ?_, rx.len_app ry h4, fun z => ?_, fun z p hp => q _ _ (Same.upd hp) ?_ (j4 (Same.refl H) hp)⟩))
    · subst z; cases rx; cases h3
    · subst z
      cases ry
      rw [List.append_nil] at q
      refine q _ H (Same.refl H) (.tup hl (rx.weak orA)) fun a e o q' m => ?_
      cases e; rw [hl] at q'; cases q'; exact m
    · exact .tup jA (((rx.append ry).weak orA).grow (Same.upd hp))
  · cases e
theorem Ku : OpS K (rI0 fun i j => .int (i - j)) (iOp Jy fun i j => .int (i - j)) := Uz fun i j => wb _
abbrev MulC : Int → Int → Prop := fun i j => Builtin.Int.intBits i + Builtin.Int.intBits j ≤ 134217728
theorem wU : OpR X (binaryOp .Mult) (rI MulC fun i j => .int (i * j)) := opI fun _ _ _ _ _ _ _ hc q => mul_int q (IntMulOk.of_le (Nat.le_refl _) (Nat.le_refl _) hc)
theorem yo : OpS K (rI MulC fun i j => .int (i * j)) (iOp MulC fun i j => .int (i * j)) := od_I (fun _ _ h => h) fun i j => wb _
abbrev DivC : Int → Int → Prop := fun _ j => 0 < j ∧ j < 1073741824
theorem Kv : OpS K (rI CDiv fun i j => .int (i / j)) (iOp DivC fun i j => .int (i / j)) := od_I (fun _ _ h => h) fun i j => wb _
abbrev PosC : Int → Int → Prop := fun _ j => 0 < j
theorem zD : OpS K (rI (fun _ j => 0 < j) fun i j => .int (i % j)) (iOp PosC fun i j => .int (i % j)) := od_I (fun _ _ h => h) fun i j => wb _
abbrev PowC : Int → Int → Prop := fun i j => 0 ≤ j ∧ j ≤ 1000000 ∧ i.natAbs < 2 ^ 64
theorem Za : OpS K (rI CPow fun i j => .int (i ^ j.toNat)) (iOp PowC fun i j => .int (i ^ j.toNat)) := od_I (fun _ _ h => h) fun i j => wb _
theorem jbR : OpS K (rI0 fun i j => .bl (decide (i < j))) (iOp Jy fun i j => .bl (decide (i < j))) := Uz fun i j => xG _
theorem X9 : OpS K (rI0 fun i j => .bl (decide (i ≤ j))) (iOp Jy fun i j => .bl (decide (i ≤ j))) := Uz fun i j => xG _
theorem Uy : OpS K (rI0 fun i j => .bl (decide (j < i))) (iOp Jy fun i j => .bl (decide (j < i))) := Uz fun i j => xG _
def inS (i j : Str) : Bool := !(Builtin.Str.occurrences j i 0 j.length 1).isEmpty
def inD : D → D → Res D
  | .str i, .str j => .ok (.bl (inS i j))
  | _, _ => .stuck
theorem jaS : OpS K (fun x y H Q => ∃ i j, x = .str i ∧ y = .str j ∧ Q (.bl (!(Builtin.Str.occurrences j i 0 j.length 1).isEmpty)) H) inD := by
  intro x y H a b d Q ra rb e q
  unfold inD at e
  split at e
  · cases e
    exact ⟨_, _, ra.strE.1, rb.strE.1, q _ (xG _)⟩
  · cases e
def lenD : List D → Res D
  | [.lst ds] => .ok (.int ds.length)
  | [.scr ds] => .ok (.int ds.length)
  | [.tup ds] => .ok (.int ds.length)
  | [.str z] => .ok (.int z.length)
  | _ => .stuck
theorem j6 : CallR X (.builtin "len") (fun xs H Q => (∃ p ys, xs = [.ref p] ∧ (SqL X.K H p ys ∨ SqT X.K H p ys) ∧ Q (.int ys.length) H) ∨ (∃ z, xs = [.str z] ∧ z.length ≤ sizeLine ∧ Q (.int z.length) H)) := call_len_seq.or ZG
theorem wo : kM K (fun xs H Q => (∃ p ys, xs = [.ref p] ∧ (SqL K H p ys ∨ SqT K H p ys) ∧ Q (.int ys.length) H) ∨ (∃ z, xs = [.str z] ∧ z.length ≤ sizeLine ∧ Q (.int z.length) H)) lenD := by
  intro xs H ds d Q r e q
  unfold lenD at e
  split at e
  · cases e
    obtain ⟨v, rfl, r1⟩ := r.one
    obtain ⟨p, ys, rfl, hp, _, ry⟩ := r1.lstE
    exact .inl ⟨p, ys, rfl, .inl (.of hp), by rw [ry.length]; exact q _ (wb _)⟩
  · cases e
    obtain ⟨v, rfl, r1⟩ := r.one
    obtain ⟨p, ys, rfl, hp, ry⟩ := r1.scrE
    exact .inl ⟨p, ys, rfl, .inl hp.sql, by rw [ry.length]; exact q _ (wb _)⟩
  · cases e
    obtain ⟨v, rfl, r1⟩ := r.one
    obtain ⟨p, ys, rfl, hp, ry⟩ := r1.tupE
    exact .inl ⟨p, ys, rfl, .inr (.of hp), by rw [ry.length]; exact q _ (wb _)⟩
  · cases e
    obtain ⟨v, rfl, r1⟩ := r.one
    obtain ⟨rfl, hz⟩ := r1.strE
    exact .inr ⟨_, rfl, hz, q _ (wb _)⟩
  · cases e
def YO : List D → Res D
  | [.lst ds] => (.ok (.tup ds))
  | [.tup ds] => (.ok (.tup ds))
  | _ => .stuck
theorem YQ {H : Hp} {p : Addr} {xs : List V} (h : H p = some (.tup xs)) : NewTop H (.ref p) := fun a e o q m => by
  cases e; rw [h] at q; cases q; exact m
theorem kF : QG K (fun xs H Q => ∃ p ys, xs = [.ref p] ∧ ((SqL K H p ys ∧ ∀ l, H l = none → Q (.ref l) (upd H l (.tup ys))) ∨ (SqT K H p ys ∧ Q (.ref p) H))) YO := by
  intro A xs H ds d Q r e q
  unfold YO at e
  split at e
  · cases e
    obtain ⟨v, rfl, r1⟩ := r.one
    obtain ⟨p, ys, rfl, hp, _, ry⟩ := r1.lstE
    exact ⟨p, ys, rfl, .inl ⟨.of hp, fun l hl => q _ _ (Same.upd hl) (.tup jA ((ry.low.weak orA).grow (Same.upd hl))) (j4 (Same.refl H) hl)⟩⟩
  · cases e
    obtain ⟨v, rfl, r1⟩ := r.one
    obtain ⟨p, ys, rfl, hp, ry⟩ := r1.tupE
    exact ⟨p, ys, rfl, .inr ⟨.of hp, q _ H (Same.refl H) (.tup hp (ry.weak orA)) (YQ hp)⟩⟩
  · cases e
def UF : List D → Res D
  | [.lst ds] => (.ok (.lst ds))
  | [.tup ds] => (.ok (.lst ds))
  | _ => .stuck
theorem VE : QG K (fun xs H Q => ∃ p ys, xs = [.ref p] ∧ (SqL K H p ys ∨ SqT K H p ys) ∧ ∀ l, H l = none → Q (.ref l) (upd H l (.lst ys))) UF := by
  intro A xs H ds d Q r e q
  unfold UF at e
  split at e
  · cases e
    obtain ⟨v, rfl, r1⟩ := r.one
    obtain ⟨p, ys, rfl, hp, _, ry⟩ := r1.lstE
    exact ⟨p, ys, rfl, .inl (.of hp), fun l hl => q _ _ (Same.upd hl) (.lst jA (.inl hl) ((ry.low.laid hl).weak fun c z => ⟨.inr z.1, z.2⟩)) (j4 (Same.refl H) hl)⟩
  · cases e
    obtain ⟨v, rfl, r1⟩ := r.one
    obtain ⟨p, ys, rfl, hp, ry⟩ := r1.tupE
    exact ⟨p, ys, rfl, .inr (.of hp), fun l hl => q _ _ (Same.upd hl) (.lst jA (.inl hl) ((ry.laid hl).weak fun c z => ⟨.inr z.1, z.2⟩)) (j4 (Same.refl H) hl)⟩
  · cases e
def tyN : D → Option String
  | .non => some "NoneType"
  | .bl _ => some "bool"
  | .int _ => some "int"
  | .str _ => some "str"
  | .tup _ => some "tuple"
  | .lst _ => some "list"
  | .scr _ => none
  | .dic _ _ => some "dict"
  | .dit _ _ => some "dict"
  | .exn _ => none
  | .fdc _ _ => none
  | .hdc _ _ => none
  | .obj _ _ _ => none
theorem jby {A : Addr → Prop} {H : Hp} {v : V} {d : D} {n : String} (r : Rep K A H v d) (h : tyN d = some n) : TyOf K H v (.type n) := by
  cases r with
  | non => cases h; exact .non
  | bl b => cases h; exact .bl b
  | int i => cases h; exact .int i
  | str x _ => cases h; exact .str x
  | tup e _ => cases h; exact .tup e
  | lst e _ _ => cases h; exact .lst e
  | lsk _ _ => cases h
  | dic e _ _ _ _ => cases h; exact .dK e
  | dit e _ _ _ _ => cases h; exact .dT e
  | exn _ _ _ => cases h
  | fdc _ _ _ _ => cases h
  | hdc _ _ _ _ => cases h
  | obj _ _ _ _ _ => cases h
def isTy (T n : String) : Bool := n == T || (T == "int" && n == "bool")
def IsTy (T : String) : Prop := ∀ (K : PySem.W.Frag) (n : String), n ∈ ["NoneType", "bool", "int", "str", "tuple", "list", "dict"] → PySem.W.kitOne K (.type n) (.type T) = some (isTy T n)
theorem jaa {d : D} {n : String} (h : tyN d = some n) : n ∈ ["NoneType", "bool", "int", "str", "tuple", "list", "dict"] := by
  cases d <;> first | (cases h; done) | (cases h; decide)
theorem y6 {T : String} (h : ∀ (K : PySem.W.Frag), PySem.W.kitOne K (.type "NoneType") (.type T) = some (isTy T "NoneType") ∧ PySem.W.kitOne K (.type "bool") (.type T) = some (isTy T "bool") ∧ PySem.W.kitOne K (.type "int") (.type T) = some (isTy T "int") ∧
    PySem.W.kitOne K (.type "str") (.type T) = some (isTy T "str") ∧ PySem.W.kitOne K (.type "tuple") (.type T) = some (isTy T "tuple") ∧ PySem.W.kitOne K (.type "list") (.type T) = some (isTy T "list") ∧ PySem.W.kitOne K (.type "dict") (.type T) = some (isTy T "dict")) : IsTy T := by
  intro K n hn
  obtain ⟨h1, h2, h3, h4, h5, h6, h7⟩ := h K
  simp only [List.mem_cons, List.not_mem_nil, or_false] at hn
  rcases hn with rfl | rfl | rfl | rfl | rfl | rfl | rfl <;> assumption
theorem Xa : IsTy "int" := y6 fun K => ⟨rfl, rfl, rfl, rfl, rfl, rfl, rfl⟩
theorem Zl : IsTy "bool" := y6 fun K => ⟨rfl, rfl, rfl, rfl, rfl, rfl, rfl⟩
theorem UK : IsTy "str" := y6 fun K => ⟨rfl, rfl, rfl, rfl, rfl, rfl, rfl⟩
theorem qu : IsTy "tuple" := y6 fun K => ⟨rfl, rfl, rfl, rfl, rfl, rfl, rfl⟩
theorem Zk : IsTy "list" := y6 fun K => ⟨rfl, rfl, rfl, rfl, rfl, rfl, rfl⟩
def isiD (T : String) (d : D) : Res D := match tyN d with
  | some n => .ok (.bl (isTy T n))
  | none => .stuck
theorem kI (T : String) (h : IsTy T) : CallR X (.builtin "isinstance") (fun xs H Q => ∃ x d, xs = [x, .ty T] ∧ Rep X.K Any H x d ∧ ∃ b, isiD T d = .ok (.bl b) ∧ Q (.bl b) H) := by
  intro pins s σ H xs us Q I r ⟨x, d, ex, rp, b, e, q⟩
  subst ex
  obtain ⟨u, w', rfl, r1, r2⟩ := vA r
  cases (show w' = Value.type T from r2)
  unfold isiD at e
  split at e
  · rename_i n hn
    cases e
    refine KR I r1 (jby rp hn) (h X.K n (jaa hn)) fun tk => ⟨.bl _, H, I.tok tk, rfl, q⟩
  · cases e
def isiF (T : String) (f : Sl → Res D) : Sl → Res D := fun env => f env >>= isiD T
theorem zn (T : String) (Ty : Str) {l l' : Lv} {e : Expr} {f : Sl → Res D} {p p2 pos : Pos} (ht : IsTy T) (he : DE X l e f) (hg : Gl X "isinstance") (hm : X.mg "isinstance" = none) (hg2 : Gl X Ty) (hm2 : X.mg Ty = none) (hv : bootBuiltins Ty = some (.type T))
    (hn : Ty ≠ "__name__" := by decide) (hd : (Ty == ("__debug__" : Str)) = false := by decide) (hs : starEach [e, .Name Ty p2] X.env = (false, eval e X.env) :: starEach [.Name Ty p2] X.env := by exact jx rfl)
    (hs2 : starEach [.Name Ty p2] X.env = (false, eval (.Name Ty p2) X.env) :: starEach [] X.env := by exact jx rfl) (hpl : (backTo pos (starEach [.Name Ty p2] X.env)).any (·.1) = false := by exact jR rfl) :
    DE X l' (.Call (.Name "isinstance" p) [e, .Name Ty p2] [] pos) (isiF T f) := by
 with_unfolding_all exact (
  PE.imp (yw (kI T ht) hg hm boot_isinstance (qA he (qA (v0 (v := .ty T) hg2 hm2 hv rfl hn hd) wN hs2) hs) (by decide) (by decide) hs hpl) fun σ H Q ⟨G, H0, env, d, k, ef, q⟩ => by
    obtain ⟨a, e1, e2⟩ := jc ef
    refine ⟨G, H0, env, a, k, e1, fun v H' s r _ => ?_⟩
    have hb : ∃ b, d = .bl b := by
      unfold isiD at e2
      split at e2
      · cases e2; exact ⟨_, rfl⟩
      · cases e2
    obtain ⟨b, rfl⟩ := hb
    exact ⟨v, a, rfl, r.weak Lv.weak_b, b, e2, q _ H' s (.bl b) (xG (K := X.K) b).T⟩)
def Jx : List D → Option (List Bool)
  | [] => some []
  | .bl b :: r => (Jx r).map (b :: ·)
  | _ => none
theorem ZK : ∀ {ds : List D} {bs : List Bool}, Jx ds = some bs → ds = bs.map D.bl
  | [], bs, h => by cases h; rfl
  | d :: r, bs, h => by
    cases d with
    | bl b =>
      simp only [Jx, Option.map_eq_some_iff] at h
      obtain ⟨bs', h1, rfl⟩ := h
      rw [ZK h1]; rfl
    | _ => cases h
theorem kK (bs : List Bool) : Jx (bs.map D.bl) = some bs := by
  induction bs with
  | nil => rfl
  | cons b r ih => simp [Jx, ih]
def allD : List D → Res D
  | [.lst ds] => match Jx ds with
    | some bs => .ok (.bl (bs.all id))
    | none => .stuck
  | _ => .stuck
theorem JE {A : Addr → Prop} {H : Hp} : ∀ {bs : List Bool} {xs : List V}, Reps K A H xs (bs.map D.bl) → xs = bs.map V.bl
  | [], _, .nil => rfl
  | b :: bs, _, .cons h t => by rw [h.blE, JE t]; rfl
theorem Jz : ∀ {bs : List Bool} {us : List Value}, Vals (bs.map V.bl) us → us = bs.map Value.bool
  | [], _, .nil => rfl
  | b :: bs, _, .cons h t => by
    rw [Jz t]
    have : _ = Value.bool b := h
    rw [this]; rfl
theorem xV (hc : X.calm = true) : CallR X (.builtin "all") (fun xs H Q => ∃ (p : Addr) (bs : List Bool), xs = [.ref p] ∧ SqL X.K H p (bs.map V.bl) ∧ Q (.bl (bs.all id)) H) := by
  intro pins s σ H xs us Q I r ⟨p, bs, ex, hq, q⟩
  subst ex
  obtain ⟨u, rfl, ru⟩ := yq r
  cases ru
  obtain ⟨its, rv, pl, hz⟩ := I.list hq
  have hits := Jz rv
  subst hits
  refine call_all_walk (wpAny_pyIter_list pl.isList ?_)
  have hne : p ≠ s.heap.objs.size := by
    obtain ⟨o, n, e, _⟩ := pl
    exact Nat.ne_of_lt (Heap.lt_size e)
  refine ⟨s.heap.objs.size, _, _, _, _, _, fun i => (bs[i]?).getD true, rfl, Walks.list (show X.A.in1.handled = none from I.ok.hd hc) s.heap.objs.size p hne (bs.map Value.bool).toArray, ⟨⟨_, Heap.get?_push_size _ rfl, rfl, rfl⟩, pl.isList.at fun o e => Heap.get?_push_of_some _ e⟩, ?_, fun h' tk kk => ?_⟩
  · intro i v s' Q' E' hP hQ
    have hP' : (bs.map Value.bool)[i]? = some v := by simpa using hP
    rw [List.getElem?_map] at hP'
    cases e : bs[i]? with
    | none => rw [e] at hP'; cases hP'
    | some b =>
      rw [e] at hP'
      cases hP'
      dsimp only at hQ
      rw [e] at hQ
      exact wpAny_truthy_bool hQ
  · have hn : (bs.map Value.bool).toArray.size = bs.length := by simp
    have e : ((List.range (bs.map Value.bool).toArray.size).all fun i => (bs[i]?).getD true) = bs.all id := by
      rw [hn, Bool.eq_iff_iff, List.all_eq_true, List.all_eq_true]
      constructor
      · intro hh b hb
        obtain ⟨i, hi, rfl⟩ := List.mem_iff_getElem.mp hb
        have := hh i (List.mem_range.mpr hi)
        rw [List.getElem?_eq_getElem hi] at this
        exact this
      · intro hh i hi
        have hi' := List.mem_range.mp hi
        rw [List.getElem?_eq_getElem hi']
        exact hh _ (List.getElem_mem hi')
    rw [e]
    refine ⟨.bl _, H, ?_, rfl, q⟩
    exact I.kept (t' := tk) fun b o e => kk b o (by
      intro z
      have hb : b = s.heap.objs.size := by simpa using z
      exact absurd (Heap.lt_size e) (by rw [hb]; exact Nat.lt_irrefl _)) (Heap.get?_push_of_some _ e)
theorem XB : kM K (fun xs H Q => ∃ (p : Addr) (bs : List Bool), xs = [.ref p] ∧ SqL K H p (bs.map V.bl) ∧ Q (.bl (bs.all id)) H) allD := by
  intro xs H ds d Q r e q
  unfold allD at e
  split at e
  · split at e
    · rename_i bs hbs
      cases e
      obtain ⟨v, rfl, r1⟩ := r.one
      obtain ⟨p, ys, rfl, hp, _, ry⟩ := r1.lstE
      rw [ZK hbs] at ry
      have := JE ry
      subst this
      exact ⟨p, bs, rfl, .of hp, q _ (xG _)⟩
    · cases e
  · cases e
end
end M
namespace M
open PySem PySem.Spec L2
open PyProof.Rows hiding St
open PySem.SeqAt (EqAt RcAt RcNeAt)
mutual
theorem D.ind {P : D → Prop} (h0 : P .non) (h1 : ∀ b, P (.bl b)) (h2 : ∀ i, P (.int i)) (h3 : ∀ x, P (.str x)) (h4 : ∀ ds, (∀ d ∈ ds, P d) → P (.tup ds)) (h5 : ∀ ds, (∀ d ∈ ds, P d) → P (.lst ds))
    (h6 : ∀ ds, (∀ d ∈ ds, P d) → P (.scr ds)) (h7 : (∀ ks ds, (∀ d ∈ ds, P d) → P (.dic ks ds)) ∧ (∀ ks ds, (∀ d ∈ ds, P d) → P (.dit ks ds)) ∧ (∀ c, P (.exn c)) ∧ (∀ ks ds, (∀ d ∈ ds, P d) → P (.fdc ks ds)) ∧ (∀ ks ds, (∀ d ∈ ds, P d) → P (.hdc ks ds)) ∧ ∀ c ns ds, (∀ d ∈ ds, P d) → P (.obj c ns ds)) : ∀ d, P d
  | .non => h0
  | .bl b => h1 b
  | .int i => h2 i
  | .str x => h3 x
  | .tup ds => h4 ds (D.inds h0 h1 h2 h3 h4 h5 h6 h7 ds)
  | .lst ds => h5 ds (D.inds h0 h1 h2 h3 h4 h5 h6 h7 ds)
  | .scr ds => h6 ds (D.inds h0 h1 h2 h3 h4 h5 h6 h7 ds)
  | .dic ks ds => h7.1 ks ds (D.inds h0 h1 h2 h3 h4 h5 h6 h7 ds)
  | .dit ks ds => h7.2.1 ks ds (D.inds h0 h1 h2 h3 h4 h5 h6 h7 ds)
  | .exn c => h7.2.2.1 c
  | .fdc ks ds => h7.2.2.2.1 ks ds (D.inds h0 h1 h2 h3 h4 h5 h6 h7 ds)
  | .hdc ks ds => h7.2.2.2.2.1 ks ds (D.inds h0 h1 h2 h3 h4 h5 h6 h7 ds)
  | .obj c ns ds => h7.2.2.2.2.2 c ns ds (D.inds h0 h1 h2 h3 h4 h5 h6 h7 ds)
theorem D.inds {P : D → Prop} (h0 : P .non) (h1 : ∀ b, P (.bl b)) (h2 : ∀ i, P (.int i)) (h3 : ∀ x, P (.str x)) (h4 : ∀ ds, (∀ d ∈ ds, P d) → P (.tup ds)) (h5 : ∀ ds, (∀ d ∈ ds, P d) → P (.lst ds))
    (h6 : ∀ ds, (∀ d ∈ ds, P d) → P (.scr ds)) (h7 : (∀ ks ds, (∀ d ∈ ds, P d) → P (.dic ks ds)) ∧ (∀ ks ds, (∀ d ∈ ds, P d) → P (.dit ks ds)) ∧ (∀ c, P (.exn c)) ∧ (∀ ks ds, (∀ d ∈ ds, P d) → P (.fdc ks ds)) ∧ (∀ ks ds, (∀ d ∈ ds, P d) → P (.hdc ks ds)) ∧ ∀ c ns ds, (∀ d ∈ ds, P d) → P (.obj c ns ds)) : ∀ ds : List D, ∀ d ∈ ds, P d
  | [], _, h => by cases h
  | x :: r, d, h => by
    have p := D.ind h0 h1 h2 h3 h4 h5 h6 h7 x
    have q := D.inds h0 h1 h2 h3 h4 h5 h6 h7 r
    rcases List.mem_cons.mp h with z | z
    · rw [z]; exact p
    · exact q d z
end
mutual
def D.dep : D → Nat
  | .tup ds => D.deps ds + 1
  | .lst ds => D.deps ds + 1
  | _ => 0
def D.deps : List D → Nat
  | [] => 0
  | d :: ds => max (D.dep d) (D.deps ds)
end
mutual
def D.eqb : D → Bool
  | .scr _ => false
  | .dic _ _ => false
  | .dit _ _ => false
  | .exn _ => false
  | .fdc _ _ => false
  | .hdc _ _ => false
  | .obj _ _ _ => false
  | .tup ds => D.eqbs ds
  | .lst ds => D.eqbs ds
  | _ => true
def D.eqbs : List D → Bool
  | [] => true
  | d :: ds => D.eqb d && D.eqbs ds
end
mutual
def eqD : D → D → Bool
  | .non, .non => true
  | .bl a, .bl b => a == b
  | .bl a, .int j => (if a then 1 else 0) == j
  | .int i, .bl b => i == (if b then 1 else 0)
  | .int i, .int j => i == j
  | .str x, .str y => x == y
  | .tup a, .tup b => eqDs a b
  | .lst a, .lst b => eqDs a b
  | _, _ => false
def eqDs : List D → List D → Bool
  | [], [] => true
  | a :: as, b :: bs => eqD a b && eqDs as bs
  | _, _ => false
end
theorem xT : ∀ {ds : List D} {d : D}, d ∈ ds → D.dep d ≤ D.deps ds
  | x :: r, d, h => by
    simp only [D.deps]
    rcases List.mem_cons.mp h with rfl | h
    · omega
    · have := xT h; omega
theorem Qx : ∀ {ds : List D} {d : D}, D.eqbs ds = true → d ∈ ds → D.eqb d = true
  | x :: r, d, hb, h => by
    simp only [D.eqbs, Bool.and_eq_true] at hb
    rcases List.mem_cons.mp h with rfl | h
    · exact hb.1
    · exact Qx hb.2 h
theorem wZ : ∀ {ds : List D}, (∀ d ∈ ds, D.eqb d = true → eqD d d = true) → D.eqbs ds = true → eqDs ds ds = true
  | [], _, _ => by simp [eqDs]
  | d :: ds, h, hb => by
    simp only [D.eqbs, Bool.and_eq_true] at hb
    simp only [eqDs, Bool.and_eq_true]
    exact ⟨h d List.mem_cons_self hb.1, wZ (fun x hx => h x (List.mem_cons_of_mem _ hx)) hb.2⟩
theorem Qy (d : D) : D.eqb d = true → eqD d d = true := by
  refine D.ind (P := fun d => D.eqb d = true → eqD d d = true) ?_ ?_ ?_ ?_ ?_ ?_ ?_ ?_ d
  · intro _; simp [eqD]
  · intro b _; simp [eqD]
  · intro i _; simp [eqD]
  · intro x _; simp [eqD]
  · intro ds ih hb; simp only [eqD]; exact wZ ih (by simpa only [D.eqb] using hb)
  · intro ds ih hb; simp only [eqD]; exact wZ ih (by simpa only [D.eqb] using hb)
  · intro ds ih hb; simp [D.eqb] at hb
  · exact ⟨by intro ks ds ih hb; simp [D.eqb] at hb, by intro ks ds ih hb; simp [D.eqb] at hb, by intro c hb; simp [D.eqb] at hb, by intro ks ds ih hb; simp [D.eqb] at hb, by intro ks ds ih hb; simp [D.eqb] at hb, by intro c ns ds ih hb; simp [D.eqb] at hb⟩
section
variable {K : PySem.W.Frag} {H : Hp}
theorem Reps.inj_of : ∀ {A A' : Addr → Prop} {vs : List V} {ds ds' : List D}, (∀ d ∈ ds, ∀ (A A' : Addr → Prop) v d', D.eqb d = true → D.eqb d' = true → Rep K A H v d → Rep K A' H v d' → d = d') → D.eqbs ds = true → D.eqbs ds' = true → Reps K A H vs ds → Reps K A' H vs ds' → ds = ds'
  | _, _, _, _, _, _, _, _, .nil, .nil => rfl
  | _, _, _, _, _, h, hb, hb', .cons r t, .cons r' t' => by
    simp only [D.eqbs, Bool.and_eq_true] at hb hb'
    rw [h _ List.mem_cons_self _ _ _ _ hb.1 hb'.1 r r', Reps.inj_of (fun d hd => h d (List.mem_cons_of_mem _ hd)) hb.2 hb'.2 t t']
theorem Rep.inj (d : D) : ∀ (A A' : Addr → Prop) v d', D.eqb d = true → D.eqb d' = true → Rep K A H v d → Rep K A' H v d' → d = d' := by
  refine D.ind (P := fun d => ∀ (A A' : Addr → Prop) v d', D.eqb d = true → D.eqb d' = true → Rep K A H v d → Rep K A' H v d' → d = d') ?_ ?_ ?_ ?_ ?_ ?_ ?_ ?_ d
  · intro A A' v d' _ _ r r'; cases r.nonE; cases r'; rfl
  · intro b A A' v d' _ _ r r'; cases r.blE; cases r'; rfl
  · intro b A A' v d' _ _ r r'; cases r.intE; cases r'; rfl
  · intro b A A' v d' _ _ r r'; cases r.strE.1; cases r'; rfl
  · intro ds ih A A' v d' hb hd' r r'
    obtain ⟨a, xs, rfl, ha, rs⟩ := r.tupE
    have hb' : D.eqbs ds = true := by simpa only [D.eqb] using hb
    cases r' with
    | tup e rs' =>
      rw [ha] at e; cases e
      rw [Reps.inj_of ih hb' (by simpa only [D.eqb] using hd') rs rs']
    | lst e _ _ => rw [ha] at e; cases e
    | lsk e _ => simp [D.eqb] at hd'
    | dic e _ _ _ _ => rw [ha] at e; cases e
    | dit e _ _ _ _ => rw [ha] at e; cases e
    | exn e _ _ => rw [ha] at e; cases e
    | fdc e _ _ _ => rcases e with ⟨e, _⟩ | ⟨o, e⟩ <;> (rw [ha] at e; cases e)
    | hdc e _ _ _ => obtain ⟨o, e⟩ := e; rw [ha] at e; cases e
    | obj e _ _ _ _ => rw [ha] at e; cases e
  · intro ds ih A A' v d' hb hd' r r'
    obtain ⟨a, xs, rfl, ha, _, rs⟩ := r.lstE
    have hb' : D.eqbs ds = true := by simpa only [D.eqb] using hb
    cases r' with
    | tup e rs' => rw [ha] at e; cases e
    | lst e _ rs' =>
      rw [ha] at e; cases e
      rw [Reps.inj_of ih hb' (by simpa only [D.eqb] using hd') rs rs']
    | lsk e _ => simp [D.eqb] at hd'
    | dic e _ _ _ _ => rw [ha] at e; cases e
    | dit e _ _ _ _ => rw [ha] at e; cases e
    | exn e _ _ => rw [ha] at e; cases e
    | fdc e _ _ _ => rcases e with ⟨e, _⟩ | ⟨o, e⟩ <;> (rw [ha] at e; cases e)
    | hdc e _ _ _ => obtain ⟨o, e⟩ := e; rw [ha] at e; cases e
    | obj e _ _ _ _ => rw [ha] at e; cases e
  · intro ds ih A A' v d' hb; simp [D.eqb] at hb
  · exact ⟨by intro ks ds ih A A' v d' hb; simp [D.eqb] at hb, by intro ks ds ih A A' v d' hb; simp [D.eqb] at hb, by intro c A A' v d' hb; simp [D.eqb] at hb, by intro ks ds ih A A' v d' hb; simp [D.eqb] at hb, by intro ks ds ih A A' v d' hb; simp [D.eqb] at hb, by intro c ns ds ih A A' v d' hb; simp [D.eqb] at hb⟩
end
def Vl (a b : List D) (j : Nat) : Bool := match a[j]?, b[j]? with
  | some x, some y => eqD x y
  | _, _ => true
theorem xt : ∀ (a b : List D), a.length = b.length → eqDs a b = (List.range a.length).all (Vl a b)
  | [], [], _ => by simp [eqDs]
  | x :: a, y :: b, h => by
    have hl : a.length = b.length := by simpa using h
    rw [List.length_cons, List.range_succ_eq_map, List.all_cons, List.all_map]
    simp only [eqDs]
    rw [xt a b hl]
    congr 1
theorem xS : ∀ (a b : List D), a.length ≠ b.length → eqDs a b = false
  | [], [], h => absurd rfl h
  | [], y :: b, _ => by simp [eqDs]
  | x :: a, [], _ => by simp [eqDs]
  | x :: a, y :: b, h => by
    simp only [eqDs]
    rw [xS a b (by simpa using h), Bool.and_false]
theorem Xo (a b : List D) : eqDs a b = ((List.range (min a.length b.length)).all (Vl a b) && a.length == b.length) := by
  by_cases h : a.length = b.length
  · rw [xt a b h, h]; simp
  · rw [xS a b h]; simp [h]
section
variable {X : Cx} {pins : List (Addr × Obj)} {σ : L2.St} {H : Hp} {s : Shared}
inductive Cm (X : Cx) (H : Hp) (s : Shared) : Value → D → Prop where
  | non : Cm X H s .none .non
  | bl (b : Bool) : Cm X H s (.bool b) (.bl b)
  | int (i : Int) (t : Tok) : Cm X H s (.int i t) (.int i)
  | str (x : Str) (t : Tok) : Cm X H s (.str x t) (.str x)
  | tup {a : Addr} {xs : List V} {its : List Value} {ds : List D} : H a = some (.tup xs) → s.heap.IsTuple a its.toArray → Vals xs its → Reps X.K Any H xs ds → Cm X H s (.ref a) (.tup ds)
  | lst {a : Addr} {xs : List V} {its : List Value} {ds : List D} : H a = some (.lst xs) → s.heap.IsList a its.toArray → Vals xs its → Reps X.K Any H xs ds → Cm X H s (.ref a) (.lst ds)
theorem xU (I : Inv X pins σ H s) {v : V} {u : Value} {d : D} (r : Rep X.K Any H v d) (ru : RelV v u) (hb : D.eqb d = true) : Cm X H s u d := by
  cases r with
  | non => cases ru; exact .non
  | bl b => cases ru; exact .bl b
  | int i => obtain ⟨t, rfl⟩ := ru; exact .int i t
  | str x _ => obtain ⟨t, rfl⟩ := ru; exact .str x t
  | tup e rs =>
    cases ru
    obtain ⟨its, rv, p, hz⟩ := I.tuple (.of e)
    exact .tup e p rv rs
  | lst e _ rs =>
    cases ru
    obtain ⟨its, rv, p, hz⟩ := I.list (.of e)
    exact .lst e p.isList rv rs.low
  | lsk _ _ => simp [D.eqb] at hb
  | dic _ _ _ _ _ => simp [D.eqb] at hb
  | dit _ _ _ _ _ => simp [D.eqb] at hb
  | exn _ _ _ => simp [D.eqb] at hb
  | fdc _ _ _ _ => simp [D.eqb] at hb
  | hdc _ _ _ _ => simp [D.eqb] at hb
  | obj _ _ _ _ _ => simp [D.eqb] at hb
theorem UZ {A : Around} {xs ys : List V} {its its2 : List Value} {a b : List D} (ra : Reps X.K Any H xs a) (rb : Reps X.K Any H ys b) (va : Vals xs its) (vb : Vals ys its2)
    (ih : ∀ d ∈ a, ∀ (v v' : V) (u u' : Value) (d' : D), Rep X.K Any H v d → RelV v u → Rep X.K Any H v' d' → RelV v' u' → D.eqb d = true → D.eqb d' = true → EqAt A.in1 s u u' (eqD d d')) (ha : D.eqbs a = true) (hb : D.eqbs b = true) :
    ∀ j (h1 : j < its.toArray.size) (h2 : j < its2.toArray.size), EqAt A.in1 s its.toArray[j] its2.toArray[j] (Vl a b j) := by
  intro j h1 h2
  have l1 := va.length
  have l2 := vb.length
  have l3 := ra.length
  have l4 := rb.length
  have j1 : j < a.length := by simp at h1; omega
  have j2 : j < b.length := by simp at h2; omega
  obtain ⟨v, e1, r1⟩ := ra.get (List.getElem?_eq_getElem j1)
  obtain ⟨v', e2, r2⟩ := rb.get (List.getElem?_eq_getElem j2)
  obtain ⟨u, e3, r3⟩ := va.get e1
  obtain ⟨u', e4, r4⟩ := vb.get e2
  have g1 : its.toArray[j] = u := by
    have := List.getElem?_eq_some_iff.mp e3
    obtain ⟨_, q⟩ := this
    simpa using q
  have g2 : its2.toArray[j] = u' := by
    have := List.getElem?_eq_some_iff.mp e4
    obtain ⟨_, q⟩ := this
    simpa using q
  rw [g1, g2]
  have e : Vl a b j = eqD a[j] b[j] := by unfold Vl; rw [List.getElem?_eq_getElem j1, List.getElem?_eq_getElem j2]
  rw [e]
  exact ih _ (List.getElem_mem j1) v v' u u' _ r1 r3 r2 r4 (Qx ha (List.getElem_mem j1)) (Qx hb (List.getElem_mem j2))
theorem Xp (I : Inv X pins σ H s) (d : D) : ∀ (A : Around) (v v' : V) (u u' : Value) (d' : D), A.units + d.dep < cLine → Rep X.K Any H v d → RelV v u → Rep X.K Any H v' d' → RelV v' u' → D.eqb d = true → D.eqb d' = true → EqAt A s u u' (eqD d d') := by
  refine D.ind (P := fun d => ∀ (A : Around) (v v' : V) (u u' : Value) (d' : D), A.units + d.dep < cLine → Rep X.K Any H v d → RelV v u → Rep X.K Any H v' d' → RelV v' u' → D.eqb d = true → D.eqb d' = true → EqAt A s u u' (eqD d d')) ?_ ?_ ?_ ?_ ?_ ?_ ?_ ?_ d
  · intro A v v' u u' d' hu r ru r' ru' hb hb'
    cases xU I r ru hb
    have hu' : A.units < cLine := by simp only [D.dep] at hu; omega
    cases xU I r' ru' hb' <;> simp only [eqD]
    · exact EqAt.same _
    · exact EqAt.none_bool _
    · exact EqAt.none_int _ _
    · exact EqAt.none_str _ _
    · exact EqAt.none_tuple (by assumption) hu'
    · exact EqAt.none_list (by assumption) hu'
  · intro b A v v' u u' d' hu r ru r' ru' hb hb'
    cases xU I r ru hb
    have hu' : A.units < cLine := by simp only [D.dep] at hu; omega
    cases xU I r' ru' hb' <;> simp only [eqD]
    · exact EqAt.bool_none _
    · exact EqAt.bool_bool _ _
    · exact EqAt.bool_int _ _ _
    · exact EqAt.bool_str _ _ _
    · exact EqAt.bool_tuple _ (by assumption) hu'
    · exact EqAt.bool_list _ (by assumption) hu'
  · intro i A v v' u u' d' hu r ru r' ru' hb hb'
    cases xU I r ru hb
    have hu' : A.units < cLine := by simp only [D.dep] at hu; omega
    cases xU I r' ru' hb' <;> simp only [eqD]
    · exact EqAt.int_none _ _
    · exact EqAt.int_bool _ _ _
    · exact EqAt.int_int _ _ _ _
    · exact EqAt.int_str _ _ _ _
    · exact EqAt.int_tuple _ _ (by assumption) hu'
    · exact EqAt.int_list _ _ (by assumption) hu'
  · intro x A v v' u u' d' hu r ru r' ru' hb hb'
    cases xU I r ru hb
    have hu' : A.units < cLine := by simp only [D.dep] at hu; omega
    cases xU I r' ru' hb' <;> simp only [eqD]
    · exact EqAt.str_none _ _
    · exact EqAt.str_bool _ _ _
    · exact EqAt.str_int _ _ _ _
    · exact EqAt.str_str _ _ _ _
    · exact EqAt.str_tuple _ _ (by assumption) hu'
    · exact EqAt.str_list _ _ (by assumption) hu'
  · intro ds ih A v v' u u' d' hu r ru r' ru' hb hb'
    have hu' : A.units < cLine := by simp only [D.dep] at hu; omega
    have c1 := xU I r ru hb
    have c2 := xU I r' ru' hb'
    cases c1 with
    | tup e p rv rs =>
      cases c2 with
      | non => simp only [eqD]; exact EqAt.tuple_none p hu'
      | bl b => simp only [eqD]; exact EqAt.tuple_bool _ p hu'
      | int i t => simp only [eqD]; exact EqAt.tuple_int _ _ p hu'
      | str x t => simp only [eqD]; exact EqAt.tuple_str _ _ p hu'
      | lst e2 p2 rv2 rs2 => simp only [eqD]; exact EqAt.tuple_list p p2 hu'
      | @tup a2 xs2 its2 ds2 e2 p2 rv2 rs2 =>
        rename_i a1 xs1 its1
        by_cases z : a1 = a2
        · subst z
          have ed : D.tup ds = D.tup ds2 := Rep.inj _ Any Any _ _ hb hb' (Rep.tup e rs) (Rep.tup e2 rs2)
          rw [← ed, Qy _ hb]
          exact EqAt.same _
        · have q := RcAt.tuples (A := A) (s := s) p p2 hu' (UZ (A := A) rs rs2 rv rv2 (fun d hd v v' u u' d' g1 g2 g3 g4 g5 g6 => ih d hd A.in1 v v' u u' d' (by
            have := xT hd
            simp only [D.dep] at hu
            show A.units + 1 + d.dep < cLine
            omega) g1 g2 g3 g4 g5 g6) (by simpa only [D.eqb] using hb) (by simpa only [D.eqb] using hb'))
          have n1 : its1.toArray.size = ds.length := by rw [List.size_toArray, ← rv.length, rs.length]
          have n2 : its2.toArray.size = ds2.length := by rw [List.size_toArray, ← rv2.length, rs2.length]
          rw [n1, n2, ← Xo] at q
          simp only [eqD]
          exact EqAt.of_refs z q
  · intro ds ih A v v' u u' d' hu r ru r' ru' hb hb'
    have hu' : A.units < cLine := by simp only [D.dep] at hu; omega
    have c1 := xU I r ru hb
    have c2 := xU I r' ru' hb'
    cases c1 with
    | lst e p rv rs =>
      cases c2 with
      | non => simp only [eqD]; exact EqAt.list_none p hu'
      | bl b => simp only [eqD]; exact EqAt.list_bool _ p hu'
      | int i t => simp only [eqD]; exact EqAt.list_int _ _ p hu'
      | str x t => simp only [eqD]; exact EqAt.list_str _ _ p hu'
      | tup e2 p2 rv2 rs2 => simp only [eqD]; exact EqAt.list_tuple p p2 hu'
      | @lst a2 xs2 its2 ds2 e2 p2 rv2 rs2 =>
        rename_i a1 xs1 its1
        have n1 : its1.toArray.size = ds.length := by rw [List.size_toArray, ← rv.length, rs.length]
        have n2 : its2.toArray.size = ds2.length := by rw [List.size_toArray, ← rv2.length, rs2.length]
        by_cases z : a1 = a2
        · subst z
          have ed : D.lst ds = D.lst ds2 := by
            rw [e] at e2; cases e2
            rw [Reps.inj_of (fun d _ A A' v d' => Rep.inj d A A' v d') (by simpa only [D.eqb] using hb) (by simpa only [D.eqb] using hb') rs rs2]
          rw [← ed, Qy _ hb]
          exact EqAt.same _
        · simp only [eqD]
          by_cases hl : ds.length = ds2.length
          · have q := RcAt.lists (A := A) (s := s) p p2 (by rw [n1, n2]; exact hl) hu' (UZ (A := A) rs rs2 rv rv2 (fun d hd v v' u u' d' g1 g2 g3 g4 g5 g6 => ih d hd A.in1 v v' u u' d' (by
              have := xT hd
              simp only [D.dep] at hu
              show A.units + 1 + d.dep < cLine
              omega) g1 g2 g3 g4 g5 g6) (by simpa only [D.eqb] using hb) (by simpa only [D.eqb] using hb'))
            rw [n1, ← xt ds ds2 hl] at q
            exact EqAt.of_refs z q
          · rw [xS ds ds2 hl]
            exact EqAt.of_refs z (RcAt.lists_lengths p p2 (by rw [n1, n2]; simp [hl]) hu')
  · intro ds ih A v v' u u' d' hu r ru r' ru' hb; simp [D.eqb] at hb
  · exact ⟨by intro ks ds ih A v v' u u' d' hu r ru r' ru' hb; simp [D.eqb] at hb, by intro ks ds ih A v v' u u' d' hu r ru r' ru' hb; simp [D.eqb] at hb, by intro c A v v' u u' d' hu r ru r' ru' hb; simp [D.eqb] at hb, by intro ks ds ih A v v' u u' d' hu r ru r' ru' hb; simp [D.eqb] at hb, by intro ks ds ih A v v' u u' d' hu r ru r' ru' hb; simp [D.eqb] at hb, by intro c ns ds ih A v v' u u' d' hu r ru r' ru' hb; simp [D.eqb] at hb⟩
theorem WM (I : Inv X pins σ H s) {A : Around} {v v' : V} {u u' : Value} {d d' : D} (hu : A.units + d.dep < cLine) (r : Rep X.K Any H v d) (ru : RelV v u) (r' : Rep X.K Any H v' d') (ru' : RelV v' u') (hb : D.eqb d = true) (hb' : D.eqb d' = true) :
    RcAt A s u u' (eqD d d') ∧ RcNeAt A s u u' (!eqD d d') := by
  have hu' : A.units < cLine := by omega
  have c1 := xU I r ru hb
  have c2 := xU I r' ru' hb'
  cases c1 with
  | non =>
    cases c2 <;> simp only [eqD, Bool.not_true, Bool.not_false]
    · exact ⟨RcAt.none_none, RcNeAt.none_none⟩
    · exact ⟨RcAt.none_bool _, RcNeAt.none_bool _⟩
    · exact ⟨RcAt.none_int _ _, RcNeAt.none_int _ _⟩
    · exact ⟨RcAt.none_str _ _, RcNeAt.none_str _ _⟩
    · exact ⟨RcAt.none_tuple (by assumption) hu', RcNeAt.none_tuple (by assumption) hu'⟩
    · exact ⟨RcAt.none_list (by assumption) hu', RcNeAt.none_list (by assumption) hu'⟩
  | bl b =>
    cases c2 <;> simp only [eqD, Bool.not_true, Bool.not_false]
    · exact ⟨RcAt.bool_none _, RcNeAt.bool_none _⟩
    · exact ⟨RcAt.bool_bool _ _, RcNeAt.bool_bool _ _⟩
    · exact ⟨RcAt.bool_int _ _ _, RcNeAt.bool_int _ _ _⟩
    · exact ⟨RcAt.bool_str _ _ _, RcNeAt.bool_str _ _ _⟩
    · exact ⟨RcAt.bool_tuple _ (by assumption) hu', RcNeAt.bool_tuple _ (by assumption) hu'⟩
    · exact ⟨RcAt.bool_list _ (by assumption) hu', RcNeAt.bool_list _ (by assumption) hu'⟩
  | int i t =>
    cases c2 <;> simp only [eqD, Bool.not_true, Bool.not_false]
    · exact ⟨RcAt.int_none _ _, RcNeAt.int_none _ _⟩
    · exact ⟨RcAt.int_bool _ _ _, RcNeAt.int_bool _ _ _⟩
    · exact ⟨RcAt.int_int _ _ _ _, RcNeAt.int_int _ _ _ _⟩
    · exact ⟨RcAt.int_str _ _ _ _, RcNeAt.int_str _ _ _ _⟩
    · exact ⟨RcAt.int_tuple _ _ (by assumption) hu', RcNeAt.int_tuple _ _ (by assumption) hu'⟩
    · exact ⟨RcAt.int_list _ _ (by assumption) hu', RcNeAt.int_list _ _ (by assumption) hu'⟩
  | str x t =>
    cases c2 <;> simp only [eqD, Bool.not_true, Bool.not_false]
    · exact ⟨RcAt.str_none _ _, RcNeAt.str_none _ _⟩
    · exact ⟨RcAt.str_bool _ _ _, RcNeAt.str_bool _ _ _⟩
    · exact ⟨RcAt.str_int _ _ _ _, RcNeAt.str_int _ _ _ _⟩
    · exact ⟨RcAt.str_str _ _ _ _, RcNeAt.str_str _ _ _ _⟩
    · exact ⟨RcAt.str_tuple _ _ (by assumption) hu', RcNeAt.str_tuple _ _ (by assumption) hu'⟩
    · exact ⟨RcAt.str_list _ _ (by assumption) hu', RcNeAt.str_list _ _ (by assumption) hu'⟩
  | @tup a1 xs1 its1 ds e p rv rs =>
    cases c2 with
    | non => simp only [eqD, Bool.not_false]; exact ⟨RcAt.tuple_none p hu', RcNeAt.tuple_none p hu'⟩
    | bl b => simp only [eqD, Bool.not_false]; exact ⟨RcAt.tuple_bool _ p hu', RcNeAt.tuple_bool _ p hu'⟩
    | int i t => simp only [eqD, Bool.not_false]; exact ⟨RcAt.tuple_int _ _ p hu', RcNeAt.tuple_int _ _ p hu'⟩
    | str x t => simp only [eqD, Bool.not_false]; exact ⟨RcAt.tuple_str _ _ p hu', RcNeAt.tuple_str _ _ p hu'⟩
    | lst e2 p2 rv2 rs2 => simp only [eqD, Bool.not_false]; exact ⟨RcAt.tuple_list p p2 hu', RcNeAt.tuple_list p p2 hu'⟩
    | @tup a2 xs2 its2 ds2 e2 p2 rv2 rs2 =>
      have n1 : its1.toArray.size = ds.length := by rw [List.size_toArray, ← rv.length, rs.length]
      have n2 : its2.toArray.size = ds2.length := by rw [List.size_toArray, ← rv2.length, rs2.length]
      have el := UZ (A := A) (s := s) rs rs2 rv rv2 (fun d hd v v' u u' d' g1 g2 g3 g4 g5 g6 => Xp I d A.in1 v v' u u' d' (by
        have := xT hd
        simp only [D.dep] at hu
        show A.units + 1 + d.dep < cLine
        omega) g1 g2 g3 g4 g5 g6) (by simpa only [D.eqb] using hb) (by simpa only [D.eqb] using hb')
      have q := RcAt.tuples p p2 hu' el
      have q2 := RcNeAt.tuples p p2 hu' el
      rw [n1, n2, ← Xo] at q q2
      simp only [eqD]
      exact ⟨q, q2⟩
  | @lst a1 xs1 its1 ds e p rv rs =>
    cases c2 with
    | non => simp only [eqD, Bool.not_false]; exact ⟨RcAt.list_none p hu', RcNeAt.list_none p hu'⟩
    | bl b => simp only [eqD, Bool.not_false]; exact ⟨RcAt.list_bool _ p hu', RcNeAt.list_bool _ p hu'⟩
    | int i t => simp only [eqD, Bool.not_false]; exact ⟨RcAt.list_int _ _ p hu', RcNeAt.list_int _ _ p hu'⟩
    | str x t => simp only [eqD, Bool.not_false]; exact ⟨RcAt.list_str _ _ p hu', RcNeAt.list_str _ _ p hu'⟩
    | tup e2 p2 rv2 rs2 => simp only [eqD, Bool.not_false]; exact ⟨RcAt.list_tuple p p2 hu', RcNeAt.list_tuple p p2 hu'⟩
    | @lst a2 xs2 its2 ds2 e2 p2 rv2 rs2 =>
      have n1 : its1.toArray.size = ds.length := by rw [List.size_toArray, ← rv.length, rs.length]
      have n2 : its2.toArray.size = ds2.length := by rw [List.size_toArray, ← rv2.length, rs2.length]
      simp only [eqD]
      by_cases hl : ds.length = ds2.length
      · have el := UZ (A := A) (s := s) rs rs2 rv rv2 (fun d hd v v' u u' d' g1 g2 g3 g4 g5 g6 => Xp I d A.in1 v v' u u' d' (by
          have := xT hd
          simp only [D.dep] at hu
          show A.units + 1 + d.dep < cLine
          omega) g1 g2 g3 g4 g5 g6) (by simpa only [D.eqb] using hb) (by simpa only [D.eqb] using hb')
        have q := RcAt.lists p p2 (by rw [n1, n2]; exact hl) hu' el
        have q2 := RcNeAt.lists p p2 (by rw [n1, n2]; exact hl) hu' el
        rw [n1, ← xt ds ds2 hl] at q q2
        exact ⟨q, q2⟩
      · rw [xS ds ds2 hl]
        exact ⟨RcAt.lists_lengths p p2 (by rw [n1, n2]; simp [hl]) hu', RcNeAt.lists_lengths p p2 (by rw [n1, n2]; simp [hl]) hu'⟩
end
section
variable {X : Cx}
def JA : D → D → Bool
  | .lst a, .lst b => a.length != b.length
  | _, _ => false
theorem QK {a b : D} (h : JA a b = true) : eqD a b = false := by
  unfold JA at h
  split at h
  · simp only [eqD]; exact xS _ _ (by simpa using h)
  · cases h
def EqC (a b : D) : Prop := (D.eqb a = true ∧ D.eqb b = true ∧ a.dep ≤ 190) ∨ JA a b = true
instance (a b : D) : Decidable (EqC a b) := inferInstanceAs (Decidable (_ ∨ _))
def rEqD (K : PySem.W.Frag) (neg : Bool) : R2 := fun x y H Q => ∃ a b, Rep K Any H x a ∧ Rep K Any H y b ∧ EqC a b ∧ Q (.bl (if neg then !eqD a b else eqD a b)) H
theorem QL {pins : List (Addr × Obj)} {σ : L2.St} {H : Hp} {s : Shared} (I : Inv X pins σ H s) {A : Around} {v v' : V} {u u' : Value} {d d' : D} (hu : A.units < cLine) (r : Rep X.K Any H v d) (ru : RelV v u) (r' : Rep X.K Any H v' d') (ru' : RelV v' u') (h : JA d d' = true) :
    RcAt A s u u' false ∧ RcNeAt A s u u' true := by
  unfold JA at h
  split at h
  · obtain ⟨a, xs, rfl, ha, _, rs⟩ := r.lstE
    obtain ⟨a', xs', rfl, ha', _, rs'⟩ := r'.lstE
    cases ru
    cases ru'
    obtain ⟨its, rv, p, _⟩ := I.list (.of ha)
    obtain ⟨its', rv', p', _⟩ := I.list (.of ha')
    have e : (its.toArray.size != its'.toArray.size) = true := by
      rw [List.size_toArray, List.size_toArray, ← rv.length, ← rv'.length, rs.length, rs'.length]; exact h
    exact ⟨RcAt.lists_lengths p.isList p'.isList e hu, RcNeAt.lists_lengths p.isList p'.isList e hu⟩
  · cases h
theorem Q5 (hu : X.A.units + 200 < cLine) : OpR X (compareOp .Eq) (rEqD X.K false) := by
  intro pins s σ H x y v u Q I rx ry ⟨a, b, ra, rb, hc, q⟩
  rcases hc with ⟨ha, hb, hd⟩ | hc
  · exact (WM I (A := X.A) (by omega) ra rx rb ry ha hb).1 X.prog X.w X.xe _ ⟨.bl _, H, I, rfl, q⟩
  · have q' : Q (.bl false) H := by have := QK hc; simpa [this] using q
    exact (QL I (A := X.A) (by omega) ra rx rb ry hc).1 X.prog X.w X.xe _ ⟨.bl _, H, I, rfl, q'⟩
theorem yT (hu : X.A.units + 200 < cLine) : OpR X (compareOp .NotEq) (rEqD X.K true) := by
  intro pins s σ H x y v u Q I rx ry ⟨a, b, ra, rb, hc, q⟩
  rcases hc with ⟨ha, hb, hd⟩ | hc
  · exact (WM I (A := X.A) (by omega) ra rx rb ry ha hb).2 X.prog X.w X.xe _ ⟨.bl _, H, I, rfl, q⟩
  · have q' : Q (.bl true) H := by have := QK hc; simpa [this] using q
    exact (QL I (A := X.A) (by omega) ra rx rb ry hc).2 X.prog X.w X.xe _ ⟨.bl _, H, I, rfl, q'⟩
def eqR (a b : D) : Res D := must (EqC a b) (.ok (.bl (eqD a b)))
def neR (a b : D) : Res D := must (EqC a b) (.ok (.bl (!eqD a b)))
theorem Kw {K : PySem.W.Frag} : OpS K (rEqD K false) eqR := fun x y H a b d Q ra rb e q => by
  obtain ⟨h1, e2⟩ := jB e
  cases e2
  exact ⟨a, b, ra, rb, h1, q _ (xG _)⟩
theorem Wf {K : PySem.W.Frag} : OpS K (rEqD K true) neR := fun x y H a b d Q ra rb e q => by
  obtain ⟨h1, e2⟩ := jB e
  cases e2
  exact ⟨a, b, ra, rb, h1, q _ (xG _)⟩
theorem Room.u200 {k : Nat} {A : Around} (r : Room k A) : A.units + 200 < cLine := by have := r.un; omega
end
end M
namespace M
open PySem PySem.Spec L2
open PyProof.Rows hiding St
section
variable {X : Cx} {K : PySem.W.Frag}
theorem Qu {prog : Program} {w : World} {A : Around} {E : Value → Shared → Prop} {s : Shared} {t sl : Addr} {items : Array Value} {vl vu : Value} {lo hi : Option Int} {Q : Value → Shared → Prop} (ht : IsTup s.heap t items) (hs : s.heap.IsSliceOf sl vl vu .none) (pl : IsPart vl lo) (pu : IsPart vu hi)
    (hw : HT.sIx items.size 0 lo = 0 ∧ HT.sIx items.size items.size hi = items.size) (h : Q (.ref t) s) : wpAny (model prog w) A (getItem (.ref t) (.ref sl)) Q E s := by
  obtain ⟨os, hos, hcs, hds⟩ := id hs
  have hTs : s.TypeIs (.ref sl) "slice" := ⟨os, hos, hcs⟩
  unfold getItem
  try with_reducible refine wpAny_holding ?_
  first | refine wpAny_bind (wpAny_pure ?_) | skip
  refine wpAny_bind (wpAny_sequenceKey ht.typeIs (by decide) ?_)
  refine wpAny_bind (wpAny_callSpecial?_slot (name := Str.ofString "__getitem__") ht.typeIs PyProof.Rows.slot_tuple_getitem
    (wpAny_call_entry PyProof.Rows.slot_tuple_getitem ht.typeIs entry_tuple_getitem ?_ (args_tuple_getitem _ _)))
  show wpAny _ _ (Builtin.Tuple.tupleItemsOf (.ref t) >>= _) _ _ s
  refine wpAny_bind (tupleItemsOf_ ht ?_)
  refine wpAny_bind (wpAny_typeOf hTs ?_)
  rw [if_pos (by decide)]
  refine wpAny_bind (HT.sliceApplied_gen hs pl pu ?_)
  have hyes : (((HT.sIx items.size 0 lo : Nat) : Int) == 0 && (1 : Int) == 1 && (HT.sIx items.size items.size hi - HT.sIx items.size 0 lo) == items.size) = true := by
    rw [hw.1, hw.2]; simp
  show wpAny _ _ (if (((HT.sIx items.size 0 lo : Nat) : Int) == 0 && (1 : Int) == 1 && (HT.sIx items.size items.size hi - HT.sIx items.size 0 lo) == items.size) = true then _ else _) _ _ s
  rw [if_pos hyes]
  show wpAny _ _ (Builtin.Tuple.tupleIsExact (.ref t) >>= _) _ _ s
  unfold Builtin.Tuple.tupleIsExact
  refine wpAny_bind (wpAny_bind (wpAny_typeOf ht.typeIs (wpAny_pure ?_)))
  show wpAny _ _ (if (Value.type "tuple" == Value.type "tuple") = true then _ else _) _ _ s
  rw [if_pos (by decide)]
  first
    | exact wpAny_bind (wpAny_rule (wpAny_bind (wpAny_pure (wpAny_pure ⟨_, rfl, wpAny_pure h⟩))))
    | exact wpAny_bind (wpAny_rule (wpAny_pure ⟨_, rfl, wpAny_pure h⟩))
    | exact wpAny_bind (wpAny_rule (wpAny_bind (wpAny_pure ⟨_, rfl, wpAny_pure h⟩)))
def rSlW (K : PySem.W.Frag) : V → Option Int → Option Int → Hp → VK → Prop := fun x lo hi H Q => ∃ a xs, x = .ref a ∧ SqT K H a xs ∧ (HT.sIx xs.length 0 lo = 0 ∧ HT.sIx xs.length xs.length hi = xs.length) ∧ Q (.ref a) H
theorem sl_whole : SlR X (rSlW X.K) := by
  intro pins s σ H x v vl vu lo hi sl Q I rx hs pl pu ⟨a, xs, ex, hx, hw, q⟩
  subst ex
  cases rx
  obtain ⟨its, r, ht, hz⟩ := I.tuple hx
  have hlen : its.toArray.size = xs.length := by rw [List.size_toArray]; exact r.length.symm
  exact ⟨"tuple", _, PyProof.Rows.slot_tuple_getitem.lookup, ht.typeIs, Qu ht hs pl pu (by rw [hlen]; exact hw) ⟨.ref a, H, I, rfl, q⟩⟩
def cutS (z : Str) (lo hi : Option Int) : Str :=
  if ((Builtin.Str.strSliceIndices lo hi 1 z.length).length == z.length) = true then z else ⟨((Builtin.Str.strSliceIndices lo hi 1 z.length).filterMap (z.cps[·]?)).toArray⟩
theorem Xw (z : Str) (lo hi : Option Int) : (cutS z lo hi).length ≤ z.length := by
  unfold cutS
  split
  · exact Nat.le_refl _
  · show ((Builtin.Str.strSliceIndices lo hi 1 z.length).filterMap (z.cps[·]?)).toArray.size ≤ z.length
    rw [List.size_toArray]
    exact Nat.le_trans (List.length_filterMap_le _ _) (PyProof.Rows.indices_len_le lo hi z.length)
def rSlS : V → Option Int → Option Int → Hp → VK → Prop := fun x lo hi H Q => ∃ z, x = .str z ∧ z.length ≤ sizeLine ∧ Q (.str (cutS z lo hi)) H
theorem Ki {v : Value} {o : Option Int} (h : IsPart v o) : ∃ p : Option (Int × Tok), v = partValue p ∧ p.map (·.1) = o := by
  cases h with
  | none => exact ⟨none, rfl, rfl⟩
  | int i t => exact ⟨some (i, t), rfl, rfl⟩
theorem jaj : SlR X rSlS := by
  intro pins s σ H x v vl vu lo hi sl Q I rx hs pl pu ⟨z, ex, hz, q⟩
  subst ex
  obtain ⟨t, rfl⟩ := rx
  obtain ⟨l, rfl, el⟩ := Ki pl
  obtain ⟨u, rfl, eu⟩ := Ki pu
  refine ⟨"str", _, F.slot_str_getitem.lookup, typeIs_str s z t, wpAny_getItem_str_slice (l := l) (u := u) (st := none) hs rfl ?_⟩
  have hp : slicePicked z l u none = Builtin.Str.strSliceIndices lo hi 1 z.length := by unfold slicePicked; rw [el, eu]; rfl
  unfold sliceMade
  rw [hp]
  by_cases hc : ((Builtin.Str.strSliceIndices lo hi 1 z.length).length == z.length) = true
  · have e : cutS z lo hi = z := by unfold cutS; rw [if_pos hc]
    rw [e] at q
    rw [if_pos (by simpa using hc)]
    exact ⟨.str z, H, I, ⟨t, rfl⟩, q⟩
  · have e : cutS z lo hi = ⟨((Builtin.Str.strSliceIndices lo hi 1 z.length).filterMap (z.cps[·]?)).toArray⟩ := by unfold cutS; rw [if_neg hc]
    have hl := Xw z lo hi
    rw [e] at q hl
    rw [if_neg (by simpa using hc)]
    exact ⟨Nat.le_trans hl hz, .str _, H, I.tok _, ⟨_, rfl⟩, q⟩
def slD : D → Option Int → Option Int → Res D
  | .tup ds, lo, hi => (.ok (.tup (cutD ds lo hi)))
  | .lst ds, lo, hi => (.ok (.lst (cutD ds lo hi)))
  | .str z, lo, hi => .ok (.str (cutS z lo hi))
  | _, _, _ => .stuck
theorem VA {ds : List D} {lo hi : Option Int} (h1 : HT.sIx ds.length 0 lo = 0) (h2 : HT.sIx ds.length ds.length hi = ds.length) : cutD ds lo hi = ds := by
  unfold cutD; rw [h1, h2]; simp
theorem vG {A : Addr → Prop} {x : V} {H : Hp} {a d : D} {lo hi : Option Int} {Q : VK} (r3 : Rep X.K A H x a) (e4 : slD a lo hi = .ok d) (q : ∀ v H', Same H H' → Rep X.K (fun c => H c = none ∨ A c) H' v d → NewTop H v → Q v H') :
    rSlT X.K x lo hi H Q ∨ rSlW X.K x lo hi H Q ∨ rSlL X.K x lo hi H Q ∨ rSlS x lo hi H Q := by
  cases a with
  | tup ds =>
    cases e4
    obtain ⟨b, xs, rfl, hb, rs⟩ := r3.tupE
    have hl := rs.length
    by_cases hw : HT.sIx xs.length 0 lo = 0 ∧ HT.sIx xs.length xs.length hi = xs.length
    · refine .inr (.inl ⟨b, xs, rfl, .of hb, hw, ?_⟩)
      rw [hl] at hw
      rw [VA hw.1 hw.2] at q
      exact q _ H (Same.refl H) (.tup hb (rs.weak orA)) (YQ hb)
    · exact .inl ⟨b, xs, rfl, .of hb, hw, fun p hp => q _ _ (Same.upd hp) (.tup jA (((Wt rs).weak orA).grow (Same.upd hp))) (j4 (Same.refl H) hp)⟩
  | lst ds =>
    cases e4
    obtain ⟨b, xs, rfl, hb, _, rs⟩ := r3.lstE
    exact .inr (.inr (.inl ⟨b, xs, rfl, .of hb, fun p hp => q _ _ (Same.upd hp) (.lst jA (.inl hp) (((Wt rs.low).laid hp).weak fun c z => ⟨.inr z.1, z.2⟩)) (j4 (Same.refl H) hp)⟩))
  | str z =>
    cases e4
    obtain ⟨rfl, hz⟩ := r3.strE
    have hl := Nat.le_trans (Xw z lo hi) hz
    exact .inr (.inr (.inr ⟨z, rfl, hz, q _ H (Same.refl H) (.str _ hl) (Y2 (WJ (K := X.K) _ hl))⟩))
  | _ => cases e4
theorem yE {e : Expr} {lo hi : Option Expr} {p2 pos : Pos} {f : Sl → Res D} {fl fh : Sl → Res (Option Int)} (he : DE X .s e f) (hl : DO X lo fl) (hh : DO X hi fh) :
    DE X .t (.Subscript e (.Slice lo hi none p2) pos) (zB f fl fh slD) := by
 with_unfolding_all exact (
  PE.imp (WX (sl_tup.or (sl_whole.or (sl_list.or jaj))) he hl hh) fun σ H Q ⟨G, H0, env, d, k, ef, q⟩ => by
    obtain ⟨a, e1, ef⟩ := jc ef
    obtain ⟨lo', e2, ef⟩ := jc ef
    obtain ⟨hi', e3, e4⟩ := jc ef
    refine ⟨G, H0, env, a, k, e1, fun x H1 s1 r1 _ => ⟨G, H0, env, lo', k.grow s1, e2, fun H2 s2 => ⟨G, H0, env, hi', (k.grow s1).grow s2, e3, fun H3 s3 => ?_⟩⟩⟩
    have sm := s1.trans (s2.trans s3)
    exact vG ((r1.grow s2).grow s3) e4 fun v H4 s4 r4 nt => q v H4 (sm.trans s4) (r4.weak fun c z => z.elim (fun z => k.new c (Same.free sm z)) fun z => z) (nt.grow sm))
def cD : Sl → Res D := fun _ => .ok (.dic [] [])
theorem kr {pos : Pos} : DE X .t (.Dict [] [] pos) cD := by
 with_unfolding_all exact (PE.imp Ul fun σ H Q ⟨G, H0, env, d, k, ef, q⟩ => by
  cases ef
  exact fun p hp => q _ _ (Same.upd hp) (.dic jA (k.new p hp) rfl rfl .nil) (j4 (Same.refl H) hp))
end
end M
namespace M
open PySem PySem.Spec L2
open PyProof.Rows hiding St
abbrev subI : D → D → Res D := iOp Jy fun i j => .int (i - j)
abbrev mulI : D → D → Res D := iOp MulC fun i j => .int (i * j)
abbrev divI : D → D → Res D := iOp DivC fun i j => .int (i / j)
abbrev modI : D → D → Res D := iOp PosC fun i j => .int (i % j)
abbrev powI : D → D → Res D := iOp PowC fun i j => .int (i ^ j.toNat)
abbrev ltI : D → D → Res D := iOp Jy fun i j => .bl (decide (i < j))
abbrev leI : D → D → Res D := iOp Jy fun i j => .bl (decide (i ≤ j))
abbrev gtI : D → D → Res D := iOp Jy fun i j => .bl (decide (j < i))
structure Av (P : Program) (w : World) (K : PySem.W.Frag) (mg : Str → Option Value) (base : Heap) (k : Nat) (x : Str) (ps : List Str) (fr : Bool) (F : List D → Res D) : Prop where
  ex : ∃ f fd, FnOk P w K mg base CX0 k f fd ps (spF K fr ps.length F) ∧ mg x = some (.ref f) ∧ PySem.W.keepIn K (.ref f) = true ∧ Binds K fd ps []
theorem Av.mono {P : Program} {w : World} {K : PySem.W.Frag} {mg : Str → Option Value} {base : Heap} {j k : Nat} {x : Str} {ps : List Str} {fr : Bool} {F : List D → Res D} (h : Av P w K mg base j x ps fr F) (hj : j ≤ k) : Av P w K mg base k x ps fr F :=
  let ⟨f, fd, a, b⟩ := h.ex
  ⟨f, fd, a.mono hj, b⟩
section
variable {X : Cx} {k : Nat} {x : Str} {ps : List Str} {fr : Bool} {F : List D → Res D} {e : Expr} {es : List Expr} {p pos : Pos} {g : Sl → Res (List D)}
theorem Av.call {n : Nat} (A : Av X.prog X.w X.K X.mg X.base k x ps fr F) (hr : Room k X.A) (ha : DA X .s (e :: es) g) (hn : ps.length = n := by rfl) (hg : Gl X x := by rfl) (hdb : (x == ("__debug__" : Str)) = false := by decide)
    (he : starEach (e :: es) X.env = (false, eval e X.env) :: starEach es X.env := by exact jx rfl) (hpl : (backTo pos (starEach es X.env)).any (·.1) = false := by exact jR rfl) : DE X .s (.Call (.Name x p) (e :: es) [] pos) (jo n F g) := by
  subst hn
  obtain ⟨f, fd, h1, h2, h3, h4⟩ := A.ex
  exact uS h1 hr hg h2 h3 h4 Kh ha hdb he hpl
theorem Av.callT {n : Nat} (A : Av X.prog X.w X.K X.mg X.base k x ps true F) (hr : Room k X.A) (ha : DA X .s (e :: es) g) (hn : ps.length = n := by rfl) (hg : Gl X x := by rfl) (hdb : (x == ("__debug__" : Str)) = false := by decide)
    (he : starEach (e :: es) X.env = (false, eval e X.env) :: starEach es X.env := by exact jx rfl) (hpl : (backTo pos (starEach es X.env)).any (·.1) = false := by exact jR rfl) : DE X .t (.Call (.Name x p) (e :: es) [] pos) (jo n F g) := by
  subst hn
  obtain ⟨f, fd, h1, h2, h3, h4⟩ := A.ex
  exact ku h1 hr hg h2 h3 h4 Kh ha hdb he hpl
theorem Av.callA {n : Nat} (A : Av X.prog X.w X.K X.mg X.base k x ps fr F) (hr : Room k X.A) (ha : DA X .b (e :: es) g) (hn : ps.length = n := by rfl) (hg : Gl X x := by rfl) (hdb : (x == ("__debug__" : Str)) = false := by decide)
    (he : starEach (e :: es) X.env = (false, eval e X.env) :: starEach es X.env := by exact jx rfl) (hpl : (backTo pos (starEach es X.env)).any (·.1) = false := by exact jR rfl) : DE X .b (.Call (.Name x p) (e :: es) [] pos) (jo n F g) := by
  subst hn
  obtain ⟨f, fd, h1, h2, h3, h4⟩ := A.ex
  exact ky h1 hr hg h2 h3 h4 Kh ha hdb he hpl
end
def runF (fr : Bool) (n : Nat) (g : Sl → Res Out) (ds : List D) : Res D := match g (qd n ds) with
  | .ok (.rt fr' d) => if fr = true ∧ fr' = false then .stuck else .ok d
  | .ok (.nx _) => .ok .non
  | _ => .stuck
theorem x9 {fr : Bool} {n : Nat} {g : Sl → Res Out} {ds : List D} {d : D} (h : runF fr n g ds = .ok d) : Meets fr n g ds d := by
  unfold runF at h
  split at h
  · rename_i fr' d' e
    split at h
    · cases h
    · rename_i hn
      cases h
      refine .inl ⟨fr', e, fun hf => ?_⟩
      cases fr' with
      | true => rfl
      | false => exact absurd ⟨hf, rfl⟩ hn
  · rename_i env' e
    cases h
    exact .inr ⟨rfl, env', e⟩
  · cases h
section
variable {P : Program} {w : World} {K : PySem.W.Frag} {mg : Str → Option Value} {base : Heap}
theorem zh {x : Str} {st : Stmt} {f : Addr} {fd : FuncData} {N ps : List Str} {k : Nat} (fr : Bool) {g : Sl → Res Out} (Fu : Fun K x x st f fd) (hmg : mg x = some (.ref f)) (S : FnScope N ps (je st)) (hbi : Binds K fd ps [])
    (hb : ∀ (cdv : Value) (A : Around) (outer : List Env) (s : Shared) (H : Hp) (E : XK), Room k (A.deeper (envOfC x (je st) s.heap.objs.size f cdv)) → DSs (cxOf CX0 P w K mg base N x (je st) f cdv A outer s H E).nox (jD st) g) :
    Av P w K mg base (k + 1) x ps fr (runF fr N.length g) :=
  ⟨f, fd, uD Fu S hb fun ds d _ h => x9 h, hmg, Fu.kp, hbi⟩
theorem Jp {x : Str} {st : Stmt} {f : Addr} {fd : FuncData} {ps : List Str} {k : Nat} (fr : Bool) (Fu : Fun K x x st f fd) (hmg : mg x = some (.ref f)) (hbi : Binds K fd ps []) : Av P w K mg base k x ps fr (fun _ => .stuck) :=
  ⟨f, fd, ⟨fun vs H Q E ⟨B, ds, d, hl, _⟩ => hl, fun A outer s H args us vs Q E _ _ _ _ ⟨B, ds, d, _, _, e, _⟩ => by cases e⟩, hmg, Fu.kp, hbi⟩
end
theorem Yp {P : Program} {w : World} {K : PySem.W.Frag} {mg : Str → Option Value} {base : Heap} {x : Str} {st : Stmt} {f : Addr} {fd : FuncData} {N ps : List Str} {k : Nat} (fr : Bool) {g : Sl → Res Out} (Fu : Fun K x x st f fd) (S : FnScope N ps (je st))
    (hb : ∀ (cdv : Value) (A : Around) (outer : List Env) (s : Shared) (H : Hp) (E : XK), Room k (A.deeper (envOfC x (je st) s.heap.objs.size f cdv)) → DSs (cxOf CX0 P w K mg base N x (je st) f cdv A outer s H E).nox (jD st) g) :
    FnOk P w K mg base CX0 (k + 1) f fd ps (spF K fr ps.length (runF fr N.length g)) := uD Fu S hb fun ds d _ h => x9 h
theorem jbo {X : Cx} {l2 : Lv} {b : Expr} {f2 : Sl → Res D} {p pos : Pos} (i : Nat) {x : Str} (hb : DE X l2 b f2) (hN : X.N[i]? = some x := by rfl) (hv : Vis X.env.scope x := by first | exact Or.inl rfl | exact Or.inr (Or.inl rfl) | exact Or.inr (Or.inr rfl))
    (hd : (x == ("__debug__" : Str)) = false := by decide) (hcd : (x == ("__classdict__" : Str)) = false := by decide) (hs : WA b := by intro _ _; rfl) : DE X .s (.Subscript (.Name x p) b pos) (two (rdB i) f2 ixD) := by
 with_unfolding_all exact (
  PE.imp (jaJ vf (wf hN hv hd hcd) hb hs) fun σ H Q ⟨G, H0, env, d, k, ef, q⟩ => by
    obtain ⟨a', e1, ef⟩ := jc ef
    obtain ⟨b', e2, e3⟩ := jc ef
    rcases Z0 e1 with z | z
    · obtain ⟨v, h1, h2⟩ := k.shr i a' z
      exact ⟨v, h1, G, H0, env, b', k, e2, fun y H2 s2 r2 _ => jaR (h2.grow s2) (r2.weak Lv.weak_b) e3 fun v r3 => q v H2 s2 r3 trivial⟩
    · obtain ⟨v, h1, h0, h2⟩ := k.own i a' z
      refine ⟨_, h1, G, H0, env, b', k, e2, fun y H2 s2 r2 _ => ?_⟩
      have h3 := (k.grow s2).own i a' z
      obtain ⟨v2, g1, _, g2⟩ := h3
      rw [h1] at g1; cases g1
      cases g2 with
      | lst e r =>
        cases b' with
        | int j =>
          cases (r2.weak (A' := Any) Lv.weak_b).intE
          unfold ixD at e3; dsimp only at e3
          cases e5 : atI _ j with
          | none => rw [e5] at e3; cases e3
          | some d' =>
            rw [e5] at e3; cases e3
            obtain ⟨v', e6, r6⟩ := QF r e5
            exact .inl ⟨_, _, j, v', rfl, rfl, .of e, e6, q v' H2 s2 r6 trivial⟩
        | _ => cases e3
      | dic e _ _ r => cases b' <;> cases e3
      | dit e _ _ r => cases b' <;> cases e3
      | obj e _ _ r => cases b' <;> cases e3)
theorem zy : bootBuiltins "list" = some (.type "list") := by decide +kernel
def jb1 (N0 : List Str) (sc0 scope : Scope) (N : List Str) (m : Nat) (js : List Nat) : Bool := (List.range js.length).all fun k => match N[m + k]?, (js[k]?).bind (N0[·]?) with
  | some y, some y' => y == y' && (sc0.names.lookup y == some .cell || sc0.names.lookup y == some .free) && scope.names.lookup y == some .free
  | _, _ => false
def scOk (N0 : List Str) (sc0 scope : Scope) (cl : List (Str × Addr)) (N : List Str) (m : Nat) (js : List Nat) : Bool :=
  (scope.names.all fun x => x.2 != .local || scope.names.lookup x.1 == some .local) && (scope.names.all fun x => x.2 != .cell) && (scope.names.all fun y => y.2 != .free || cl.any fun p => p.1 == y.1) &&
    jb1 N0 sc0 scope N m js && (match N[m + js.length]? with
      | some y => scope.names.all fun p => p.1 != y
      | none => true) && N.length == m + js.length + 1
theorem YA {cl : List (Str × Addr)} {y : Str} (h : (cl.any fun p => p.1 == y) = true) : ∃ c, cl.lookup y = some c := by
  induction cl with
  | nil => cases h
  | cons p r ih =>
    obtain ⟨n, c⟩ := p
    rw [List.any_cons, Bool.or_eq_true] at h
    simp only [List.lookup_cons]
    cases e : y == n with
    | true => exact ⟨c, rfl⟩
    | false =>
      rcases h with h | h
      · have : n = y := by simpa using h
        subst this
        simp at e
      · exact ih h
theorem zK {X : Cx} {scope : Scope} {cl : List (Str × Addr)} {N : List Str} {m : Nat} {js : List Nat} (clos : closureFor scope X.env = pure cl) (kind : scope.kind = .function) (nd : N.Nodup) (cl2 : ∀ p ∈ cl, X.env.cells.lookup p.1 = some p.2)
    (h : scOk X.N X.env.scope scope cl N m js = true) : CompSc X scope cl N m js := by
  simp only [scOk, Bool.and_eq_true, List.all_eq_true, beq_iff_eq] at h
  obtain ⟨⟨⟨⟨⟨h1, h2⟩, h3⟩, h4⟩, h5⟩, h6⟩ := h
  refine ⟨clos, kind, fun x hx e => ?_, fun y hy e => ?_, fun x c e => cl2 (x, c) (PySem.mem_of_lookup e), fun y hy e => ?_, nd, h6, fun k j e => ?_, fun y e p hp => ?_⟩
  · have := h1 x hx
    rw [e] at this
    simpa using this
  · have := h2 y hy
    rw [e] at this
    simp at this
  · have := h3 y hy
    rw [e] at this
    exact YA (by simpa using this)
  · have hk : k < js.length := (List.getElem?_eq_some_iff.mp e).1
    have := List.all_eq_true.mp h4 k (List.mem_range.mpr hk)
    rw [e] at this
    simp only [Option.bind_some] at this
    cases e1 : N[m + k]? with
    | none => rw [e1] at this; cases this
    | some y =>
      cases e2 : X.N[j]? with
      | none => rw [e1, e2] at this; cases this
      | some y' =>
        rw [e1, e2] at this
        simp only [Bool.and_eq_true, Bool.or_eq_true, beq_iff_eq] at this
        obtain ⟨⟨g1, g2⟩, g3⟩ := this
        subst g1
        exact ⟨y, rfl, rfl, g2, g3⟩
  · rw [e] at h5
    have := List.all_eq_true.mp h5 p hp
    simpa using this
end M
namespace M
open PySem PySem.Spec L2
theorem qC {body : D → Sl → Res Out} {d : D} {ds : List D} {env env' : Sl} (h : body d env = .ok (.nx env')) : forD body (d :: ds) env = forD body ds env' := by
  show (body d env >>= _) = _
  rw [h]; rfl
theorem Jc {α : Type} {body : D → Sl → Res Out} (E : α → Sl) (step : α → D → α) (P : List D → α → Prop)
    (hb : ∀ d ds a, P (d :: ds) a → body d (E a) = .ok (.nx (E (step a d))) ∧ P ds (step a d)) : ∀ (ds : List D) (a : α), P ds a → forD body ds (E a) = .ok (.nx (E (ds.foldl step a)))
  | [], a, _ => rfl
  | d :: ds, a, h => by
    obtain ⟨h1, h2⟩ := hb d ds a h
    rw [qC h1, Jc E step P hb ds _ h2]; rfl
theorem Jl {n : Nat} {t : D → Sl → Res Sl} {fe : Sl → Res D} {E : D → List D → Sl} (h : D → D) (P : D → Prop)
    (hn : ∀ x acc, ownL n (E x acc) = .ok acc) (hs : ∀ x acc acc', (E x acc).set n (.own (.lst acc')) = E x acc')
    (ht : ∀ x d acc, t d (E x acc) = .ok (E d acc)) (hf : ∀ d acc, P d → fe (E d acc) = .ok (h d)) :
    ∀ (ds : List D) (x : D) (acc : List D), (∀ d ∈ ds, P d) → acc.length + ds.length ≤ sizeLine → ∃ y, zq n t j8 fe ds (E x acc) = .ok (E y (acc ++ ds.map h))
  | [], x, acc, _, _ => ⟨x, by simp [zq]⟩
  | d :: ds, x, acc, hP, hl => by
    simp only [List.length_cons] at hl
    obtain ⟨y, hy⟩ := Jl h P hn hs ht hf ds d (acc ++ [h d]) (fun e he => hP e (by simp [he])) (by simp only [List.length_append, List.length_cons, List.length_nil]; omega)
    refine ⟨y, ?_⟩
    have h1 : zq n t j8 fe (d :: ds) (E x acc) = zq n t j8 fe ds (E d (acc ++ [h d])) := by
      show (t d (E x acc) >>= _) = _
      rw [ht]
      show (fe (E d acc) >>= _) = _
      rw [hf d acc (hP d (by simp))]
      show (ownL n (E d acc) >>= _) = _
      rw [hn]
      show must _ _ = _
      rw [jt (by omega), hs]
    rw [h1, hy]; simp
theorem kE {fi : Sl → Res (List D)} {fe : Sl → Res D} {env : Sl} {ds : List D} (h : D → D) (P : D → Prop) (hi : fi env = .ok ds) (hP : ∀ d ∈ ds, P d) (hl : ds.length ≤ sizeLine)
    (hf : ∀ d acc, P d → fe [.shr d, .own (.lst acc)] = .ok (h d)) : qQ false 1 [] fi (gN 0) j8 fe env = .ok (.lst (ds.map h)) := by
  show (fi env >>= _) = _
  rw [hi]
  show (zq 1 (gN 0) j8 fe ds [.un, .own (.lst [])] >>= _) = _
  cases ds with
  | nil => rfl
  | cons d ds =>
    simp only [List.length_cons] at hl
    obtain ⟨y, hy⟩ := Jl (n := 1) (t := gN 0) (fe := fe) (E := fun x acc => [.shr x, .own (.lst acc)]) h P (fun _ _ => rfl) (fun _ _ _ => rfl) (fun _ _ _ => rfl) hf ds d [h d] (fun e he => hP e (by simp [he])) (by simp only [List.length_cons, List.length_nil]; omega)
    have h1 : zq 1 (gN 0) j8 fe (d :: ds) [.un, .own (.lst [])] = zq 1 (gN 0) j8 fe ds [.shr d, .own (.lst [h d])] := by
      show (fe [.shr d, .own (.lst [])] >>= _) = _
      rw [hf d [] (hP d (by simp))]
      exact jt (c := ([] : List D).length < sizeLine) (by simp only [List.length_nil]; omega)
    rw [h1, hy]; rfl
end M
namespace M
open PySem PySem.Spec L2
variable {env env' : Sl} {f f1 f2 f3 : Sl → Res D} {g g1 g2 : Sl → Res Out} {t t1 t2 : Sl → Res Bool} {fa : Sl → Res (List D)} {i : Nat} {d : D} {b : Bool}
@[simp] theorem ze {α β : Type} {a : α} {f : α → Res β} : (Res.ok a >>= f) = f a := rfl
@[simp] theorem Vg {α β : Type} {c : Prop} [Decidable c] {a b : Res α} {f : α → Res β} : ((if c then a else b) >>= f) = if c then a >>= f else b >>= f := by split <;> rfl
def outK (g : Sl → Res Out) : Out → Res Out
  | .nx e => g e
  | o => .ok o
@[simp] theorem Kl : outK g (.nx env) = g env := rfl
@[simp] theorem Z9 {fr : Bool} : outK g (.rt fr d) = .ok (.rt fr d) := rfl
@[simp] theorem wX : seqO g1 g2 env = (g1 env >>= outK g2) := by
  show (g1 env >>= _) = _
  congr 1; funext o; cases o <;> rfl
@[simp] theorem uF : setO i f env = (f env >>= fun d => .ok (.nx (env.set i (ZW d)))) := rfl
@[simp] theorem Xk : qg i f env = (f env >>= fun d => .ok (.nx (env.set i (.shr d)))) := rfl
@[simp] theorem yg : retO f env = (f env >>= fun d => .ok (.rt true d)) := rfl
@[simp] theorem uG : retS f env = (f env >>= fun d => .ok (.rt false d)) := rfl
@[simp] theorem vk : nxO env = .ok (.nx env) := rfl
@[simp] theorem Zt : ifO t g1 g2 env = (t env >>= fun b => if b = true then g1 env else g2 env) := rfl
@[simp] theorem Vj : andB t1 t2 env = (t1 env >>= fun b => if b = true then t2 env else .ok false) := rfl
@[simp] theorem Vf : orB t1 t2 env = (t1 env >>= fun b => if b = true then .ok true else t2 env) := rfl
@[simp] theorem Wp : notB t env = (t env >>= fun b => .ok (!b)) := rfl
def asBD : D → Res Bool
  | .bl b => .ok b
  | _ => .stuck
@[simp] theorem Wy : asBD (.bl b) = .ok b := rfl
@[simp] theorem Xm : asB f env = (f env >>= asBD) := rfl
@[simp] theorem Xj {h : D → D → Res D} : two f1 f2 h env = (f1 env >>= fun x => f2 env >>= fun y => h x y) := rfl
@[simp] theorem uK {j : Int} : cI j env = .ok (.int j) := rfl
@[simp] theorem jbh : cB b env = .ok (.bl b) := rfl
@[simp] theorem xR : ja f fa env = (f env >>= fun d => fa env >>= fun ds => .ok (d :: ds)) := rfl
@[simp] theorem Wq : nil1 env = .ok [] := rfl
@[simp] theorem Zu {h : List D → Res D} : app fa h env = (fa env >>= h) := rfl
@[simp] theorem Xl {n : Nat} {F : List D → Res D} : jo n F fa env = (fa env >>= fun ds => must (ds.length = n) (F ds)) := rfl
@[simp] theorem uE : tupF fa env = (fa env >>= fun ds => must (ds.length ≤ sizeLine) (.ok (.tup ds))) := rfl
@[simp] theorem uJ : lstF fa env = (fa env >>= fun ds => must (ds.length ≤ sizeLine) (.ok (.lst ds))) := rfl
@[simp] theorem xB {T : String} : isiF T f env = (f env >>= isiD T) := rfl
@[simp] theorem uH : notF f env = (f env >>= notD) := rfl
@[simp] theorem jbg : ifD t f1 f2 env = (t env >>= fun b => if b = true then f1 env else f2 env) := rfl
@[simp] theorem Vh : itF f env = (f env >>= UI) := rfl
@[simp] theorem Wr {tt : D → Sl → Res Sl} {fi : Sl → Res (List D)} : forO fi tt g env = (fi env >>= fun ds => forD (qk tt g) ds env) := rfl
@[simp] theorem UW {fl fh : Sl → Res (Option Int)} {h : D → Option Int → Option Int → Res D} : zB f fl fh h env = (f env >>= fun a => fl env >>= fun lo => fh env >>= fun hi => h a lo hi) := rfl
@[simp] theorem UV : wO f env = (f env >>= asI) := rfl
@[simp] theorem Ve : rdS i env = match env[i]? with | some (.shr d) => .ok d | _ => .stuck := rfl
def toK (g : Res D) (w : Bool) : D → Res D
  | .bl b => if b = w then g else .ok (.bl b)
  | _ => .stuck
@[simp] theorem kO {r : Res D} {w : Bool} : toK r w (.bl b) = if b = w then r else .ok (.bl b) := rfl
@[simp] theorem Vd {w : Bool} : toB f1 f2 w env = (f1 env >>= toK (f2 env) w) := by
  show (f1 env >>= _) = _
  congr 1
def chK (f : Res D) (g' : D → D → Res D) (y : D) : D → Res D
  | .bl true => f >>= fun w => g' y w
  | .bl false => .ok (.bl false)
  | _ => .stuck
@[simp] theorem Xz {r : Res D} {h : D → D → Res D} {y : D} : chK r h y (.bl b) = if b = true then r >>= fun w => h y w else .ok (.bl false) := by cases b <;> rfl
@[simp] theorem yD {h h' : D → D → Res D} : Wv f1 f2 f3 h h' env = (f1 env >>= fun x => f2 env >>= fun y => h x y >>= chK (f3 env) h' y) := by
  show (f1 env >>= _) = _
  congr 1
@[simp] theorem uI {α : Type} {c : Prop} [Decidable c] {r : Res α} : must c r = if c then r else .stuck := rfl
@[simp] theorem Vi {C : Int → Int → Prop} [∀ i j, Decidable (C i j)] {h : Int → Int → D} {m n : Int} : iOp C h (.int m) (.int n) = if C m n then .ok (h m n) else .stuck := rfl
def runK (fr : Bool) : Out → Res D
  | .rt fr' d => if fr = true ∧ fr' = false then .stuck else .ok d
  | .nx _ => .ok .non
  | _ => .stuck
theorem wY {fr : Bool} {n : Nat} {ds : List D} {o : Out} (h : g (qd n ds) = .ok o) : runF fr n g ds = runK fr o := by
  unfold runF; rw [h]; cases o <;> rfl
end M
namespace M
theorem YK {n : Nat} {t : Sl → Res Bool} {g : Sl → Res Out} {env env' : Sl} (ht : t env = .ok true) (h : g env = .ok (.nx env')) : zk (n + 1) t g env = zk n t g env' := by
  rw [zk, ht, ze, if_pos rfl, h]; rfl
theorem YJ {n : Nat} {t : Sl → Res Bool} {g : Sl → Res Out} {env : Sl} {fr : Bool} {d : D} (ht : t env = .ok true) (h : g env = .ok (.rt fr d)) : zk (n + 1) t g env = .ok (.rt fr d) := by
  rw [zk, ht, ze, if_pos rfl, h]; rfl
theorem XQ {n : Nat} {t : Sl → Res Bool} {g : Sl → Res Out} {env : Sl} (ht : t env = .ok false) : zk (n + 1) t g env = .ok (.nx env) := by
  rw [zk, ht, ze, if_neg (by simp)]
end M
namespace M
open PySem PySem.Spec L2
def kids : D → List D
  | .tup (_ :: r) => r
  | _ => []
mutual
def num : D → Nat
  | .tup (_ :: r) => 1 + nums r
  | _ => 1
def nums : List D → Nat
  | [] => 0
  | d :: r => num d + nums r
end
mutual
def hgt : D → Nat
  | .tup (_ :: r) => 1 + hgts r
  | _ => 1
def hgts : List D → Nat
  | [] => 0
  | d :: r => max (hgt d) (hgts r)
end
mutual
def pts : D → List D
  | .tup (x :: r) => .tup (x :: r) :: ptss r
  | d => [d]
def ptss : List D → List D
  | [] => []
  | d :: r => pts d ++ ptss r
end
def uj : D → Bool | .scr _ => false | .exn _ => false | .fdc _ _ => false | .hdc _ _ => false | .obj _ _ _ => false | _ => true
mutual
def fine : D → Bool
  | .scr _ => false
  | .exn _ => false
  | .fdc _ _ => false
  | .hdc _ _ => false
  | .obj _ _ _ => false
  | .tup ds => decide (ds.length ≤ 11) && q8 ds
  | _ => true
def q8 : List D → Bool
  | [] => true
  | d :: r => fine d && q8 r
end
theorem Zb (d : D) : num d = 1 + nums (kids d) := by
  cases d with
  | tup ds => cases ds <;> simp [num, kids, nums]
  | _ => simp [num, kids, nums]
theorem Zp (d : D) : hgt d = 1 + hgts (kids d) := by
  cases d with
  | tup ds => cases ds <;> simp [hgt, kids, hgts]
  | _ => simp [hgt, kids, hgts]
theorem jat (d : D) : pts d = d :: ptss (kids d) := by
  cases d with
  | tup ds => cases ds <;> simp [pts, kids, ptss]
  | _ => simp [pts, kids, ptss]
theorem WY (a b : List D) : nums (a ++ b) = nums a + nums b := by
  induction a with
  | nil => simp [nums]
  | cons d r ih => simp [nums, ih]; omega
theorem UN (a b : List D) : hgts (a ++ b) = max (hgts a) (hgts b) := by
  induction a with
  | nil => simp [hgts]
  | cons d r ih => simp [hgts, ih]
theorem yC {d : D} (h : fine d = true) : uj d = true := by
  cases d <;> first | rfl | (simp [fine] at h)
theorem wm : ∀ {ds : List D} {d : D}, q8 ds = true → d ∈ ds → fine d = true
  | x :: r, d, h, hm => by
    simp only [q8, Bool.and_eq_true] at h
    rcases List.mem_cons.mp hm with rfl | hm
    · exact h.1
    · exact wm h.2 hm
theorem yB : ∀ {ds : List D}, (∀ d ∈ ds, fine d = true) → q8 ds = true
  | [], _ => rfl
  | x :: r, h => by simp only [q8, Bool.and_eq_true]; exact ⟨h x (by simp), yB fun d hd => h d (by simp [hd])⟩
theorem xQ {d : D} (h : fine d = true) : q8 (kids d) = true ∧ (kids d).length ≤ 10 := by
  cases d with
  | tup ds =>
    cases ds with
    | nil => exact ⟨rfl, by simp [kids]⟩
    | cons x r =>
      simp only [fine, q8, Bool.and_eq_true, decide_eq_true_eq, List.length_cons] at h
      exact ⟨h.2.2, by simp only [kids]; omega⟩
  | _ => exact ⟨rfl, by simp [kids]⟩
def zL (row : List D) : List D := row.flatMap kids
theorem Ya (row : List D) : nums row = row.length + nums (zL row) := by
  induction row with
  | nil => rfl
  | cons d r ih =>
    have : zL (d :: r) = kids d ++ zL r := rfl
    rw [this, WY]
    simp only [nums, List.length_cons, ih, Zb d]; omega
theorem Yl (row : List D) (h : row ≠ []) : hgts row = 1 + hgts (zL row) := by
  induction row with
  | nil => exact absurd rfl h
  | cons d r ih =>
    have e : zL (d :: r) = kids d ++ zL r := rfl
    rw [e, UN]
    simp only [hgts, Zp d]
    cases r with
    | nil => simp [hgts, zL]
    | cons x r => rw [ih (by simp)]; omega
theorem Wo {row : List D} (h : q8 row = true) : q8 (zL row) = true :=
  yB fun d hd => by
    obtain ⟨x, hx, hk⟩ := List.mem_flatMap.mp hd
    exact wm (xQ (wm h hx)).1 hk
theorem VM {row : List D} (h : q8 row = true) : (zL row).length ≤ 10 * row.length := by
  induction row with
  | nil => simp [zL]
  | cons d r ih =>
    simp only [q8, Bool.and_eq_true] at h
    have e : zL (d :: r) = kids d ++ zL r := rfl
    have := ih h.2
    have := (xQ h.1).2
    rw [e, List.length_append, List.length_cons]; omega
theorem Qr (d : D) : 1 ≤ hgt d := by rw [Zp]; omega
mutual
theorem yO : ∀ d : D, (pts d).length = num d
  | .tup (x :: r) => by simp [pts, num, WO r]; omega
  | .tup [] => by simp [pts, num]
  | .non => by simp [pts, num]
  | .bl _ => by simp [pts, num]
  | .int _ => by simp [pts, num]
  | .str _ => by simp [pts, num]
  | .lst _ => by simp [pts, num]
  | .scr _ => by simp [pts, num]
  | .dic _ _ => by simp [pts, num]
  | .dit _ _ => by simp [pts, num]
  | .exn _ => by simp [pts, num]
  | .fdc _ _ => by simp [pts, num]
  | .hdc _ _ => by simp [pts, num]
  | .obj _ _ _ => by simp [pts, num]
theorem WO : ∀ ds : List D, (ptss ds).length = nums ds
  | [] => rfl
  | d :: r => by simp [ptss, nums, yO d, WO r]
end
mutual
theorem WQ : ∀ d : D, fine d = true → q8 (pts d) = true
  | .tup (x :: r), h => by
    have h2 := (xQ h).1
    simp only [kids] at h2
    simp only [pts, q8, Bool.and_eq_true]
    exact ⟨h, QW r h2⟩
  | .tup [], h => rfl
  | .non, h => rfl
  | .bl _, h => rfl
  | .int _, h => rfl
  | .str _, h => rfl
  | .lst _, h => rfl
  | .scr _, h => by simp [fine] at h
  | .dic _ _, h => rfl
  | .dit _ _, h => rfl
  | .exn _, h => by simp [fine] at h
  | .fdc _ _, h => by simp [fine] at h
  | .hdc _ _, h => by simp [fine] at h
  | .obj _ _ _, h => by simp [fine] at h
theorem QW : ∀ ds : List D, q8 ds = true → q8 (ptss ds) = true
  | [], _ => rfl
  | d :: r, h => by
    simp only [q8, Bool.and_eq_true] at h
    refine yB fun e he => ?_
    rcases List.mem_append.mp (show e ∈ pts d ++ ptss r from he) with he | he
    · exact wm (WQ d h.1) he
    · exact wm (QW r h.2) he
end
end M
namespace M
open PySem PySem.Spec L2
theorem atI_nat {α : Type} {xs : List α} {k : Nat} : atI xs (k : Int) = xs[k]? := by
  unfold atI ixN
  by_cases h : k < xs.length
  · rw [if_pos (by omega), if_pos (by omega)]; simp
  · rw [if_pos (by omega), if_neg (by omega)]
    simp; omega
theorem ix0 {x : D} {r : List D} : ixD (.tup (x :: r)) (.int 0) = .ok x := by
  have := atI_nat (xs := x :: r) (k := 0)
  simp only [ixD]
  rw [show ((0 : Int)) = ((0 : Nat) : Int) from rfl, this]; rfl
end M
namespace M
open PySem PySem.Spec L2
section
variable {env env' : Sl} {f f1 f2 f3 : Sl → Res D} {g g1 g2 : Sl → Res Out} {t t1 t2 : Sl → Res Bool} {fa : Sl → Res (List D)} {i : Nat} {d x y z : D} {b : Bool} {ds : List D}
theorem jv {h : D → D → Res D} (h1 : f1 env = .ok x) (h2 : f2 env = .ok y) (h3 : h x y = .ok z) : two f1 f2 h env = .ok z := by rw [Xj, h1, ze, h2, ze, h3]
theorem qo (h : f env = .ok d) : qg i f env = .ok (.nx (env.set i (.shr d))) := by rw [Xk, h]; rfl
theorem J0 (h : f env = .ok d) : setO i f env = .ok (.nx (env.set i (ZW d))) := by rw [uF, h]; rfl
theorem zi (h : f env = .ok d) : retO f env = .ok (.rt true d) := by rw [yg, h]; rfl
theorem vK (h : f env = .ok d) : retS f env = .ok (.rt false d) := by rw [uG, h]; rfl
theorem jC (h : g1 env = .ok (.nx env')) : seqO g1 g2 env = g2 env' := by rw [wX, h]; rfl
theorem kR {fr : Bool} (h : g1 env = .ok (.rt fr d)) : seqO g1 g2 env = .ok (.rt fr d) := by rw [wX, h]; rfl
theorem if_t (h : t env = .ok true) : ifO t g1 g2 env = g1 env := by rw [Zt, h]; rfl
theorem if_f (h : t env = .ok false) : ifO t g1 g2 env = g2 env := by rw [Zt, h]; rfl
theorem jd (h1 : f env = .ok d) (h2 : fa env = .ok ds) : ja f fa env = .ok (d :: ds) := by rw [xR, h1, ze, h2]; rfl
theorem qT {h : List D → Res D} (h1 : fa env = .ok ds) (h2 : h ds = .ok d) : app fa h env = .ok d := by rw [Zu, h1, ze, h2]
theorem jw {n : Nat} {F : List D → Res D} (h1 : fa env = .ok ds) (hn : ds.length = n) (h2 : F ds = .ok d) : jo n F fa env = .ok d := by rw [Xl, h1, ze, jt hn, h2]
theorem wM (h1 : fa env = .ok ds) (hn : ds.length ≤ sizeLine) : tupF fa env = .ok (.tup ds) := by rw [uE, h1, ze, jt hn]
theorem xL (h1 : fa env = .ok ds) (hn : ds.length ≤ sizeLine) : lstF fa env = .ok (.lst ds) := by rw [uJ, h1, ze, jt hn]
theorem jL (h : f env = .ok (.bl b)) : asB f env = .ok b := by rw [Xm, h]; rfl
theorem yS {b2 : Bool} (h1 : t1 env = .ok b) (h2 : t2 env = .ok b2) : orB t1 t2 env = .ok (b || b2) := by rw [Vf, h1, ze, h2]; cases b <;> rfl
theorem XI {b2 : Bool} (h1 : t1 env = .ok b) (h2 : t2 env = .ok b2) : andB t1 t2 env = .ok (b && b2) := by rw [Vj, h1, ze, h2]; cases b <;> rfl
theorem qz (h1 : t1 env = .ok b) : notB t1 env = .ok (!b) := by rw [Wp, h1]; rfl
theorem Jq (h1 : ownL i env = .ok ds) (h2 : f env = .ok d) (h3 : ds.length < sizeLine) : wI i f env = .ok (.nx (env.set i (.own (.lst (ds ++ [d]))))) := by
  show (ownL i env >>= _) = _
  rw [h1]
  show (f env >>= _) = _
  rw [h2]
  exact jt h3
theorem yr {fl fh : Sl → Res (Option Int)} {h : D → Option Int → Option Int → Res D} {lo hi : Option Int} (h1 : f env = .ok x) (h2 : fl env = .ok lo) (h3 : fh env = .ok hi) (h4 : h x lo hi = .ok z) : zB f fl fh h env = .ok z := by
  rw [UW, h1, ze, h2, ze, h3, ze, h4]
theorem xF {j : Int} (h : f env = .ok (.int j)) : wO f env = .ok (some j) := by rw [UV, h]; rfl
theorem zT {tt : D → Sl → Res Sl} {fi : Sl → Res (List D)} (h : fi env = .ok ds) : forO fi tt g env = forD (qk tt g) ds env := by rw [Wr, h]; rfl
theorem JL (h : f env = .ok d) (h2 : UI d = .ok ds) : itF f env = .ok ds := by rw [Vh, h, ze, h2]
end
theorem Zm {C : Int → Int → Prop} [∀ i j, Decidable (C i j)] {g : Int → Int → D} {i j : Int} (h : C i j) : iOp C g (.int i) (.int j) = .ok (g i j) := if_pos h
theorem WV {i j : Int} (h : PowC i j) : powI (.int i) (.int j) = .ok (.int (i ^ j.toNat)) := Zm h
theorem jaW {i j : Int} (h : MulC i j) : mulI (.int i) (.int j) = .ok (.int (i * j)) := Zm h
theorem jaX {i j : Int} (h : 0 < j) : modI (.int i) (.int j) = .ok (.int (i % j)) := Zm (C := PosC) h
theorem vp {i j : Int} (h : 0 < j ∧ j < 1073741824) : divI (.int i) (.int j) = .ok (.int (i / j)) := Zm (C := DivC) h
theorem qy {t : D → Sl → Res Sl} {g : Sl → Res Out} {d : D} {env env' : Sl} (h : t d env = .ok env') : qk t g d env = g env' := by
  show (t d env >>= g) = _
  rw [h]; rfl
theorem wv {fr : Bool} {n : Nat} {g : Sl → Res Out} {ds : List D} {d : D} (h : g (qd n ds) = .ok (.rt true d)) : runF fr n g ds = .ok d := by rw [wY h]; simp [runK]
theorem jbN {n : Nat} {g : Sl → Res Out} {ds : List D} {d : D} (h : g (qd n ds) = .ok (.rt false d)) : runF false n g ds = .ok d := by rw [wY h]; simp [runK]
theorem J3 {fa : Sl → Res (List D)} {env : Sl} {j : Int} (h : fa env = .ok [.int j]) (hb : -(2 ^ 62) ≤ j ∧ j < 2 ^ 62) : rngF fa env = .ok (wA 0 j.toNat) := by
  show (fa env >>= rng1) = _
  rw [h]; exact jt hb
theorem VP {a b : List D} (h1 : a.isEmpty = false) (h2 : a.length + b.length ≤ sizeLine) : addD (.tup a) (.tup b) = .ok (.tup (a ++ b)) := jt (c := _ ∧ _) ⟨h1, h2⟩
theorem Wz {a b : List D} (h2 : a.length + b.length ≤ sizeLine) : addD (.lst a) (.lst b) = .ok (.lst (a ++ b)) := jt h2
theorem Jg {a b : Int} : eqR (.int a) (.int b) = .ok (.bl (a == b)) := by
  unfold eqR
  rw [jt (by left; simp [D.eqb, D.dep])]; simp [eqD]
theorem yA {body : D → Sl → Res Out} (I : List D → Sl → Prop)
    (hb : ∀ d ds env, I (d :: ds) env → ∃ env', body d env = .ok (.nx env') ∧ I ds env') : ∀ (ds : List D) (env : Sl), I ds env → ∃ env', forD body ds env = .ok (.nx env') ∧ I [] env'
  | [], env, h => ⟨env, rfl, h⟩
  | d :: ds, env, h => by
    obtain ⟨e1, h1, h2⟩ := hb d ds env h
    obtain ⟨e2, h3, h4⟩ := yA I hb ds e1 h2
    exact ⟨e2, by rw [qC h1, h3], h4⟩
theorem Yk (lo : Int) (n : Nat) : wA lo (n + 1) = .int lo :: wA (lo + 1) n := by
  unfold wA
  rw [List.range_succ_eq_map, List.map_cons, List.map_map]
  congr 1
  · simp
  · apply List.map_congr_left
    intro i _
    simp only [Function.comp_apply]
    congr 1
    omega
theorem yW {lo : Int} {n : Nat} {d : D} (h : d ∈ wA lo n) : ∃ k : Int, d = .int k ∧ lo ≤ k ∧ k < lo + n := by
  unfold wA at h
  obtain ⟨i, hi, e⟩ := List.mem_map.mp h
  have := List.mem_range.mp hi
  exact ⟨_, e.symm, by omega, by omega⟩
theorem zG (lo : Int) (n : Nat) : (wA lo n).length = n := by simp [wA]
theorem vz {α : Type} {xs : List α} {i : Int} (h0 : 0 ≤ i) (h1 : i < xs.length) : ∃ x, atI xs i = some x ∧ x ∈ xs := by
  obtain ⟨k, rfl⟩ := Int.eq_ofNat_of_zero_le h0
  have hk : k < xs.length := by omega
  exact ⟨xs[k], by rw [M.atI_nat]; exact List.getElem?_eq_getElem hk, List.getElem_mem hk⟩
theorem ixL {ds : List D} {i : Int} (h0 : 0 ≤ i) (h1 : i < ds.length) : ∃ d, ixD (.lst ds) (.int i) = .ok d ∧ d ∈ ds := by
  obtain ⟨c, hc, hm⟩ := vz (xs := ds) h0 h1
  exact ⟨c, by simp only [ixD]; rw [hc], hm⟩
open Builtin.Int (intBits)
theorem jb0 {fi : Sl → Res (List D)} {fe : Sl → Res D} {env : Sl} {ds : List D} {j : Nat} {c : Slot} (hc : capS false env j = c) (h : D → D) (P : D → Prop) (hi : fi env = .ok ds) (hP : ∀ d ∈ ds, P d) (hl : ds.length ≤ sizeLine)
    (hf : ∀ d acc, P d → fe [.shr d, c, .own (.lst acc)] = .ok (h d)) : qQ false 1 [j] fi (gN 0) j8 fe env = .ok (.lst (ds.map h)) := by
  show (fi env >>= _) = _
  rw [hi]
  show (zq 2 (gN 0) j8 fe ds [.un, capS false env j, .own (.lst [])] >>= _) = _
  rw [hc]
  cases ds with
  | nil => rfl
  | cons d ds =>
    simp only [List.length_cons] at hl
    obtain ⟨y, hy⟩ := Jl (n := 2) (t := gN 0) (fe := fe) (E := fun x acc => [.shr x, c, .own (.lst acc)]) h P (fun _ _ => rfl) (fun _ _ _ => rfl) (fun _ _ _ => rfl) hf ds d [h d] (fun e he => hP e (by simp [he])) (by simp only [List.length_cons, List.length_nil]; omega)
    have h1 : zq 2 (gN 0) j8 fe (d :: ds) [.un, c, .own (.lst [])] = zq 2 (gN 0) j8 fe ds [.shr d, c, .own (.lst [h d])] := by
      show (fe [.shr d, c, .own (.lst [])] >>= _) = _
      rw [hf d [] (hP d (by simp))]
      exact jt (c := ([] : List D).length < sizeLine) (by simp only [List.length_nil]; omega)
    rw [h1, hy]; rfl
theorem hgts_le {k : Nat} : ∀ {ds : List D}, (∀ d ∈ ds, hgt d ≤ k) → hgts ds ≤ k
  | [], _ => by simp [hgts]
  | d :: ds, h => by
    simp only [hgts]
    have := h d (by simp)
    have := hgts_le (ds := ds) fun e he => h e (by simp [he])
    omega
theorem wB : ∀ {ds : List D} {d : D}, d ∈ ds → hgt d ≤ hgts ds
  | x :: r, d, h => by
    simp only [hgts]
    rcases List.mem_cons.mp h with rfl | h
    · omega
    · have := wB h; omega
end M
namespace M
open PySem PySem.Spec L2
open PyProof.Rows hiding St
def keyD : D → Option Key
  | .int i => some (.inl i)
  | .str x => some (.inr x)
  | _ => none
def hasK (ks : List Key) (k : Key) : Bool := ks.any fun x => decide (x = k)
def QU (ks : List Key) (k : Key) : List Key := if hasK ks k = true then ks else ks ++ [k]
def QV (ks : List Key) (ds : List D) (k : Key) (d : D) : List D := if hasK ks k = true then (ks.zip ds).map (fun p => if p.1 = k then d else p.2) else ds ++ [d]
section
variable {K : PySem.W.Frag} {A : Addr → Prop} {H : Hp}
theorem KP {y : V} {d : D} {k : Key} (r : Rep K A H y d) (h : keyD d = some k) : y = kV k := by
  cases r with
  | int i => cases h; rfl
  | str x _ => cases h; rfl
  | _ => cases h
theorem u4 (kvs : List (Key × V)) (k : Key) : (kvs.any fun kv => decide (kv.1 = k)) = hasK (kvs.map (·.1)) k := by
  unfold hasK; rw [List.any_map]; rfl
theorem WK {v : V} {d : D} (k : Key) (rv : Rep K A H v d) : ∀ {kvs : List (Key × V)} {ds : List D}, Reps K A H (kvs.map (·.2)) ds → Reps K A H ((kvs.map (fun kv => if kv.1 = k then (kv.1, v) else kv)).map (·.2)) (((kvs.map (·.1)).zip ds).map (fun p => if p.1 = k then d else p.2))
  | [], _, .nil => .nil
  | (k', v') :: kvs, _, .cons r1 r2 => by
    have ih := WK k rv r2
    by_cases hk : k' = k
    · simp only [List.map_cons, List.zip_cons_cons, hk, if_true]; exact .cons rv (by simpa [hk] using ih)
    · simp only [List.map_cons, List.zip_cons_cons, hk, if_false]; exact .cons r1 ih
theorem vL {v : V} {d : D} {kvs : List (Key × V)} {ds : List D} (k : Key) (r : Reps K A H (kvs.map (·.2)) ds) (rv : Rep K A H v d) :
    (putK kvs k v).map (·.1) = QU (kvs.map (·.1)) k ∧ Reps K A H ((putK kvs k v).map (·.2)) (QV (kvs.map (·.1)) ds k d) := by
  unfold putK QU QV
  rw [u4]
  by_cases h : hasK (kvs.map (·.1)) k = true
  · rw [if_pos h, if_pos h, if_pos h]
    refine ⟨?_, WK k rv r⟩
    rw [List.map_map]
    apply List.map_congr_left
    intro p _
    simp only [Function.comp_apply]
    split <;> rfl
  · rw [if_neg h, if_neg h, if_neg h]
    refine ⟨by simp, ?_⟩
    rw [List.map_append]
    exact r.append (.cons rv .nil)
theorem Rep.dicE {v : V} {ks : List Key} {ds : List D} (r : Rep K A H v (.dic ks ds)) : ∃ a kvs, v = .ref a ∧ H a = some (.dK kvs) ∧ A a ∧ kvs.map (·.1) = ks ∧ Reps K (fun c => A c ∧ c ≠ a) H (kvs.map (·.2)) ds := by
  cases r with
  | dic e a k1 k2 r => subst k2; exact ⟨_, _, rfl, e, a, k1, r⟩
end
theorem EnvOk.writeG {K : PySem.W.Frag} {G : Addr → Prop} {H0 H : Hp} {env : Sl} {σ : L2.St} {i : Nat} {d0 d' : D} {a : Addr} {o0 o' : HO} (k : EnvOk K G H0 env σ H) (hi : env[i]? = some (.own d0)) (ha : σ[i]? = some (some (.ref a))) (hx : H a = some o0) (hm : Mut (some o0))
    (top : ∀ (A' : Addr → Prop) (H' : Hp), Stay (Sf G env σ) H H' → H' a = some o' → (∀ b, Sf G env σ b → A' b) → Top K A' H' a d') : EnvOk K G H0 (env.set i (.own d')) σ (upd H a o') ∧ Frm env σ H (env.set i (.own d')) σ (upd H a o') := by
  have hl : i < env.length := (List.getElem?_eq_some_iff.mp hi).1
  have ow : zM env σ a := ⟨i, _, hi, ha⟩
  have st : Stay (Sf G env σ) H (upd H a o') := fun c o e m => by
    rw [jJ ?_]
    · exact e
    · rintro rfl
      rw [hx] at e; cases e
      exact (m hm).1 ow
  have w : ∀ c, Sf G env σ c → Sf G (env.set i (.own d')) σ c := fun c n => ⟨fun o => n.1 ((wj hi).mp o), n.2⟩
  refine ⟨⟨by simp [k.len], fun c o e => ?_, k.g0, fun j d1 h => ?_, fun j d1 h => ?_, fun j j' d1 d2 b q1 q2 q3 q4 => ?_⟩, ⟨fun c o e n => ?_, fun c o => .inl ((wj hi).mp o), fun c e => ?_⟩⟩
  · have hc : c ≠ a := by
      rintro rfl
      obtain ⟨b, h1, h0, _⟩ := k.own i _ hi
      rw [ha] at h1; cases h1
      rw [h0] at e; cases e
    rw [jJ hc]
    exact k.base c o e
  · by_cases z : i = j
    · subst z
      obtain ⟨q, _⟩ := jE h
      cases q
    · rw [jy z] at h
      obtain ⟨v, h1, h2⟩ := k.shr j d1 h
      exact ⟨v, h1, h2.stay st w⟩
  · by_cases z : i = j
    · subst z
      obtain ⟨q, _⟩ := jE h
      cases q
      obtain ⟨b, h1, h0, _⟩ := k.own i _ hi
      rw [ha] at h1; cases h1
      exact ⟨a, ha, h0, top _ _ st jA w⟩
    · rw [jy z] at h
      obtain ⟨b, h1, h0, h2⟩ := k.own j d1 h
      have hb : b ≠ a := by
        rintro rfl
        exact z (k.dis i j _ _ b hi h ha h1)
      exact ⟨b, h1, h0, h2.stay st w fun o e => by rw [jJ hb]; exact e⟩
  · have real : ∀ (j : Nat) (d1 : D), (env.set i (.own d'))[j]? = some (.own d1) → ∃ d0 : D, env[j]? = some (.own d0) := fun j d1 q => by
      by_cases z : i = j
      · subst z; exact ⟨_, hi⟩
      · rw [jy z] at q; exact ⟨_, q⟩
    obtain ⟨e1, z1⟩ := real j d1 q1
    obtain ⟨e2, z2⟩ := real j' d2 q2
    exact k.dis j j' e1 e2 b z1 z2 q3 q4
  · have hc : c ≠ a := by
      rintro rfl
      exact n ow
    rw [jJ hc]; exact e
  · by_cases hc : c = a
    · subst hc; rw [jA] at e; cases e
    · rw [jJ hc] at e; exact e
theorem Uo {K : PySem.W.Frag} {G : Addr → Prop} {H0 H : Hp} {env : Sl} {σ : L2.St} {i : Nat} {ks : List Key} {ds : List D} (k : EnvOk K G H0 env σ H) (hi : env[i]? = some (.own (.dic ks ds))) : ∃ a kvs, σ[i]? = some (some (.ref a)) ∧ H a = some (.dK kvs) ∧ kvs.map (·.1) = ks ∧ Reps K (Sf G env σ) H (kvs.map (·.2)) ds := by
  obtain ⟨a, h1, h0, h2⟩ := k.own i _ hi
  cases h2 with
  | dic e k1 k2 r => subst k2; exact ⟨a, _, h1, e, k1, r⟩
def ownK (i : Nat) (env : Sl) : Res (List Key × List D) := match env[i]? with
  | some (.own (.dic ks ds)) => .ok (ks, ds)
  | _ => .stuck
theorem Ur {i : Nat} {env : Sl} {p : List Key × List D} (h : ownK i env = .ok p) : env[i]? = some (.own (.dic p.1 p.2)) := by
  unfold ownK at h
  split at h
  · cases h; assumption
  · cases h
theorem EnvOk.putD {K : PySem.W.Frag} {G : Addr → Prop} {H0 H : Hp} {env : Sl} {σ : L2.St} {i : Nat} {ks : List Key} {ds : List D} {a : Addr} {kvs : List (Key × V)} {v : V} {d : D} {kk : Key} (k : EnvOk K G H0 env σ H) (hi : env[i]? = some (.own (.dic ks ds))) (ha : σ[i]? = some (some (.ref a))) (hx : H a = some (.dK kvs)) (hk : kvs.map (·.1) = ks)
    (r : Reps K (Sf G env σ) H (kvs.map (·.2)) ds) (rv : Rep K (Sf G env σ) H v d) : EnvOk K G H0 (env.set i (.own (.dic (QU ks kk) (QV ks ds kk d)))) σ (upd H a (.dK (putK kvs kk v))) ∧ Frm env σ H (env.set i (.own (.dic (QU ks kk) (QV ks ds kk d)))) σ (upd H a (.dK (putK kvs kk v))) := by
  subst hk
  obtain ⟨p1, p2⟩ := vL kk r rv
  exact k.writeG hi ha hx trivial fun A' H' st e w => .dic e p1 rfl (p2.stay st w)
end M
namespace M
open PySem PySem.Spec L2
open PyProof.Rows hiding St
section
variable {X : Cx} {K : PySem.W.Frag} {l1 l2 : Lv} {e1 e2 : Expr} {fk fv : Sl → Res D} {pos cpos apos p : Pos} {x : Str}
def Vt (i : Nat) (fk fv : Sl → Res D) : Sl → Res Out := fun env => ownK i env >>= fun q => fv env >>= fun d => fk env >>= fun kd => match keyD kd with
  | some k => must (q.1.length < sizeLine) (.ok (.nx (env.set i (.own (.dic (QU q.1 k) (QV q.1 q.2 k d))))))
  | none => .stuck
theorem uN (i : Nat) (hu : X.A.units + 1 < cLine) (hk : DE X l1 e1 fk) (hv : DE X .s e2 fv) (hN : X.N[i]? = some x := by rfl) (hvs : Vis X.env.scope x := by first | exact Or.inl rfl | exact Or.inr (Or.inl rfl) | exact Or.inr (Or.inr rfl))
    (hd : (x == ("__debug__" : Str)) = false := by decide) (hcd : (x == ("__classdict__" : Str)) = false := by decide)
    (hs : swapsWith e2 (some (.Subscript (.Name x p) e1 apos)) pos.line X.env = pure false := by rfl) :
    DS X (.Assign [.Subscript (.Name x p) e1 apos] e2 pos) (Vt i fk fv) := by
 with_unfolding_all exact (
  PS.imp (Ka hu (wf (i := i) hN hvs hd hcd) hk hv hs) fun E σ H ⟨G, H0, env, o, k, ef, q⟩ => by
    obtain ⟨ks, c1, ef⟩ := jc ef
    obtain ⟨d, c2, ef⟩ := jc ef
    obtain ⟨kd, c3, c4⟩ := jc ef
    have hi := Ur c1
    obtain ⟨a, kvs, ha, hx, hkk, rs⟩ := Uo k hi
    cases hkey : keyD kd with
    | none => rw [hkey] at c4; cases c4
    | some kk =>
      rw [hkey] at c4
      obtain ⟨hz, c5⟩ := jB c4
      cases c5
      refine ⟨G, H0, env, d, k, c2, fun v H1 s1 r1 _ => ⟨.ref a, ha, G, H0, env, kd, k.grow s1, c3, fun y H2 s2 r2 _ => ?_⟩⟩
      have hx2 := s2 _ _ (s1 _ _ hx)
      have hy := KP (r2.weak (A' := Any) Lv.weak_b) hkey
      subst hy
      have hl : kvs.length < sizeLine := by rw [← hkk, List.length_map] at hz; exact hz
      refine ⟨a, _, rfl, DPut.k hx2 hl, ?_⟩
      have W := ((k.grow s1).grow s2).putD (kk := kk) hi ha hx2 hkk ((rs.grow s1).grow s2) (r1.grow s2)
      exact q σ _ W.1 ((W.2.grow s2).grow s1))
def kD : Key → D
  | .inl i => .int i
  | .inr x => .str x
theorem KQ {P : Program} {w : World} : ∀ {ks : List (Key × Value)} {its : List Value}, its.length = ks.length → (∀ (j : Nat) (v : Value), its[j]? = some v → ∃ k x, ks[j]? = some (k, x) ∧ (jI P w).is k v = true) → Vals (ks.map fun q => kV q.1) its
  | [], [], _, _ => .nil
  | [], _ :: _, h, _ => by simp at h
  | _ :: _, [], h, _ => by simp at h
  | (k, x) :: ks, v :: its, h, hv => by
    obtain ⟨k', x', e, hk⟩ := hv 0 v rfl
    simp at e
    obtain ⟨rfl, rfl⟩ := e
    refine .cons ?_ (KQ (by simpa using h) fun j u hu => hv (j + 1) u (by simpa using hu))
    cases k with
    | inl i =>
      obtain ⟨t, rfl⟩ := Value.isInt_shape (k := i) (v := v) hk
      exact ⟨t, rfl⟩
    | inr z =>
      obtain ⟨t, rfl⟩ := Value.isStrOf_shape (x := z) (v := v) hk
      exact ⟨t, rfl⟩
theorem Yv (hc : X.calm = true) : CallR X (.type "list") (fun xs H Q => ∃ a kvs, xs = [.ref a] ∧ H a = some (.dK kvs) ∧ ∀ l, H l = none → Q (.ref l) (upd H l (.lst (kvs.map fun q => kV q.1)))) := by
  intro pins s σ H xs us Q I r h
  obtain ⟨a, kvs, rfl, ha, q⟩ := h
  obtain ⟨u, rfl, rx⟩ := yq r
  cases rx
  obtain ⟨hz, hd, vs, rel, dd⟩ := jbl I.hok ha
  have hvl : vs.length ≤ sizeLine := by rw [← rel.length]; exact hz
  obtain ⟨ep, hat⟩ := dd.dictAt
  refine PySem.W.kdl_call (PySem.W.kdl_dict (knd := jI X.prog X.w) (kvs := vs) (ep := ep) hd) (I.ok.hd hc) hat hvl fun h' tk acc' c' hk hS hacc => ?_
  have hv := KQ (P := X.prog) (w := X.w) (ks := vs) (its := acc'.toList) (by rw [Array.length_toList]; exact hacc.1) fun j v e => hacc.2 j v (by rw [← Array.getElem?_toList]; exact e)
  have hkeys : (vs.map fun q => kV q.1) = (kvs.map fun q => kV q.1) := by
    have := rel.keys
    have h2 := congrArg (List.map kV) this
    simp only [List.map_map] at h2
    exact h2.symm
  rw [hkeys] at hv
  refine ⟨.ref s.heap.objs.size, _, I.laid (t' := tk) hk (Nat.le_refl _) (show ObjOk X.prog X.w _ h' _ (.lst (kvs.map fun q => kV q.1)) from ⟨by rw [List.length_map]; exact hz, acc'.toList, c', hv, by rw [Array.toArray_toList]; exact hS⟩), rfl, q _ (I.hok.fresh (Nat.le_refl _))⟩
def UE : List D → Res D
  | [.dic ks _] => must ((ks.all fun k => match k with | .inl _ => true | .inr _ => false) = true) (.ok (.lst (ks.map kD)))
  | _ => .stuck
theorem kG : QG K (fun xs H Q => ∃ a kvs, xs = [.ref a] ∧ H a = some (.dK kvs) ∧ ∀ l, H l = none → Q (.ref l) (upd H l (.lst (kvs.map fun q => kV q.1)))) UE := by
  intro A xs H ds d Q r e q
  unfold UE at e
  split at e
  · rename_i ks vs
    obtain ⟨hall, e2⟩ := jB e
    cases e2
    obtain ⟨v, rfl, r1⟩ := r.one
    obtain ⟨p, kvs, rfl, hp, _, rfl, _⟩ := r1.dicE
    refine ⟨p, kvs, rfl, hp, fun l hl => q _ _ (Same.upd hl) (.lst jA (.inl hl) ?_) (j4 (Same.refl H) hl)⟩
    have key : ∀ (kvs : List (Key × V)), ((kvs.map (·.1)).all fun k => match k with | .inl _ => true | .inr _ => false) = true → ∀ (A' : Addr → Prop) (H' : Hp), Reps K A' H' (kvs.map fun q => kV q.1) ((kvs.map (·.1)).map kD) := by
      intro kvs
      induction kvs with
      | nil => intro _ A' H'; exact .nil
      | cons q r ih =>
        intro h A' H'
        simp only [List.map_cons, List.all_cons, Bool.and_eq_true] at h
        obtain ⟨k, v⟩ := q
        cases k with
        | inl i => exact .cons (.int i) (ih h.2 A' H')
        | inr z => cases h.1
    exact key kvs hall _ _
  · cases e
end
end M
namespace M
open PySem PySem.W PyProof.Rows
def Wk {α : Type} (lt : Nat → Nat → Bool) (n : Nat) (R : α → Prop) : KasT α → Prop
  | .ret a => R a
  | .ask i j k => i < n ∧ j < n ∧ Wk lt n R (k (lt i j))
theorem Wk.bind {α β : Type} {lt : Nat → Nat → Bool} {n : Nat} {R : α → Prop} {R' : β → Prop} {f : α → KasT β} (hf : ∀ a, R a → Wk lt n R' (f a)) : ∀ {t : KasT α}, Wk lt n R t → Wk lt n R' (t.bind f)
  | .ret a, h => hf a h
  | .ask i j k, h => ⟨h.1, h.2.1, Wk.bind hf h.2.2⟩
theorem Wk.imp {α : Type} {lt : Nat → Nat → Bool} {n : Nat} {R R' : α → Prop} (hr : ∀ a, R a → R' a) : ∀ {t : KasT α}, Wk lt n R t → Wk lt n R' t
  | .ret a, h => hr a h
  | .ask i j k, h => ⟨h.1, h.2.1, Wk.imp hr h.2.2⟩
theorem ve {α : Type} {lt : Nat → Nat → Bool} {n : Nat} {R : α → Prop} {Q : α → Shared → Prop} {P : Shared → Prop} {cmp : Nat → Nat → (Bool → Shared → Prop) → Shared → Prop}
    (hc : ∀ i j C s, i < n → j < n → P s → (∀ s', P s' → C (lt i j) s') → cmp i j C s) (hQ : ∀ a s, R a → P s → Q a s) : ∀ (t : KasT α) (s : Shared), Wk lt n R t → P s → t.kasWp cmp Q s
  | .ret a, s, h, hs => hQ a s h hs
  | .ask i j k, s, h, hs => hc i j _ s h.1 h.2.1 hs fun s' hs' => ve hc hQ _ s' h.2.2 hs'
structure Ord (lt : Nat → Nat → Bool) (n : Nat) : Prop where
  asym : ∀ i j, lt i j = true → lt j i = false
  trans : ∀ i j k, i < n → j < n → k < n → lt i j = true → lt j k = true → lt i k = true
  total : ∀ i j, i < n → j < n → i ≠ j → lt i j = true ∨ lt j i = true
abbrev at0 (p : Array Nat) (i : Nat) : Nat := p.getD i 0
structure Pm (p : Array Nat) (n : Nat) : Prop where
  size : p.size = n
  perm : p.toList.Perm (List.range n)
theorem xE {p : Array Nat} {i : Nat} (h : i < p.size) : p[i]? = some (at0 p i) := by
  rw [Array.getElem?_eq_getElem h]; simp [at0, Array.getD, h]
theorem Pm.lt {p : Array Nat} {n i : Nat} (h : Pm p n) (hi : i < n) : at0 p i < n := by
  have hi' : i < p.size := by rw [h.size]; exact hi
  have : at0 p i ∈ p.toList := by simp [at0, Array.getD, hi']
  exact List.mem_range.mp (h.perm.mem_iff.mp this)
theorem Pm.ne {p : Array Nat} {n i j : Nat} (h : Pm p n) (hi : i < n) (hj : j < n) (hij : i ≠ j) : at0 p i ≠ at0 p j := by
  have nd : p.toList.Nodup := h.perm.nodup_iff.mpr List.nodup_range
  have hi' : i < p.toList.length := by simp [h.size, hi]
  have hj' : j < p.toList.length := by simp [h.size, hj]
  intro e
  have e1 : at0 p i = p.toList[i] := by simp [at0, Array.getD, h.size, hi]
  have e2 : at0 p j = p.toList[j] := by simp [at0, Array.getD, h.size, hj]
  rw [e1, e2] at e
  have pw := List.pairwise_iff_getElem.mp nd
  rcases Nat.lt_or_gt_of_ne hij with z | z
  · exact pw i j hi' hj' z e
  · exact pw j i hj' hi' z e.symm
theorem Pm.of {p q : Array Nat} {n : Nat} (h : Pm p n) (hs : q.size = p.size) (hp : q.Perm p) : Pm q n := ⟨by rw [hs, h.size], (Array.perm_iff_toList_perm.mp hp).trans h.perm⟩
theorem Pm.rev {p : Array Nat} {n : Nat} (h : Pm p n) (i j : Nat) : Pm (kas_rev p i j) n := h.of (mirror_size _ _ _ _) (mirror_perm _ _ _ _)
theorem VN {p : Array Nat} {n j k : Nat} (h : Pm p n) (hj : j ≤ n) (hk : k < n) : at0 (kas_rev p 0 j) k = if k < j then at0 p (j - 1 - k) else at0 p k := by
  have hR := h.rev 0 j
  have e := getElem?_mirror_all (xs := p) (i := 0) (j := j) (by rw [h.size]; exact hj) k
  have e1 := xE (p := kas_rev p 0 j) (i := k) (by rw [hR.size]; exact hk)
  unfold kas_rev at e1
  rw [e] at e1
  simp only [Nat.zero_le, true_and, Nat.zero_add] at e1
  show at0 (mirror p 0 j ((j - 0) / 2)) k = _
  split at e1
  · rename_i hkj
    rw [if_pos hkj]
    rw [xE (by rw [h.size]; omega)] at e1
    exact (Option.some.inj e1).symm
  · rename_i hkj
    rw [if_neg hkj]
    rw [xE (by rw [h.size]; exact hk)] at e1
    exact (Option.some.inj e1).symm
section
variable {lt : Nat → Nat → Bool} {n : Nat} (O : Ord lt n)
def Up (lt : Nat → Nat → Bool) (p : Array Nat) (k : Nat) : Prop := ∀ i j, i < j → j < k → lt (at0 p i) (at0 p j) = true
def Down (lt : Nat → Nat → Bool) (p : Array Nat) (k : Nat) : Prop := ∀ i j, i < j → j < k → lt (at0 p j) (at0 p i) = true
include O
theorem Up.snoc {p : Array Nat} {k : Nat} (hp : Pm p n) (hk : k + 1 < n) (h : Up lt p (k + 1)) (hl : lt (at0 p k) (at0 p (k + 1)) = true) : Up lt p (k + 2) := fun i j hij hj => by
  by_cases e : j = k + 1
  · subst e
    by_cases e2 : i = k
    · subst e2; exact hl
    · exact O.trans _ _ _ (hp.lt (by omega)) (hp.lt (by omega)) (hp.lt hk) (h i k (by omega) (by omega)) hl
  · exact h i j hij (by omega)
theorem Down.snoc {p : Array Nat} {k : Nat} (hp : Pm p n) (hk : k + 1 < n) (h : Down lt p (k + 1)) (hl : lt (at0 p (k + 1)) (at0 p k) = true) : Down lt p (k + 2) := fun i j hij hj => by
  by_cases e : j = k + 1
  · subst e
    by_cases e2 : i = k
    · subst e2; exact hl
    · exact O.trans _ _ _ (hp.lt hk) (hp.lt (by omega)) (hp.lt (by omega)) hl (h i k (by omega) (by omega))
  · exact h i j hij (by omega)
theorem u9 {p : Array Nat} {i j : Nat} (hp : Pm p n) (hi : i < n) (hj : j < n) (hij : i ≠ j) (h : lt (at0 p i) (at0 p j) = false) : lt (at0 p j) (at0 p i) = true := by
  rcases O.total _ _ (hp.lt hi) (hp.lt hj) (hp.ne hi hj hij) with z | z
  · rw [h] at z; cases z
  · exact z
theorem u0 {p : Array Nat} (hp : Pm p n) : ∀ (f m : Nat), 1 ≤ m → m + f = n → Up lt p m → Wk lt n (fun r => m ≤ r ∧ r ≤ n ∧ Up lt p r ∧ (r < n → lt (at0 p r) (at0 p (r - 1)) = true)) (kas_asc p f m)
  | 0, m, h1, h2, h => ⟨Nat.le_refl _, by omega, h, fun z => by omega⟩
  | f + 1, m, h1, h2, h => by
    refine ⟨hp.lt (by omega), hp.lt (by omega), ?_⟩
    cases hc : lt (p.getD m 0) (p.getD (m - 1) 0) with
    | true =>
      exact ⟨Nat.le_refl _, by omega, h, fun _ => hc⟩
    | false =>
      have hup : Up lt p (m + 1) := by
        have e : m = (m - 1) + 1 := by omega
        have hl := u9 O hp (i := m) (j := m - 1) (by omega) (by omega) (by omega) hc
        rw [e] at h ⊢
        exact Up.snoc O hp (by omega) h (by rw [← e]; exact hl)
      have ih := u0 hp f (m + 1) (by omega) (by omega) hup
      exact Wk.imp (fun r ⟨a, b, c, d⟩ => ⟨by omega, b, c, d⟩) ih
theorem vq {p : Array Nat} (hp : Pm p n) : ∀ (f m : Nat), 1 ≤ m → m + f = n → Down lt p m → Wk lt n (fun r => r.1 = p ∧ m ≤ r.2.1 ∧ r.2.1 ≤ n ∧ Down lt p r.2.1 ∧ r.2.2 = 0) (kas_desc f p m 0)
  | 0, m, h1, h2, h => ⟨rfl, Nat.le_refl _, (show m ≤ n by omega), h, rfl⟩
  | f + 1, m, h1, h2, h => by
    refine ⟨hp.lt (by omega), hp.lt (by omega), ?_⟩
    cases hc : lt (p.getD m 0) (p.getD (m - 1) 0) with
    | true =>
      have hdn : Down lt p (m + 1) := by
        have e : m = (m - 1) + 1 := by omega
        have hl : lt (at0 p m) (at0 p (m - 1)) = true := hc
        rw [e] at h ⊢
        exact Down.snoc O hp (by omega) h (by rw [← e]; exact hl)
      have ih := vq hp f (m + 1) (by omega) (by omega) hdn
      exact Wk.imp (fun r ⟨a, b, c, d, e⟩ => ⟨a, by omega, c, d, e⟩) ih
    | false =>
      have hl := u9 O hp (i := m) (j := m - 1) (by omega) (by omega) (by omega) hc
      refine ⟨hp.lt (by omega), hp.lt (by omega), ?_⟩
      show Wk lt n _ (if lt (at0 p (m - 1)) (at0 p m) = true then _ else _)
      rw [if_pos hl]
      exact ⟨rfl, Nat.le_refl _, (show m ≤ n by omega), h, rfl⟩
theorem Down.rev {p : Array Nat} {k : Nat} (hp : Pm p n) (hk : k ≤ n) (h : Down lt p k) : Up lt (kas_rev p 0 k) k := fun i j hij hj => by
  rw [VN hp hk (by omega), VN hp hk (by omega), if_pos (by omega), if_pos hj]
  exact h _ _ (by omega) (by omega)
theorem jad {p : Array Nat} {k : Nat} (hp : Pm p n) (h1 : 1 ≤ k) (hk : k ≤ n) (h : Down lt p k) : Wk lt n (fun r => 1 ≤ r.1 ∧ r.1 ≤ n ∧ Pm r.2 n ∧ Up lt r.2 r.1) (kas_tail3 k n p) := by
  unfold kas_tail3
  refine Wk.bind (fun r ⟨a, b, c, _⟩ => ?_) (u0 O (hp.rev 0 k) (n - k) k h1 (by omega) (Down.rev O hp hk h))
  exact ⟨by omega, b, hp.rev 0 k, c⟩
theorem uV {p : Array Nat} (hp : Pm p n) (hn : 1 ≤ n) : Wk lt n (fun r => 1 ≤ r.1 ∧ r.1 ≤ n ∧ Pm r.2 n ∧ Up lt r.2 r.1) (kas_count n p) := by
  unfold kas_count
  refine Wk.bind (fun r ⟨a, b, c, d⟩ => ?_) (u0 O hp (n - 1) 1 (Nat.le_refl _) (by omega) (fun i j hij hj => by omega))
  by_cases e : r = n
  · subst e
    rw [if_pos (by simp)]
    exact ⟨a, b, hp, c⟩
  · rw [if_neg (by simpa using e)]
    by_cases h1 : r > 1
    · rw [if_pos h1]
      refine ⟨hp.lt (by omega), hp.lt (by omega), ?_⟩
      have : lt (p.getD 0 0) (p.getD (r - 1) 0) = true := c 0 (r - 1) (by omega) (by omega)
      show Wk lt n _ (if lt (p.getD 0 0) (p.getD (r - 1) 0) = true then _ else _)
      rw [if_pos this]
      exact ⟨a, b, hp, c⟩
    · rw [if_neg h1]
      have hr : r = 1 := by omega
      subst hr
      unfold kas_descPart
      have hd : Down lt p 2 := fun i j hij hj => by
        have : i = 0 ∧ j = 1 := by omega
        obtain ⟨rfl, rfl⟩ := this
        exact d (by omega)
      refine Wk.bind (fun q ⟨q1, q2, q3, q4, q5⟩ => ?_) (vq O hp (n - 2) 2 (by omega) (by omega) hd)
      rw [if_neg (by omega), q1]
      exact jad O hp (by omega) q3 q4
theorem Z4 {p : Array Nat} {k : Nat} (hp : Pm p n) (hk : k < n) (hu : Up lt p k) : ∀ (f l r : Nat), l ≤ r → r ≤ k → r - l ≤ f → (∀ i, i < l → lt (at0 p i) (at0 p k) = true) → (∀ i, r ≤ i → i < k → lt (at0 p k) (at0 p i) = true) →
    Wk lt n (fun m => m ≤ k ∧ (∀ i, i < m → lt (at0 p i) (at0 p k) = true) ∧ ∀ i, m ≤ i → i < k → lt (at0 p k) (at0 p i) = true) (kas_place p k f l r)
  | 0, l, r, h1, h2, h3, hl, hr => ⟨by omega, hl, fun i a b => hr i (by omega) b⟩
  | f + 1, l, r, h1, h2, h3, hl, hr => by
    unfold kas_place
    by_cases e : l ≥ r
    · rw [if_pos e]
      exact ⟨by omega, hl, fun i a b => hr i (by omega) b⟩
    · rw [if_neg e]
      have hm : (l + r) / 2 < r := by omega
      refine ⟨hp.lt hk, hp.lt (by omega), ?_⟩
      cases hc : lt (p.getD k 0) (p.getD ((l + r) / 2) 0) with
      | true =>
        refine Z4 hp hk hu f l ((l + r) / 2) (by omega) (by omega) (by omega) hl fun i a b => ?_
        by_cases e2 : i = (l + r) / 2
        · rw [e2]; exact hc
        · exact O.trans _ _ _ (hp.lt hk) (hp.lt (show (l + r) / 2 < n by omega)) (hp.lt (by omega)) hc (hu _ _ (by omega) b)
      | false =>
        have hl2 := u9 O hp (i := k) (j := (l + r) / 2) hk (by omega) (by omega) hc
        refine Z4 hp hk hu f ((l + r) / 2 + 1) r (by omega) h2 (by omega) (fun i a => ?_) hr
        by_cases e2 : i = (l + r) / 2
        · rw [e2]; exact hl2
        · exact O.trans _ _ _ (hp.lt (by omega)) (hp.lt (show (l + r) / 2 < n by omega)) (hp.lt hk) (hu _ _ (by omega) (by omega)) hl2
theorem JT {p : Array Nat} {k l i : Nat} (hp : Pm p n) (hk : k < n) (hl : l ≤ k) (hi : i < n) : at0 (bubble p k (k - l)) i = if i = l then at0 p k else if l < i ∧ i ≤ k then at0 p (i - 1) else at0 p i := by
  have hB : Pm (bubble p k (k - l)) n := hp.of (bubble_size _ _ _) (bubble_perm _ _ _)
  have e := getElem?_bubble (xs := p) (src := k) (by rw [hp.size]; exact hk) (k - l) (by omega) i
  rw [xE (by rw [hB.size]; exact hi)] at e
  have ekl : k - (k - l) = l := by omega
  rw [ekl] at e
  split at e
  · rename_i z
    rw [if_pos z]
    rw [xE (by rw [hp.size]; exact hk)] at e
    exact Option.some.inj e
  · rename_i z
    rw [if_neg z]
    split at e
    · rename_i z2
      rw [if_pos z2]
      rw [xE (by rw [hp.size]; omega)] at e
      exact Option.some.inj e
    · rename_i z2
      rw [if_neg z2]
      rw [xE (by rw [hp.size]; exact hi)] at e
      exact Option.some.inj e
theorem jbt : ∀ (f : Nat) (p : Array Nat) (k : Nat), Pm p n → k + f = n → Up lt p k → Wk lt n (fun q => Pm q n ∧ Up lt q n) (kas_bin f p k)
  | 0, p, k, hp, hk, h => ⟨hp, by have : k = n := by omega
                                  rw [this] at h; exact h⟩
  | f + 1, p, k, hp, hk, h => by
    unfold kas_bin
    refine Wk.bind (fun l ⟨a, b, c⟩ => ?_) (Z4 O hp (by omega) h k 0 k (by omega) (Nat.le_refl _) (by omega) (fun i z => by omega) (fun i z w => by omega))
    refine jbt f _ (k + 1) (hp.of (bubble_size _ _ _) (bubble_perm _ _ _)) (by omega) fun i j hij hj => ?_
    rw [JT O hp (by omega) a (by omega), JT O hp (by omega) a (by omega)]
    by_cases e1 : i = l
    · rw [if_pos e1, if_neg (by omega), if_pos (by omega)]
      exact c _ (by omega) (by omega)
    · rw [if_neg e1]
      by_cases e2 : l < i ∧ i ≤ k
      · rw [if_pos e2, if_neg (by omega), if_pos (by omega)]
        exact h _ _ (by omega) (by omega)
      · rw [if_neg e2]
        by_cases e3 : j = l
        · rw [if_pos e3]; exact b _ (by omega)
        · rw [if_neg e3]
          by_cases e4 : l < j ∧ j ≤ k
          · rw [if_pos e4]
            by_cases e5 : i = j - 1
            · omega
            · exact h _ _ (by omega) (by omega)
          · rw [if_neg e4]; exact h _ _ hij (by omega)
theorem jai (hn : 1 ≤ n) : Wk lt n (fun q => Pm q n ∧ Up lt q n) (kas_sort n) := by
  have hp : Pm (List.toArray (List.range n)) n := ⟨by simp, by simp⟩
  unfold kas_sort
  refine Wk.bind (fun r ⟨a, b, c, d⟩ => ?_) (uV O hp hn)
  by_cases e : r.1 < n
  · rw [if_pos e]
    have : max r.1 1 = r.1 := by omega
    rw [this]
    exact jbt O _ _ _ c (by omega) d
  · rw [if_neg e]
    have : r.1 = n := by omega
    rw [this] at d
    exact ⟨c, d⟩
end
end M
namespace M
open PySem PySem.W PyProof.Rows
section
variable {prog : Program} {w : World} {A : Around} {E : Value → Shared → Prop} {s : Shared} {a : Addr} {vs : List Value} {n : Nat}
def qN (h : Heap) (a : Addr) (vs : List Value) : Heap := ((h.update a (Obj.mapSeq fun _ => (#[] : Array Value))).push (seqObj "tuple" vs.toArray 0)).push (seqObj "list" #[] 0)
def Z7 (vs : List Value) (p : Array Nat) : List Value := p.toList.map fun i => vs.getD i Value.none
theorem x3 {h : Heap} {b : Addr} {o : Obj} (hb : b ≠ a) (e : h.get? b = some o) : (qN h a vs).get? b = some o :=
  Heap.get?_push_of_some _ (Heap.get?_push_of_some _ ((Heap.get?_update_other _ _ (Ne.symm hb)).trans e))
theorem Qk {P : PySem.Fin → Shared → Prop} {lt : Nat → Nat → Bool} (O : Ord lt vs.length) (κ : SortKind) (ho : s.heap.get? a = some (seqObj "list" vs.toArray n)) (h2 : 2 ≤ vs.length) (h64 : vs.length < 64)
    (hk : ∀ Q : SortKind → Shared → Prop, Q κ { s with heap := qN s.heap a vs } → wpAny (model prog w) A (keyKind' vs.toArray) Q (fun _ _ => False) { s with heap := qN s.heap a vs })
    (hc : ∀ i j C, i < vs.length → j < vs.length → C (lt i j) { s with heap := qN s.heap a vs } → kas_ask prog w A κ vs i j C { s with heap := qN s.heap a vs })
    (h : ∀ p h' c, Pm p vs.length → Up lt p vs.length → (∀ b o, b ≠ a → s.heap.get? b = some o → h'.get? b = some o) → h'.get? a = some (seqObj "list" (List.toArray (Z7 vs p)) c) → P (.done (.ret .none)) { s with heap := h' }) :
    wpAny (model prog w) A (Builtin.«list.sort» ⟨[.ref a], []⟩) P E s := by
  obtain ⟨c1, b1⟩ : ∃ c1, (s.heap.update a (Obj.mapSeq fun _ => (#[] : Array Value))).get? a = some (seqObj "list" #[] c1) := ⟨_, get?_update_seq ho fun _ => #[]⟩
  have b2 : (qN s.heap a vs).get? a = some (seqObj "list" #[] c1) := Heap.get?_push_of_some _ (Heap.get?_push_of_some _ b1)
  have big : vs.length ≤ sizeLine := by rw [sizeLine_eq]; omega
  have walk : (kas_sort vs.length).kasWp (kas_ask prog w A κ vs) (fun p t => t = { s with heap := qN s.heap a vs } ∧ Pm p vs.length ∧ Up lt p vs.length) { s with heap := qN s.heap a vs } :=
    ve (P := fun t => t = { s with heap := qN s.heap a vs }) (R := fun p => Pm p vs.length ∧ Up lt p vs.length) (fun i j C t hi hj ht hC => by subst ht; exact hc i j C hi hj (hC _ rfl)) (fun p t hp ht => ⟨ht, hp⟩) _ _ (jai O (by omega)) rfl
  rw [list_sort_plain]
  refine wpAny_bind (listItems_at (s := s) ho rfl (wpAny_bind (listUpdate_at (s := s) ho rfl (wpAny_bind (seqEpoch_at b1 rfl (wpAny_bind (wpAny_newTuple (wpAny_bind (wpAny_newList (wpAny_holding ?_) (Nat.zero_le _))) (by show vs.length ≤ sizeLine; exact big))))) (by rw [List.size_toArray]; exact big) (Nat.zero_le _))))
  show wpAny (model prog w) A _ P E { s with heap := qN s.heap a vs }
  dsimp only
  have small : ¬ vs.toArray.size < 2 := by rw [List.size_toArray]; omega
  rw [if_neg small, if_neg small]
  refine wpAny_bind (wpAny_mono (hk (fun κ' t => κ' = κ ∧ t = { s with heap := qN s.heap a vs }) ⟨rfl, rfl⟩) (fun κ' t hkt => ?_) fun _ _ z => z.elim)
  obtain ⟨rfl, rfl⟩ := hkt
  refine wpAny_bind (wpAny_mono (kat_run (κ := κ') (Q := fun st t => ∃ p : Array Nat, p.size = vs.length ∧ arrOf st = p.map (kas_item (vs.toArray.zip vs.toArray)) ∧ failedOf st = none ∧ t = { s with heap := qN s.heap a vs } ∧ Pm p vs.length ∧ Up lt p vs.length) rfl h2 h64 (fun p st t z1 z2 z3 z4 => ⟨p, z1, z2, z3, z4⟩) walk) ?_ fun _ _ z => z)
  rintro ⟨⟨⟩, st⟩ t ⟨p, hp, har, hf, rfl, hpm, hup⟩
  dsimp only
  have hsz : (List.toArray (Z7 vs p)).size ≤ sizeLine := by rw [List.size_toArray]; unfold Z7; rw [List.length_map, Array.length_toList, hp]; exact big
  rw [kat_snds rfl har]
  obtain ⟨c2, hc2⟩ : ∃ c2, ((qN s.heap a vs).update a (Obj.mapSeq fun _ => List.toArray (Z7 vs p))).get? a = some (seqObj "list" (List.toArray (Z7 vs p)) c2) := ⟨_, get?_update_seq b2 fun _ => List.toArray (Z7 vs p)⟩
  refine wpAny_bind (seqEpoch_at b2 rfl (wpAny_bind (listUpdate_at b2 rfl ?_ (Nat.zero_le _) (Nat.le_succ_of_le hsz))))
  rw [hf]
  simp only [bne_self_eq_false, Bool.false_eq_true, if_false]
  exact wpAny_pure (h p _ c2 hpm hup (fun b o hb e => (Heap.get?_update_other _ _ (Ne.symm hb)).trans (x3 hb e)) hc2)
end
end M
namespace M
open PySem PySem.W PyProof.Rows
def DAt (h : Heap) (d : Addr) (ks : List Value) (ep : Nat) : Prop := ∃ o es, h.get? d = some o ∧ o.ExactDict ∧ o.data = .dict es ep ∧ es.toList.map (·.key) = ks
section
variable {prog : Program} {w : World} {A : Around} {E : Value → Shared → Prop} {s : Shared} {d it : Addr} {ks : List Value} {ep i : Nat}
theorem DAt.typeIs (x : DAt s.heap d ks ep) : s.TypeIs (.ref d) "dict" := let ⟨o, es, ho, hc, _⟩ := x; ⟨o, ho, hc.1⟩
theorem DAt.at {h h' : Heap} (x : DAt h d ks ep) (e : ∀ o, h.get? d = some o → h'.get? d = some o) : DAt h' d ks ep := let ⟨o, es, ho, r⟩ := x; ⟨o, es, e _ ho, r⟩
theorem DAt.lt {h : Heap} (x : DAt h d ks ep) : d < h.objs.size := let ⟨_, _, ho, _⟩ := x; Heap.lt_size ho
theorem kz {Q : Value → Shared → Prop} (hd : (d == sysModules) = false) (hm : DAt s.heap d ks ep)
    (hQ : Q (.ref s.heap.objs.size) { s with heap := s.heap.push { cls := .type "dict_keyiterator", data := .fields #[.ref d, .int 0 0, .int ks.length 0, .int ep 0] } }) : wpAny (model prog w) A (pyIter (.ref d)) Q E s := by
  obtain ⟨o, es, ho, hc, hdat, hkeys⟩ := id hm
  have T := hm.typeIs
  have hsz : es.size = ks.length := by rw [← hkeys]; simp
  refine wpAny_pyIter_slot T PySem.F.slot_dict_iter (wpAny_call_entry PySem.F.slot_dict_iter T PySem.F.entry_dict_iter ?_ (PySem.F.args_dict_iter_1 _))
  unfold Builtin.«dict.__iter__» Builtin.Dict.dictSlotNone
  refine wpAny_bind (wpAny_bind (wpAny_notOrdered_dict T (show wpAny _ _ (pure (Value.ref d)) _ _ s from wpAny_pure ?_)))
  show wpAny _ _ (Builtin.Dict.showsAll d >>= _) _ _ s
  unfold Builtin.Dict.showsAll
  rw [if_neg (by rw [hd]; exact Bool.false_ne_true)]
  refine wpAny_bind (wpAny_pure (wpAny_bind (wpAny_dictEntries ho hdat (wpAny_bind (wpAny_dictEpoch ho hdat (wpAny_bind (wpAny_newObj_type (wpAny_pure ⟨_, rfl, "dict_keyiterator", _, ⟨_, Heap.get?_push_size _ rfl, rfl⟩, PySem.F.slot_dict_keyiterator_next.lookup, ?_⟩))))))))
  simpa [rawInt, hsz] using hQ
theorem kA {Q : Option Value → Shared → Prop} {k : Value} (hit : s.heap.IsKeyIter it d i ks.length ep) (hm : DAt s.heap d ks ep) (hx : ks[i]? = some k)
    (hQ : ∀ h', h'.IsKeyIter it d (i + 1) ks.length ep → Heap.SameBut it s.heap h' → Q (some k) { s with heap := h' }) : wpAny (model prog w) A (pyNext (.ref it)) Q E s := by
  obtain ⟨o, ho, hc, hf⟩ := id hit
  obtain ⟨od, es, hod, hcd, hdd, hkeys⟩ := id hm
  have hsz : es.size = ks.length := by rw [← hkeys]; simp
  have hlt : i < es.size := by
    rw [hsz]
    rcases Nat.lt_or_ge i ks.length with z | z
    · exact z
    · rw [List.getElem?_eq_none z] at hx; cases hx
  have hk : es[i].key = k := by
    have : (es.toList.map (·.key))[i]? = some k := by rw [hkeys]; exact hx
    rw [List.getElem?_map] at this
    simpa [hlt] using this
  unfold pyNext
  refine wpAny_bind (wpAny_attempt (wpAny_callSpecial?_slot (name := Str.ofString "__next__") hit.typeIs PySem.F.slot_dict_keyiterator_next (wpAny_call_entry PySem.F.slot_dict_keyiterator_next hit.typeIs PySem.F.entry_dict_keyiterator_next ?_ (PySem.F.args_dict_keyiterator_next_1 _))))
  refine wpAny_bind (wpAny_pure (wpAny_bind (wpAny_bind ?_)))
  first | refine wpAny_bind (wpAny_typeNameOfWhole_keyiter hit.typeIs (wpAny_pure (wpAny_bind (wpAny_fieldsOf ho hf ?_)))) | refine wpAny_bind (wpAny_typeNameOf_keyiter hit.typeIs (wpAny_pure (wpAny_bind (wpAny_fieldsOf ho hf ?_))))
  simp only [show Builtin.Dict_items.ownsTuple "dict_keyiterator" = false by decide, Bool.false_eq_true, if_false]
  show wpAny _ _ (if (Value.ref d == Value.none) = true then _ else _) _ _ s
  rw [if_neg (show ¬ ((Value.ref d == Value.none) = true) by exact Bool.false_ne_true)]
  refine wpAny_bind (wpAny_pure (wpAny_bind (wpAny_dictEntries hod hdd ?_)))
  rw [if_neg (by rw [hsz]; simp)]
  refine wpAny_bind (wpAny_pure (wpAny_bind (wpAny_dictEpoch hod hdd ?_)))
  rw [if_neg (by simp)]
  refine wpAny_pure ?_
  simp only [show ¬ ((i : Int) < 0) by omega, if_false, Int.toNat_natCast, Array.getElem?_eq_getElem hlt]
  refine wpAny_bind ?_
  first | refine wpAny_bind (wpAny_typeNameOfWhole_keyiter hit.typeIs (wpAny_pure (wpAny_bind (wpAny_isOneOf_keyiter hit.typeIs ?_)))) | refine wpAny_bind (wpAny_typeNameOf_keyiter hit.typeIs (wpAny_pure (wpAny_bind (wpAny_isOneOf_keyiter hit.typeIs ?_))))
  show wpAny _ _ (setField (.ref it) 1 (rawInt ((i : Int) + 1)) >>= _) _ _ s
  refine wpAny_bind (wpAny_setField ho hf (by simp) (wpAny_bind (wpAny_holding ?_)))
  have hit2 : (s.heap.update it (Obj.mapFields (·.setIfInBounds 1 (rawInt ((i : Int) + 1))))).IsKeyIter it d (i + 1) ks.length ep :=
    ⟨_, Heap.get?_update_self _ ho (Obj.isFreed_of_fields (Obj.data_mapFields hf _)), (Obj.cls_mapFields ..).trans hc, by rw [Obj.data_mapFields hf]; simp [rawInt]⟩
  refine wpAny_bind (wpAny_isOneOf_keyiter (s := { s with heap := s.heap.update it (Obj.mapFields (·.setIfInBounds 1 (rawInt ((i : Int) + 1)))) }) hit2.typeIs ?_)
  show wpAny _ _ (pure es[i].key) _ _ _
  rw [hk]
  exact wpAny_pure (wpAny_pure ⟨_, rfl, wpAny_pure (hQ _ hit2 (Heap.SameBut.update ..))⟩)
theorem uU {Q : Option Value → Shared → Prop} (hh : A.handled = none) (hit : s.heap.IsKeyIter it d ks.length ks.length ep) (hm : DAt s.heap d ks ep)
    (hQ : ∀ h', Heap.ExtBut it s.heap h' → Q none { s with heap := h' }) : wpAny (model prog w) A (pyNext (.ref it)) Q E s := by
  obtain ⟨o, ho, hc, hf⟩ := id hit
  obtain ⟨od, es, hod, hcd, hdd, hkeys⟩ := id hm
  have hsz : es.size = ks.length := by rw [← hkeys]; simp
  unfold pyNext
  refine wpAny_bind (wpAny_attempt (wpAny_callSpecial?_slot (name := Str.ofString "__next__") hit.typeIs PySem.F.slot_dict_keyiterator_next (wpAny_call_entry PySem.F.slot_dict_keyiterator_next hit.typeIs PySem.F.entry_dict_keyiterator_next ?_ (PySem.F.args_dict_keyiterator_next_1 _))))
  refine wpAny_bind (wpAny_pure (wpAny_bind (wpAny_bind ?_)))
  first | refine wpAny_bind (wpAny_typeNameOfWhole_keyiter hit.typeIs (wpAny_pure (wpAny_bind (wpAny_fieldsOf ho hf ?_)))) | refine wpAny_bind (wpAny_typeNameOf_keyiter hit.typeIs (wpAny_pure (wpAny_bind (wpAny_fieldsOf ho hf ?_))))
  simp only [show Builtin.Dict_items.ownsTuple "dict_keyiterator" = false by decide, Bool.false_eq_true, if_false]
  show wpAny _ _ (if (Value.ref d == Value.none) = true then _ else _) _ _ s
  rw [if_neg (show ¬ ((Value.ref d == Value.none) = true) by exact Bool.false_ne_true)]
  refine wpAny_bind (wpAny_pure (wpAny_bind (wpAny_dictEntries hod hdd ?_)))
  rw [if_neg (by rw [hsz]; simp)]
  refine wpAny_bind (wpAny_pure (wpAny_bind (wpAny_dictEpoch hod hdd ?_)))
  rw [if_neg (by simp)]
  refine wpAny_pure ?_
  simp only [show ¬ (((ks.length : Nat) : Int) < 0) by omega, if_false, Int.toNat_natCast, Array.getElem?_eq_none (show es.size ≤ ks.length by omega)]
  refine wpAny_bind ?_
  first | refine wpAny_bind (wpAny_typeNameOfWhole_keyiter hit.typeIs (wpAny_pure ?_)) | refine wpAny_bind (wpAny_typeNameOf_keyiter hit.typeIs (wpAny_pure ?_))
  show wpAny _ _ (setField (.ref it) 0 .none >>= _) _ _ s
  refine wpAny_bind (wpAny_setField ho hf (by simp) ?_)
  show wpAny _ _ (newExc (.type "StopIteration") [] >>= _) _ _ _
  refine wpAny_bind ?_
  simp only [newExc, newTuple]
  refine wpAny_bind (wpAny_newObj_type (wpAny_bind (m := firstArgMember _ _) (wpAny_of_eq (a := Value.none) (by first | rfl | (simp only [firstArgMember]; rfl)) (wpAny_newObj_type ?_ (by size_fits)))) (by size_fits))
  simp only [raiseNew]
  refine wpAny_bind (wpAny_handled ?_)
  rw [show A.in1.handled = none from hh]
  refine wpAny_bind (wpAny_pure (wpAny_throw ?_))
  refine wpAny_bind (wpAny_isInstance (b := true) (T := "StopIteration") ⟨_, Heap.get?_push_size _ rfl, rfl⟩ isSubtype_stop ?_)
  exact wpAny_pure (hQ _ (((Heap.SameBut.update ..).extBut.push _).push _))
theorem uT (lo : (d == sysModules) = false) : KdlSrc prog w "dict" d d ks.length (fun i v => ks[i]? = some v) (fun h => DAt h d ks ep) where
  type := fun _ hm => hm.typeIs
  there := fun _ hm => ⟨hm.lt, hm.lt⟩
  keep := fun _ _ hm hk => hm.at fun o e => hk d (.inl rfl) o e
  notList := by decide
  notTuple := by decide
  hint := fun _ _ _ _ hm hq => kdl_hint_dict hm.typeIs hq
  iter := fun A s hh hm => ⟨_, (fun i h => h.IsKeyIter s.heap.objs.size d i ks.length ep ∧ DAt h d ks ep), (fun _ _ hq => kz lo hm hq), {
    sub := fun b hb => by simp at hb; simp [hb]
    frame := fun _ _ _ st hk => ⟨let ⟨o, ho, r⟩ := st.1; ⟨o, hk _ (by simp) o ho, r⟩, st.2.at fun o e => hk d (by simp) o e⟩
    item := fun i t Q E hi st hQ => by
      have hx : ks[i]? = some ks[i] := by simp [hi]
      exact kA st.1 st.2 hx fun h' hit' hs' => hQ _ h' t.toks hx ⟨hit', st.2.at fun o e => hs'.extBut d o (Nat.ne_of_lt hm.lt) e⟩ fun b o hb e => hs'.extBut b o (fun z => hb (by simp [z])) e
    done := fun t Q E st hQ => uU hh st.1 st.2 fun h' he' => hQ h' t.toks fun b o hb e => he' b o (fun z => hb (by simp [z])) e
    self := fun _ _ _ _ st hQ => wpAny_pyIter_keyiter st.1 hQ }, ⟨⟨_, Heap.get?_push_size _ rfl, rfl, rfl⟩, hm.at fun o e => Heap.get?_push_of_some _ e⟩⟩
end
end M
namespace M
open PySem PySem.W PyProof.Rows
abbrev Hd := Str × Int
def hlt (a b : Hd) : Bool := if a.1 = b.1 then decide (a.2 < b.2) else decide (a.1.cps.toList < b.1.cps.toList)
theorem vF {a b : Str} (h : a.cps.toList = b.cps.toList) : a = b := by
  cases a; cases b
  simp only [Str.mk.injEq]
  exact Array.toList_inj.mp h
theorem Xe {a b : Hd} (h : hlt a b = true) : hlt b a = false := by
  unfold hlt at h ⊢
  by_cases e : a.1 = b.1
  · rw [if_pos e] at h; rw [if_pos e.symm]
    simp only [decide_eq_true_eq] at h
    simp only [decide_eq_false_iff_not]; omega
  · rw [if_neg e] at h; rw [if_neg fun z => e z.symm]
    simp only [decide_eq_true_eq] at h
    simp only [decide_eq_false_iff_not]
    exact List.lt_asymm h
theorem Zn {a b c : Hd} (h1 : hlt a b = true) (h2 : hlt b c = true) : hlt a c = true := by
  unfold hlt at h1 h2 ⊢
  by_cases e : a.1 = b.1
  · rw [if_pos e] at h1
    by_cases e2 : b.1 = c.1
    · rw [if_pos e2] at h2; rw [if_pos (e.trans e2)]
      simp only [decide_eq_true_eq] at h1 h2 ⊢; omega
    · rw [if_neg e2] at h2; rw [if_neg (by rw [e]; exact e2), e]; exact h2
  · rw [if_neg e] at h1
    simp only [decide_eq_true_eq] at h1
    by_cases e2 : b.1 = c.1
    · rw [if_pos e2] at h2; rw [if_neg (by rw [← e2]; exact e), ← e2]; simpa using h1
    · rw [if_neg e2] at h2
      simp only [decide_eq_true_eq] at h2
      have h3 := List.lt_trans h1 h2
      have e3 : a.1 ≠ c.1 := fun z => List.lt_irrefl _ (by rw [z] at h3; exact h3)
      rw [if_neg e3]; simpa using h3
theorem Zo {a b : Hd} (h : a ≠ b) : hlt a b = true ∨ hlt b a = true := by
  unfold hlt
  by_cases e : a.1 = b.1
  · have e2 : a.2 ≠ b.2 := fun z => h (Prod.ext e z)
    rw [if_pos e, if_pos e.symm]
    simp only [decide_eq_true_eq]; omega
  · rw [if_neg e, if_neg fun z => e z.symm]
    simp only [decide_eq_true_eq]
    have : a.1.cps.toList ≠ b.1.cps.toList := fun z => e (vF z)
    by_cases z : a.1.cps.toList < b.1.cps.toList
    · exact .inl z
    · exact .inr (Std.lt_of_le_of_ne z (Ne.symm this))
def hltI (hs : List Hd) (i j : Nat) : Bool := match hs[i]?, hs[j]? with
  | some a, some b => hlt a b
  | _, _ => false
theorem Km {hs : List Hd} (nd : hs.Nodup) : Ord (hltI hs) hs.length where
  asym := fun i j h => by
    unfold hltI at h ⊢
    cases hi : hs[i]? with
    | none => rw [hi] at h; cases h
    | some a =>
      cases hj : hs[j]? with
      | none => rfl
      | some b => rw [hi, hj] at h; exact Xe h
  trans := fun i j k hi hj hk h1 h2 => by
    unfold hltI at h1 h2 ⊢
    rw [List.getElem?_eq_getElem hi, List.getElem?_eq_getElem hj] at h1
    rw [List.getElem?_eq_getElem hj, List.getElem?_eq_getElem hk] at h2
    rw [List.getElem?_eq_getElem hi, List.getElem?_eq_getElem hk]
    exact Zn h1 h2
  total := fun i j hi hj hij => by
    unfold hltI
    rw [List.getElem?_eq_getElem hi, List.getElem?_eq_getElem hj]
    refine Zo fun e => ?_
    have pw := List.pairwise_iff_getElem.mp nd
    rcases Nat.lt_or_gt_of_ne hij with z | z
    · exact pw i j hi hj z e
    · exact pw j i hj hi z e.symm
def IsHd (h : Heap) (v : Value) (a : Hd) : Prop := ∃ b o n t u, v = .ref b ∧ h.get? b = some o ∧ o.cls = .type "tuple" ∧ o.data = .seq #[.str a.1 t, .int a.2 u] n
section
variable {prog : Program} {w : World} {A : Around} {E : Value → Shared → Prop} {s : Shared}
theorem jbb {x y : Addr} {ox oy : Obj} {a b : Hd} {n m : Nat} {t u t' u' : Tok} {Q : Bool → Shared → Prop} (hx : s.heap.get? x = some ox) (dx : ox.data = .seq #[.str a.1 t, .int a.2 u] n) (hy : s.heap.get? y = some oy) (dy : oy.data = .seq #[.str b.1 t', .int b.2 u'] m) (h : Q (hlt a b) s) :
    wpAny (model prog w) A (keyLt' (tuples' true) (.ref x) (.ref y)) Q E s := by
  refine kat_lt hx dx hy dy ?_
  show KatLex prog w A true false Q [(.str a.1 t, .str b.1 t'), (.int a.2 u, .int b.2 u')] 0 s
  refine kat_cons (eqBool_str (kat_go (fun e => kat_yes (kat_cons (wpAny_eqBool_int (kat_go (fun e2 => kat_yes (kat_nil ?_)) fun e2 => kat_no (kat_one _ _ (wpAny_lt_int ?_)))))) fun e => kat_no (oneLt_str ?_)))
  · have h1 : a.1 = b.1 := by simpa using e
    have h2 : a.2 = b.2 := by simpa using e2
    have : hlt a b = false := by unfold hlt; rw [if_pos h1]; simp [h2]
    rw [this] at h; exact h
  · have h1 : a.1 = b.1 := by simpa using e
    have : hlt a b = decide (a.2 < b.2) := by unfold hlt; rw [if_pos h1]
    rw [this] at h; exact (show Q (decide (a.2 < b.2)) s from h)
  · have h1 : a.1 ≠ b.1 := by simpa using e
    have : hlt a b = decide (a.1.cps.toList < b.1.cps.toList) := by unfold hlt; rw [if_neg h1]
    rw [this] at h; exact h
theorem IsHd.keep {h h' : Heap} {v : Value} {a : Hd} (x : IsHd h v a) (k : ∀ b o, h.get? b = some o → o.cls = .type "tuple" → h'.get? b = some o) : IsHd h' v a :=
  let ⟨b, o, n, t, u, e, ho, hc, hd⟩ := x; ⟨b, o, n, t, u, e, k b o ho hc, hc, hd⟩
inductive AreHd (h : Heap) : List Value → List Hd → Prop where
  | nil : AreHd h [] []
  | cons {v : Value} {a : Hd} {vs : List Value} {hs : List Hd} : IsHd h v a → AreHd h vs hs → AreHd h (v :: vs) (a :: hs)
theorem AreHd.length {h : Heap} : ∀ {vs : List Value} {hs : List Hd}, AreHd h vs hs → vs.length = hs.length
  | _, _, .nil => rfl
  | _, _, .cons _ t => by simp [t.length]
theorem AreHd.keep {h h' : Heap} (k : ∀ b o, h.get? b = some o → o.cls = .type "tuple" → h'.get? b = some o) : ∀ {vs : List Value} {hs : List Hd}, AreHd h vs hs → AreHd h' vs hs
  | _, _, .nil => .nil
  | _, _, .cons x t => .cons (x.keep k) (t.keep k)
theorem AreHd.get {h : Heap} : ∀ {vs : List Value} {hs : List Hd} {i : Nat} {a : Hd}, AreHd h vs hs → hs[i]? = some a → IsHd h (vs.getD i Value.none) a
  | _, _, 0, a, .cons x t, e => by simp at e; subst e; simpa using x
  | _, _, i + 1, a, .cons x t, e => by simpa using t.get (i := i) (by simpa using e)
theorem AreHd.tups {h : Heap} : ∀ {vs : List Value} {hs : List Hd}, AreHd h vs hs → ∃ fs, KatTups h vs fs ∧ fs.length = vs.length ∧ ∀ f ∈ fs, ∃ z t, f = .str z t
  | _, _, .nil => ⟨[], KatTups.nil, rfl, fun _ z => nomatch z⟩
  | _, _, .cons x r => by
    obtain ⟨fs, k1, k2, k3⟩ := r.tups
    obtain ⟨b, o, n, t, u, rfl, ho, hc, hd⟩ := x
    exact ⟨_ :: fs, KatTups.cons ho hc hd rfl k1, by simp [k2], fun f hf => by
      rcases List.mem_cons.mp hf with rfl | hf
      · exact ⟨_, _, rfl⟩
      · exact k3 f hf⟩
theorem KI {M : Model} {h : Heap} {z : Str} {t : Tok} : Looks M h (typeOf (.str z t)) (.type "str") := Looks.of_pure rfl
theorem XX {P : PySem.Fin → Shared → Prop} {a : Addr} {vs : List Value} {hs : List Hd} {n : Nat} (ho : s.heap.get? a = some (seqObj "list" vs.toArray n)) (hv : AreHd s.heap vs hs) (nd : hs.Nodup) (h2 : 2 ≤ vs.length) (h64 : vs.length < 64)
    (h : ∀ p h' c, Pm p vs.length → Up (hltI hs) p vs.length → (∀ b o, b ≠ a → s.heap.get? b = some o → h'.get? b = some o) → h'.get? a = some (seqObj "list" (List.toArray (Z7 vs p)) c) → P (.done (.ret .none)) { s with heap := h' }) :
    wpAny (model prog w) A (Builtin.«list.sort» ⟨[.ref a], []⟩) P E s := by
  have hl := hv.length
  have keep : ∀ b o, s.heap.get? b = some o → o.cls = .type "tuple" → (qN s.heap a vs).get? b = some o := fun b o e hc => x3 (fun z => by
    subst z; rw [ho] at e; cases e; simp [seqObj] at hc) e
  have hv2 := hv.keep keep
  obtain ⟨fs, k1, k2, k3⟩ := hv2.tups
  refine Qk (lt := hltI hs) (by rw [hl]; exact Km nd) (tuples' (Value.type "str" != Value.type "tuple")) ho h2 h64 (fun Q q => ?_) (fun i j C hi hj hC => ?_) h
  · exact kat_kind (s := { s with heap := qN s.heap a vs }) k1 (by omega) (fun f hf => by obtain ⟨z, t, rfl⟩ := k3 f hf; exact KI) rfl q
  · have hi' : i < hs.length := by omega
    have hj' : j < hs.length := by omega
    obtain ⟨b, o, m, t, u, e1, ho1, _, hd1⟩ := hv2.get (List.getElem?_eq_getElem hi')
    obtain ⟨b', o', m', t', u', e2, ho2, _, hd2⟩ := hv2.get (List.getElem?_eq_getElem hj')
    show wpAny _ _ (keyLt' _ (vs.getD i Value.none) (vs.getD j Value.none)) C _ _
    rw [e1, e2]
    refine jbb (s := { s with heap := qN s.heap a vs }) ho1 hd1 ho2 hd2 ?_
    have : hltI hs i j = hlt hs[i] hs[j] := by unfold hltI; rw [List.getElem?_eq_getElem hi', List.getElem?_eq_getElem hj']
    rw [← this]; exact hC
end
end M
namespace M
open PySem PySem.W PyProof.Rows
section
variable {prog : Program} {w : World} {A : Around} {E : Value → Shared → Prop} {s : Shared} {a : Addr} {vs : List Value} {n : Nat}
theorem VX {P : PySem.Fin → Shared → Prop} (ho : s.heap.get? a = some (seqObj "list" vs.toArray n)) (h2 : vs.length < 2)
    (h : ∀ h' c, (∀ b o, b ≠ a → s.heap.get? b = some o → h'.get? b = some o) → h'.get? a = some (seqObj "list" vs.toArray c) → P (.done (.ret .none)) { s with heap := h' }) :
    wpAny (model prog w) A (Builtin.«list.sort» ⟨[.ref a], []⟩) P E s := by
  obtain ⟨c1, b1⟩ : ∃ c1, (s.heap.update a (Obj.mapSeq fun _ => (#[] : Array Value))).get? a = some (seqObj "list" #[] c1) := ⟨_, get?_update_seq ho fun _ => #[]⟩
  have b2 : (qN s.heap a vs).get? a = some (seqObj "list" #[] c1) := Heap.get?_push_of_some _ (Heap.get?_push_of_some _ b1)
  have big : vs.length ≤ sizeLine := by rw [sizeLine_eq]; omega
  rw [list_sort_plain]
  refine wpAny_bind (listItems_at (s := s) ho rfl (wpAny_bind (listUpdate_at (s := s) ho rfl (wpAny_bind (seqEpoch_at b1 rfl (wpAny_bind (wpAny_newTuple (wpAny_bind (wpAny_newList (wpAny_holding ?_) (Nat.zero_le _))) (by show vs.length ≤ sizeLine; exact big))))) (by rw [List.size_toArray]; exact big) (Nat.zero_le _))))
  show wpAny (model prog w) A _ P E { s with heap := qN s.heap a vs }
  dsimp only
  have small : vs.toArray.size < 2 := by rw [List.size_toArray]; omega
  rw [if_pos small, if_pos small]
  refine wpAny_bind (wpAny_pure (wpAny_bind (wpAny_pure ?_)))
  dsimp only
  have hout : (arrOf (SortSt.mk' general' (vs.toArray.zip vs.toArray) #[] 7 none)).map (·.2) = vs.toArray := by
    show (vs.toArray.zip vs.toArray).map (·.2) = vs.toArray
    apply Array.toList_inj.mp
    simp [List.map_snd_zip]
  rw [hout]
  obtain ⟨c2, hc2⟩ : ∃ c2, ((qN s.heap a vs).update a (Obj.mapSeq fun _ => vs.toArray)).get? a = some (seqObj "list" vs.toArray c2) := ⟨_, get?_update_seq b2 fun _ => vs.toArray⟩
  refine wpAny_bind (seqEpoch_at b2 rfl (wpAny_bind (listUpdate_at b2 rfl ?_ (Nat.zero_le _) (by rw [List.size_toArray]; exact Nat.le_succ_of_le big))))
  simp only [bne_self_eq_false, Bool.false_eq_true, if_false]
  exact wpAny_pure (h _ c2 (fun b o hb e => (Heap.get?_update_other _ _ (Ne.symm hb)).trans (x3 hb e)) hc2)
end
def insH (a : Hd) : List Hd → List Hd
  | [] => [a]
  | b :: r => if hlt a b = true then a :: b :: r else b :: insH a r
def x4 (hs : List Hd) : List Hd := hs.foldr insH []
theorem Ja (a : Hd) : ∀ l, (insH a l).Perm (a :: l)
  | [] => List.Perm.refl _
  | b :: r => by
    unfold insH
    split
    · exact List.Perm.refl _
    · exact ((Ja a r).cons b).trans (List.Perm.swap a b r)
theorem wa : ∀ hs, (x4 hs).Perm hs
  | [] => List.Perm.refl _
  | a :: r => (Ja a (x4 r)).trans ((wa r).cons a)
theorem KZ {a : Hd} : ∀ {l : List Hd}, l.Pairwise (fun x y => hlt x y = true) → a ∉ l → (insH a l).Pairwise (fun x y => hlt x y = true)
  | [], _, _ => by simp [insH]
  | b :: r, h, hn => by
    have h' := List.pairwise_cons.mp h
    unfold insH
    by_cases e : hlt a b = true
    · rw [if_pos e]
      refine List.pairwise_cons.mpr ⟨fun c hc => ?_, h⟩
      rcases List.mem_cons.mp hc with z | z
      · rw [z]; exact e
      · exact Zn e (h'.1 c z)
    · rw [if_neg e]
      have hab : a ≠ b := fun z => hn (by simp [z])
      have hba : hlt b a = true := (Zo hab).resolve_left e
      refine List.pairwise_cons.mpr ⟨fun c hc => ?_, KZ h'.2 fun z => hn (by simp [z])⟩
      rcases List.mem_cons.mp ((Ja a r).mem_iff.mp hc) with z | z
      · rw [z]; exact hba
      · exact h'.1 c z
theorem WH : ∀ {hs : List Hd}, hs.Nodup → (x4 hs).Pairwise (fun x y => hlt x y = true)
  | [], _ => List.Pairwise.nil
  | a :: r, h => by
    have h' := List.nodup_cons.mp h
    exact KZ (WH h'.2) fun z => h'.1 ((wa r).mem_iff.mp z)
theorem QJ : ∀ {l m : List Hd}, l.Pairwise (fun x y => hlt x y = true) → m.Pairwise (fun x y => hlt x y = true) → l.Perm m → l = m
  | [], m, _, _, p => (List.nil_perm.mp p).symm
  | a :: l, [], _, _, p => by have := p.length_eq; simp at this
  | a :: l, b :: m, hl, hm, p => by
    have hl' := List.pairwise_cons.mp hl
    have hm' := List.pairwise_cons.mp hm
    have e : a = b := by
      by_cases z : a = b
      · exact z
      · have h1 : a ∈ b :: m := p.mem_iff.mp (by simp)
        have h2 : b ∈ a :: l := p.mem_iff.mpr (by simp)
        have h1' : a ∈ m := (List.mem_cons.mp h1).resolve_left z
        have h2' : b ∈ l := (List.mem_cons.mp h2).resolve_left fun y => z y.symm
        have x1 := hl'.1 b h2'
        have x2 := hm'.1 a h1'
        rw [Xe x1] at x2; cases x2
    subst e
    rw [QJ hl'.2 hm'.2 (List.perm_cons a |>.mp p)]
inductive F2 {α β : Type} (R : α → β → Prop) : List α → List β → Prop where
  | nil : F2 R [] []
  | cons {a b as bs} : R a b → F2 R as bs → F2 R (a :: as) (b :: bs)
theorem F2.length {α β : Type} {R : α → β → Prop} : ∀ {as : List α} {bs : List β}, F2 R as bs → as.length = bs.length
  | _, _, .nil => rfl
  | _, _, .cons _ t => by simp [t.length]
theorem F2.get {α β : Type} {R : α → β → Prop} {a0 : α} {b0 : β} : ∀ {as : List α} {bs : List β} {i : Nat}, F2 R as bs → i < bs.length → R (as.getD i a0) (bs.getD i b0)
  | _, _, 0, .cons x t, _ => by simpa using x
  | _, _, i + 1, .cons x t, h => by simpa using t.get (i := i) (by simpa using h)
theorem F2.map {α β γ : Type} {R : α → β → Prop} {f : γ → α} {g : γ → β} : ∀ {l : List γ}, (∀ x ∈ l, R (f x) (g x)) → F2 R (l.map f) (l.map g)
  | [], _ => .nil
  | x :: l, h => .cons (h x (by simp)) (F2.map fun y hy => h y (by simp [hy]))
theorem Kk {hs : List Hd} {p : Array Nat} (nd : hs.Nodup) (hp : Pm p hs.length) (hu : Up (hltI hs) p hs.length) : p.toList.map (fun i => hs.getD i ("", 0)) = x4 hs := by
  have hmem : ∀ i ∈ p.toList, i < hs.length := fun i hi => List.mem_range.mp (hp.perm.mem_iff.mp hi)
  refine QJ ?_ (WH nd) ?_
  · rw [List.pairwise_map, List.pairwise_iff_getElem]
    intro i j hi hj hij
    have hl : p.toList.length = hs.length := by rw [Array.length_toList, hp.size]
    have := hu i j hij (by omega)
    have e1 : at0 p i = p.toList[i] := by simp [at0, Array.getD, hp.size, show i < hs.length by omega]
    have e2 : at0 p j = p.toList[j] := by simp [at0, Array.getD, hp.size, show j < hs.length by omega]
    rw [e1, e2] at this
    have b1 := hmem _ (List.getElem_mem hi)
    have b2 := hmem _ (List.getElem_mem hj)
    unfold hltI at this
    rw [List.getElem?_eq_getElem b1, List.getElem?_eq_getElem b2] at this
    show hlt (hs.getD p.toList[i] _) (hs.getD p.toList[j] _) = true
    rw [List.getD_eq_getElem?_getD, List.getD_eq_getElem?_getD, List.getElem?_eq_getElem b1, List.getElem?_eq_getElem b2]
    exact this
  · have h1 := hp.perm.map (fun i => hs.getD i (("" : Str), (0 : Int)))
    have h2 : (List.range hs.length).map (fun i => hs.getD i ("", 0)) = hs := by
      apply List.ext_getElem?
      intro i
      by_cases hi : i < hs.length
      · simp [hi]
      · rw [List.getElem?_eq_none (by simp; omega), List.getElem?_eq_none (by omega)]
    rw [h2] at h1
    exact h1.trans (wa hs).symm
theorem YV {hs : List Hd} (h : hs.length < 2) : x4 hs = hs := by
  match hs, h with
  | [], _ => rfl
  | [a], _ => rfl
section
variable {prog : Program} {w : World} {A : Around} {E : Value → Shared → Prop} {s : Shared} {a : Addr} {vs : List Value} {n : Nat}
theorem VY {P : PySem.Fin → Shared → Prop} {hs : List Hd} (ho : s.heap.get? a = some (seqObj "list" vs.toArray n)) (hv : AreHd s.heap vs hs) (nd : hs.Nodup) (h64 : vs.length < 64)
    (h : ∀ (us : List Value) h' c, (∀ R : Value → Hd → Prop, F2 R vs hs → F2 R us (x4 hs)) → (∀ b o, b ≠ a → s.heap.get? b = some o → h'.get? b = some o) → h'.get? a = some (seqObj "list" us.toArray c) → P (.done (.ret .none)) { s with heap := h' }) :
    wpAny (model prog w) A (Builtin.«list.sort» ⟨[.ref a], []⟩) P E s := by
  have hl := hv.length
  by_cases h2 : vs.length < 2
  · exact VX ho h2 fun h' c k e => h vs h' c (fun R r => by rw [YV (by omega)]; exact r) k e
  · refine XX ho hv nd (by omega) h64 fun p h' c hp hu k e => h _ h' c (fun R r => ?_) k e
    rw [hl] at hp hu
    rw [← Kk nd hp hu]
    exact F2.map fun i hi => r.get (List.mem_range.mp (hp.perm.mem_iff.mp hi))
end
end M
namespace M
open PySem PySem.W PyProof.Rows
section
variable {prog : Program} {w : World} {A : Around} {E : Value → Shared → Prop} {t : Shared} {vs : List Value} {hs : List Hd}
theorem ZV {Q : Value → Shared → Prop} (hv : AreHd t.heap vs hs) (nd : hs.Nodup) (h64 : vs.length < 64)
    (h : ∀ (us : List Value) h' c, (∀ R : Value → Hd → Prop, F2 R vs hs → F2 R us (x4 hs)) → (∀ b o, t.heap.get? b = some o → h'.get? b = some o) → h'.get? t.heap.objs.size = some (seqObj "list" us.toArray c) → Q (.ref t.heap.objs.size) { t with heap := h' }) :
    wpAny (model prog w) A (newList vs >>= fun l => holding [l] (call (.builtin "list.sort") [l] []) >>= fun _ => ret l) (fun fin s' => ∃ v, fin = .done (.ret v) ∧ Q v s') E t := by
  have hoL : (t.heap.push (seqObj "list" vs.toArray 0)).get? t.heap.objs.size = some (seqObj "list" vs.toArray 0) := Heap.get?_push_size _ rfl
  refine wpAny_bind (wpAny_newList (wpAny_bind (wpAny_holding ?_)) (by rw [sizeLine_eq]; omega))
  refine wpAny_call_entry (s := { t with heap := t.heap.push (seqObj "list" vs.toArray 0) }) slot_list_sort ⟨_, hoL, rfl⟩ entry_list_sort ?_ (args_list_sort _)
  refine VY (s := { t with heap := t.heap.push (seqObj "list" vs.toArray 0) }) hoL (hv.keep fun b o e _ => Heap.get?_push_of_some _ e) nd h64 fun us h' c r k e => ⟨_, rfl, wpAny_pure ⟨_, rfl, h us h' c r (fun b o e2 => k b o (fun z => ?_) (Heap.get?_push_of_some _ e2)) e⟩⟩
  exact Nat.lt_irrefl _ (by have := Heap.lt_size e2; rw [z] at this; exact this)
end
end M
namespace M
open PySem PySem.Spec L2
open PyProof.Rows hiding St
section
variable {X : Cx}
def HdV (H : Hp) (x : V) (a : Hd) : Prop := ∃ b, x = .ref b ∧ H b = some (.tup [.str a.1, .int a.2])
theorem jba {pins : List (Addr × Obj)} {σ : L2.St} {H : Hp} {s : Shared} (I : Inv X pins σ H s) : ∀ {ys : List V} {its : List Value} {hs : List Hd}, Vals ys its → F2 (HdV H) ys hs → AreHd s.heap its hs ∧ F2 (fun v a => ∃ b, v = Value.ref b ∧ H b = some (.tup [.str a.1, .int a.2])) its hs
  | _, _, _, .nil, .nil => ⟨.nil, .nil⟩
  | _, _, _, .cons r rs, .cons x xs => by
    obtain ⟨h1, h2⟩ := jba I rs xs
    obtain ⟨b, rfl, hb⟩ := x
    cases r
    obtain ⟨_, its, rv, o, ho, hc, n, hd⟩ := (show ObjOk X.prog X.w H s.heap b (.tup _) from I.hok b _ hb)
    cases rv with
    | cons q1 q2 =>
      cases q2 with
      | cons q3 q4 =>
        cases q4
        obtain ⟨t, rfl⟩ := q1
        obtain ⟨u, rfl⟩ := q3
        exact ⟨.cons ⟨b, o, n, t, u, rfl, ho, hc, hd⟩ h1, .cons ⟨b, rfl, hb⟩ h2⟩
theorem vy {H : Hp} : ∀ {us : List Value} {hs : List Hd}, F2 (fun v a => ∃ b, v = Value.ref b ∧ H b = some (.tup [.str a.1, .int a.2])) us hs → ∃ xs, Vals xs us ∧ F2 (HdV H) xs hs
  | _, _, .nil => ⟨[], .nil, .nil⟩
  | _, _, .cons ⟨b, e, hb⟩ t => by
    obtain ⟨xs, h1, h2⟩ := vy t
    subst e
    exact ⟨.ref b :: xs, .cons rfl h1, .cons ⟨b, rfl, hb⟩ h2⟩
end
end M
namespace M
open PySem PySem.Spec L2
open PyProof.Rows hiding St
def KL : List D → Option (List Key)
  | [] => some []
  | d :: r => match keyD d, KL r with
    | some k, some ks => some (k :: ks)
    | _, _ => none
def keyT : D → Option (List Key)
  | .tup ds => KL ds
  | _ => none
def hasT (ks : List (List Key)) (k : List Key) : Bool := ks.any fun x => decide (x = k)
def J4 (ks : List (List Key)) (k : List Key) : List (List Key) := if hasT ks k = true then ks else ks ++ [k]
def J5 (ks : List (List Key)) (ds : List D) (k : List Key) (d : D) : List D := if hasT ks k = true then (ks.zip ds).map (fun p => if p.1 = k then d else p.2) else ds ++ [d]
section
variable {K : PySem.W.Frag} {A : Addr → Prop} {H : Hp}
theorem W7 : ∀ {vs : List V} {ds : List D} {ks : List Key}, Reps K A H vs ds → KL ds = some ks → vs = ks.map kV
  | _, _, ks, .nil, h => by cases h; rfl
  | _, _, ks, .cons r t, h => by
    rename_i v d vs ds
    unfold KL at h
    cases e1 : keyD d with
    | none => rw [e1] at h; cases h
    | some k =>
      cases e2 : KL ds with
      | none => rw [e1, e2] at h; cases h
      | some r' =>
        rw [e1, e2] at h
        cases h
        rw [KP r e1, W7 t e2]; rfl
theorem Ql {y : V} {d : D} {k : List Key} (r : Rep K A H y d) (h : keyT d = some k) : ∃ b, y = .ref b ∧ H b = some (.tup (k.map kV)) := by
  cases r with
  | tup e rs => exact ⟨_, rfl, by rw [e, W7 rs h]⟩
  | _ => cases h
theorem XH (kvs : List (List Key × V)) (k : List Key) : (kvs.any fun kv => decide (kv.1 = k)) = hasT (kvs.map (·.1)) k := by
  unfold hasT; rw [List.any_map]; rfl
theorem QS {v : V} {d : D} (k : List Key) (rv : Rep K A H v d) : ∀ {kvs : List (List Key × V)} {ds : List D}, Reps K A H (kvs.map (·.2)) ds → Reps K A H ((kvs.map (fun kv => if kv.1 = k then (kv.1, v) else kv)).map (·.2)) (((kvs.map (·.1)).zip ds).map (fun p => if p.1 = k then d else p.2))
  | [], _, .nil => .nil
  | (k', v') :: kvs, _, .cons r1 r2 => by
    have ih := QS k rv r2
    by_cases hk : k' = k
    · simp only [List.map_cons, List.zip_cons_cons, hk, if_true]; exact .cons rv (by simpa [hk] using ih)
    · simp only [List.map_cons, List.zip_cons_cons, hk, if_false]; exact .cons r1 ih
theorem WL {v : V} {d : D} {kvs : List (List Key × V)} {ds : List D} (k : List Key) (r : Reps K A H (kvs.map (·.2)) ds) (rv : Rep K A H v d) :
    (putK kvs k v).map (·.1) = J4 (kvs.map (·.1)) k ∧ Reps K A H ((putK kvs k v).map (·.2)) (J5 (kvs.map (·.1)) ds k d) := by
  unfold putK J4 J5
  rw [XH]
  by_cases h : hasT (kvs.map (·.1)) k = true
  · rw [if_pos h, if_pos h, if_pos h]
    refine ⟨?_, QS k rv r⟩
    rw [List.map_map]
    apply List.map_congr_left
    intro p _
    simp only [Function.comp_apply]
    split <;> rfl
  · rw [if_neg h, if_neg h, if_neg h]
    refine ⟨by simp, ?_⟩
    rw [List.map_append]
    exact r.append (.cons rv .nil)
theorem Rep.ditE {v : V} {ks : List (List Key)} {ds : List D} (r : Rep K A H v (.dit ks ds)) : ∃ a kvs, v = .ref a ∧ H a = some (.dT kvs) ∧ A a ∧ kvs.map (·.1) = ks ∧ Reps K (fun c => A c ∧ c ≠ a) H (kvs.map (·.2)) ds := by
  cases r with
  | dit e a k1 k2 r => subst k2; exact ⟨_, _, rfl, e, a, k1, r⟩
end
theorem v3 {K : PySem.W.Frag} {G : Addr → Prop} {H0 H : Hp} {env : Sl} {σ : L2.St} {i : Nat} {ks : List (List Key)} {ds : List D} (k : EnvOk K G H0 env σ H) (hi : env[i]? = some (.own (.dit ks ds))) : ∃ a kvs, σ[i]? = some (some (.ref a)) ∧ H a = some (.dT kvs) ∧ kvs.map (·.1) = ks ∧ Reps K (Sf G env σ) H (kvs.map (·.2)) ds := by
  obtain ⟨a, h1, h0, h2⟩ := k.own i _ hi
  cases h2 with
  | dit e k1 k2 r => subst k2; exact ⟨a, _, h1, e, k1, r⟩
def ownT (i : Nat) (env : Sl) : Res (List (List Key) × List D) := match env[i]? with
  | some (.own (.dit ks ds)) => .ok (ks, ds)
  | _ => .stuck
theorem Uq {i : Nat} {env : Sl} {p : List (List Key) × List D} (h : ownT i env = .ok p) : env[i]? = some (.own (.dit p.1 p.2)) := by
  unfold ownT at h
  split at h
  · cases h; assumption
  · cases h
section
variable {X : Cx} {K : PySem.W.Frag} {l1 l2 : Lv} {e1 e2 : Expr} {fk fv : Sl → Res D} {pos cpos apos p : Pos} {x : Str}
def cDT : Sl → Res D := fun _ => .ok (.dit [] [])
theorem Zz : DE X .t (.Dict [] [] pos) cDT := by
 with_unfolding_all exact (PE.imp Uk fun σ H Q ⟨G, H0, env, d, k, ef, q⟩ => by
  cases ef
  exact fun p hp => q _ _ (Same.upd hp) (.dit jA (k.new p hp) rfl rfl .nil) (j4 (Same.refl H) hp))
def Zw (i : Nat) (fk fv : Sl → Res D) : Sl → Res Out := fun env => ownT i env >>= fun q => fv env >>= fun d => fk env >>= fun kd => match keyT kd with
  | some k => must (q.1.length < sizeLine) (.ok (.nx (env.set i (.own (.dit (J4 q.1 k) (J5 q.1 q.2 k d))))))
  | none => .stuck
theorem Xt (i : Nat) (hu : X.A.units + 1 < cLine) (hk : DE X l1 e1 fk) (hv : DE X .s e2 fv) (hN : X.N[i]? = some x := by rfl) (hvs : Vis X.env.scope x := by first | exact Or.inl rfl | exact Or.inr (Or.inl rfl) | exact Or.inr (Or.inr rfl))
    (hd : (x == ("__debug__" : Str)) = false := by decide) (hcd : (x == ("__classdict__" : Str)) = false := by decide)
    (hs : swapsWith e2 (some (.Subscript (.Name x p) e1 apos)) pos.line X.env = pure false := by rfl) :
    DS X (.Assign [.Subscript (.Name x p) e1 apos] e2 pos) (Zw i fk fv) := by
 with_unfolding_all exact (
  PS.imp (Ka hu (wf (i := i) hN hvs hd hcd) hk hv hs) fun E σ H ⟨G, H0, env, o, k, ef, q⟩ => by
    obtain ⟨ks, c1, ef⟩ := jc ef
    obtain ⟨d, c2, ef⟩ := jc ef
    obtain ⟨kd, c3, c4⟩ := jc ef
    have hi := Uq c1
    obtain ⟨a, kvs, ha, hx, hkk, rs⟩ := v3 k hi
    cases hkey : keyT kd with
    | none => rw [hkey] at c4; cases c4
    | some kk =>
      rw [hkey] at c4
      obtain ⟨hz, c5⟩ := jB c4
      cases c5
      refine ⟨G, H0, env, d, k, c2, fun v H1 s1 r1 _ => ⟨.ref a, ha, G, H0, env, kd, k.grow s1, c3, fun y H2 s2 r2 _ => ?_⟩⟩
      have hx2 := s2 _ _ (s1 _ _ hx)
      obtain ⟨b, rfl, hb⟩ := Ql (r2.weak (A' := Any) Lv.weak_b) hkey
      have hl : kvs.length < sizeLine := by rw [← hkk, List.length_map] at hz; exact hz
      refine ⟨a, _, rfl, DPut.t hx2 hb hl, ?_⟩
      obtain ⟨p1, p2⟩ := WL kk ((rs.grow s1).grow s2) (r1.grow s2)
      rw [hkk] at p1 p2
      have W := ((k.grow s1).grow s2).writeG (o' := .dT (putK kvs kk v)) (d' := .dit (J4 ks.1 kk) (J5 ks.1 ks.2 kk d)) hi ha hx2 trivial fun A' H' st e w => .dit e p1 rfl (p2.stay st w)
      exact q σ _ W.1 ((W.2.grow s2).grow s1))
def hdD (a : Hd) : D := .tup [.str a.1, .int a.2]
def jak (hs : List Hd) : Bool := hs.all fun a => decide (a.1.length ≤ sizeLine)
theorem K5 {A : Addr → Prop} {H : Hp} : ∀ {vs : List V} {hs : List Hd}, F2 (HdV H) vs hs → (∀ a ∈ hs, a.1.length ≤ sizeLine) → Reps K A H vs (hs.map hdD)
  | _, _, .nil, _ => .nil
  | _, _, .cons ⟨b, e, hb⟩ t, h => by
    subst e
    exact .cons (.tup hb (.cons (.str _ (h _ (by simp))) (.cons (.int _) .nil))) (K5 t fun a ha => h a (by simp [ha]))
end
end M
namespace M
open PySem PySem.Spec L2
open PyProof.Rows hiding St
def hdK (a : Hd) : List Key := [.inr a.1, .inl a.2]
section
variable {X : Cx} {K : PySem.W.Frag}
theorem JJ {H : Hp} : ∀ {kvs : List (List Key × V)} {xs : List (List Key × Addr × Value)} {hs : List Hd}, KT H kvs xs → kvs.map (·.1) = hs.map hdK → F2 (HdV H) (xs.map fun q => V.ref q.2.1) hs
  | _, _, hs, .nil, e => by
    cases hs with
    | nil => exact .nil
    | cons a r => cases e
  | _, _, hs, .cons h t, e => by
    cases hs with
    | nil => cases e
    | cons a r =>
      simp only [List.map_cons, List.cons.injEq] at e
      refine .cons ⟨_, rfl, ?_⟩ (JJ t e.2)
      rw [h.2.1, e.1]; rfl
theorem QT : ∀ (l : List Addr), Vals (l.map V.ref) (l.map Value.ref)
  | [] => .nil
  | a :: l => .cons rfl (QT l)
theorem ZE (hc : X.calm = true) : CallR X (.builtin "sorted") (fun xs H Q => ∃ a kvs hs, xs = [.ref a] ∧ H a = some (.dT kvs) ∧ kvs.map (·.1) = hs.map hdK ∧ hs.Nodup ∧ hs.length < 64 ∧ ∀ l us, H l = none → F2 (HdV H) us (x4 hs) → Q (.ref l) (upd H l (.lst us))) := by
  intro pins s σ H xs us Q I r h
  obtain ⟨a, kvs, hs, rfl, ha, hk, nd, h64, q⟩ := h
  obtain ⟨u, rfl, rx⟩ := yq r
  cases rx
  obtain ⟨hz, lo, ys, hp, o, es, ep, ho, hx, hd, he, _⟩ := (show ObjOk X.prog X.w H s.heap a (.dT kvs) from I.hok a _ ha)
  have hF := JJ hp hk
  have hV : Vals (ys.map fun q => V.ref q.2.1) (ys.map fun q => Value.ref q.2.1) := by
    have := QT (ys.map fun q => q.2.1)
    simpa [List.map_map, Function.comp_def] using this
  obtain ⟨hA, hR⟩ := jba I hV hF
  have hlen : ys.length = hs.length := by simpa using hF.length
  have hD : DAt s.heap a (ys.map fun q => Value.ref q.2.1) ep := ⟨o, es, ho, hx, hd, by rw [he, List.map_map]; rfl⟩
  refine Calls.call_function_entry kind_sorted plain_sorted entry_sorted (args_sorted1 _) ?_
  unfold Builtin.«sorted»
  refine wpAny_bind (m := checkCount "sorted" 1 1 _) (wpAny_pure (wpAny_bind (PySem.W.kdu_collect (A := X.A.in1) (uT lo) (show X.A.in1.handled = none from I.ok.hd hc) hD (by rw [List.length_map, sizeLine_eq]; omega) fun h' tk acc hkp hacc => ?_)))
  have hacc2 : acc.toList = ys.map fun q => Value.ref q.2.1 := by
    apply List.ext_getElem?
    intro i
    have hl : acc.toList.length = (ys.map fun q => Value.ref q.2.1).length := by rw [Array.length_toList]; exact hacc.1
    by_cases hi : i < acc.toList.length
    · rw [List.getElem?_eq_getElem hi]
      exact (hacc.2 i _ (by rw [← Array.getElem?_toList]; exact List.getElem?_eq_getElem hi)).symm
    · rw [List.getElem?_eq_none (by omega), List.getElem?_eq_none (by omega)]
  rw [hacc2]
  refine ZV (t := { s with heap := h', toks := tk }) (hA.keep fun b o e _ => hkp b o e) nd (by rw [List.length_map]; omega) fun us h2 c hRR k e => ?_
  obtain ⟨zs, v1, v2⟩ := vy (hRR _ hR)
  have I1 : Inv X pins σ H { s with heap := h', toks := tk } := I.kept hkp
  have hl2 : zs.length ≤ sizeLine := by
    have a1 := v2.length
    have a2 := (wa hs).length_eq
    rw [sizeLine_eq]; omega
  exact ⟨.ref _, _, I1.laid (t' := tk) k (Nat.le_refl _) (show ObjOk X.prog X.w _ h2 _ (.lst zs) from ⟨hl2, us, c, v1, e⟩), rfl, q _ zs (I1.hok.fresh (Nat.le_refl _)) v2⟩
def uz : List Key → Option Hd
  | [.inr z, .inl k] => some (z, k)
  | _ => none
def xM : List (List Key) → Option (List Hd)
  | [] => some []
  | d :: r => match uz d, xM r with
    | some a, some as => some (a :: as)
    | _, _ => none
theorem Zs : ∀ {ks : List (List Key)} {hs : List Hd}, xM ks = some hs → ks = hs.map hdK
  | [], hs, h => by cases h; rfl
  | d :: r, hs, h => by
    unfold xM at h
    cases e1 : uz d with
    | none => rw [e1] at h; cases h
    | some a =>
      cases e2 : xM r with
      | none => rw [e1, e2] at h; cases h
      | some as =>
        rw [e1, e2] at h
        cases h
        rw [Zs e2]
        unfold uz at e1
        split at e1
        · cases e1; rfl
        · cases e1
def yJ : List D → Res D
  | [.dit ks _] => match xM ks with
    | some hs => must (hs.Nodup ∧ hs.length < 64 ∧ jak hs = true) (.ok (.lst ((x4 hs).map hdD)))
    | none => .stuck
  | _ => .stuck
theorem Yu : QG K (fun xs H Q => ∃ a kvs hs, xs = [.ref a] ∧ H a = some (.dT kvs) ∧ kvs.map (·.1) = hs.map hdK ∧ hs.Nodup ∧ hs.length < 64 ∧ ∀ l us, H l = none → F2 (HdV H) us (x4 hs) → Q (.ref l) (upd H l (.lst us))) yJ := by
  intro A xs H ds d Q r e q
  unfold yJ at e
  split at e
  · rename_i ks vs
    cases eh : xM ks with
    | none => rw [eh] at e; cases e
    | some hs =>
      rw [eh] at e
      obtain ⟨⟨nd, h64, hsh⟩, e2⟩ := jB e
      cases e2
      obtain ⟨v, rfl, r1⟩ := r.one
      obtain ⟨p, kvs, rfl, hp, _, hkk, _⟩ := r1.ditE
      refine ⟨p, kvs, hs, rfl, hp, by rw [hkk]; exact Zs eh, nd, h64, fun l us hl hu => q _ _ (Same.upd hl) (.lst jA (.inl hl) ?_) (j4 (Same.refl H) hl)⟩
      have hs2 : ∀ a ∈ x4 hs, a.1.length ≤ sizeLine := fun a ha => by
        have := List.all_eq_true.mp hsh a ((wa hs).mem_iff.mp ha)
        simpa using this
      exact ((K5 (K := K) (A := fun _ => False) hu hs2).grow (Same.upd (o := .lst us) hl)).weak fun c z => z.elim
  · cases e
end
end M
namespace M
open PySem PySem.Spec L2
open PyProof.Rows hiding St
section
variable {prog : Program} {w : World} {A : Around} {E : Value → Shared → Prop} {s : Shared}
theorem WE : ∀ {is : List Int} {us : List Value}, Vals (is.map V.int) us → us.length = is.length ∧ ∀ i v, us[i]? = some v → ∃ t, v = Value.int (is.getD i 0) t
  | [], _, .nil => ⟨rfl, fun i v h => by cases h⟩
  | i :: is, _, .cons h t => by
    obtain ⟨a, b⟩ := WE t
    refine ⟨by simp [a], fun j v hv => ?_⟩
    cases j with
    | zero =>
      simp at hv; subst hv
      obtain ⟨t, e⟩ := h
      exact ⟨t, by rw [e]; rfl⟩
    | succ j => simp at hv; simpa using b j v hv
end
end M
namespace M
open PySem PySem.Spec L2
open PyProof.Rows hiding St
def y9 : List D → Option (List Int)
  | [] => some []
  | .int b :: r => (y9 r).map (b :: ·)
  | _ => none
theorem yc : ∀ {ds : List D} {bs : List Int}, y9 ds = some bs → ds = bs.map D.int
  | [], bs, h => by cases h; rfl
  | d :: r, bs, h => by
    cases d with
    | int b =>
      simp only [y9, Option.map_eq_some_iff] at h
      obtain ⟨bs', h1, rfl⟩ := h
      rw [yc h1]; rfl
    | _ => cases h
theorem KU (bs : List Int) : y9 (bs.map D.int) = some bs := by
  induction bs with
  | nil => rfl
  | cons b r ih => simp [y9, ih]
section
variable {X : Cx} {K : PySem.W.Frag} {l l' l2 : Lv}
theorem yL {A : Addr → Prop} {H : Hp} : ∀ {bs : List Int} {xs : List V}, Reps K A H xs (bs.map D.int) → xs = bs.map V.int
  | [], _, .nil => rfl
  | b :: bs, _, .cons h t => by rw [h.intE, yL t]; rfl
variable {x : Str} {p pos kpos : Pos} {e e2 : Expr} {fa f2 : Sl → Res D}
end
end M
namespace M
open PySem PySem.Spec L2
open PyProof.Rows hiding St
theorem ZJ : bootBuiltins "sorted" = some (.builtin "sorted") := by decide +kernel
section
variable {X : Cx} {id : String} {r : List V → Hp → VK → Prop} {g : List D → Res D} {x : Str} {p pos : Pos} {e : Expr} {es : List Expr} {fa : Sl → Res (List D)}
theorem wH (hc : CallR X (.builtin id) r) (hr : QG X.K r g) (hg : Gl X x) (hm : X.mg x = none) (hv : bootBuiltins x = some (.builtin id))
    (ha : DA X .s (e :: es) fa) (hn : x ≠ "__name__" := by decide) (hdb : (x == ("__debug__" : Str)) = false := by decide)
    (he : starEach (e :: es) X.env = (false, eval e X.env) :: starEach es X.env := by exact jx rfl) (hpl : (backTo pos (starEach es X.env)).any (·.1) = false := by exact jR rfl) : DE X .t (.Call (.Name x p) (e :: es) [] pos) (app fa g) := by
 with_unfolding_all exact (
  PE.imp (yw hc hg hm hv ha hn hdb he hpl) fun _ _ _ h => jah hr h)
variable {ex : Expr} {t : Sl → Res Bool}
end
end M
namespace M
open PySem PySem.Spec L2
mutual
def bks : D → List Int
  | .int i => [i]
  | .tup (_ :: ts) => bkss ts
  | _ => []
def bkss : List D → List Int
  | [] => []
  | d :: r => bks d ++ bkss r
end
mutual
def bare : D → D
  | .tup (x :: ts) => .tup (x :: jbu ts)
  | _ => .int 0
def jbu : List D → List D
  | [] => []
  | d :: r => bare d :: jbu r
end
theorem ZL : ∀ ts, bkss ts = ts.flatMap bks
  | [] => rfl
  | d :: r => by simp [bkss, ZL r]
theorem ui {ts : List D} {k : Nat} (h : ∀ t ∈ ts, num t ≤ k) : nums ts ≤ ts.length * k := by
  induction ts with
  | nil => simp [nums]
  | cons d r ih =>
    have h1 := h d (by simp)
    have h2 := ih fun t ht => h t (by simp [ht])
    simp only [nums, List.length_cons, Nat.succ_mul]; omega
theorem Jf : ∀ {ts : List D}, (∀ t ∈ ts, D.eqb t = true) → D.eqbs ts = true
  | [], _ => rfl
  | x :: r, h => by simp only [D.eqbs, Bool.and_eq_true]; exact ⟨h x (by simp), Jf fun d hd => h d (by simp [hd])⟩
theorem Jj {k : Nat} : ∀ {ts : List D}, (∀ t ∈ ts, D.dep t ≤ k) → D.deps ts ≤ k
  | [], _ => by simp [D.deps]
  | x :: r, h => by
    simp only [D.deps]
    have := h x (by simp)
    have := Jj (ts := r) fun d hd => h d (by simp [hd])
    omega
def ins (l : List Int) (x : Int) : List Int := if x ∈ l then l else l ++ [x]
def met (l xs : List Int) : List Int := xs.foldl ins l
theorem W4 (l : List Int) (x : Int) (xs : List Int) : met l (x :: xs) = met (ins l x) xs := rfl
theorem ur {l : List Int} {x y : Int} : y ∈ ins l x ↔ y ∈ l ∨ y = x := by
  unfold ins
  split
  · rename_i h
    exact ⟨.inl, fun z => z.elim id fun e => by rw [e]; exact h⟩
  · simp
theorem Wl : ∀ {xs l : List Int} {y : Int}, y ∈ met l xs ↔ y ∈ l ∨ y ∈ xs
  | [], l, y => by simp [met]
  | x :: xs, l, y => by
    rw [W4, Wl, ur]
    simp only [List.mem_cons, or_assoc]
def dvs (n : Nat) : List Int → List D
  | [] => []
  | _ :: r => .int n :: dvs (n + 1) r
def kys (l : List Int) : List Key := l.map Sum.inl
theorem UQ (l : List Int) (x : Int) : hasK (kys l) (.inl x) = decide (x ∈ l) := by
  induction l with
  | nil => rfl
  | cons a l ih =>
    unfold hasK kys at ih ⊢
    rw [List.map_cons, List.any_cons, ih]
    by_cases h : a = x
    · subst h; simp
    · have : x ≠ a := fun e => h e.symm
      simp [h, this]
theorem um (l : List Int) : (kys l).length = l.length := by simp [kys]
end M
namespace M
open PySem PySem.Spec L2
mutual
def tk (ns : List Str) : D → Bool
  | .int _ => true
  | .tup (.str z :: ts) => decide (z ∈ ns) && (decide (ts.length ≤ 9) && tks ns ts)
  | _ => false
def tks (ns : List Str) : List D → Bool
  | [] => true
  | d :: r => tk ns d && tks ns r
end
section
variable {ns : List Str}
mutual
theorem wS {P : D → Prop} (h1 : ∀ i, P (.int i)) (h2 : ∀ z ts, z ∈ ns → ts.length ≤ 9 → (∀ t ∈ ts, tk ns t = true ∧ P t) → P (.tup (.str z :: ts))) : ∀ t, tk ns t = true → P t
  | .int i, _ => h1 i
  | .tup (x :: ts), h => by
    cases x with
    | str z =>
      simp only [tk, Bool.and_eq_true, decide_eq_true_eq] at h
      exact h2 z ts h.1 h.2.1 (YS h1 h2 ts h.2.2)
    | _ => simp [tk] at h
  | .tup [], h => by simp [tk] at h
  | .non, h => by simp [tk] at h
  | .bl _, h => by simp [tk] at h
  | .str _, h => by simp [tk] at h
  | .lst _, h => by simp [tk] at h
  | .scr _, h => by simp [tk] at h
  | .dic _ _, h => by simp [tk] at h
  | .dit _ _, h => by simp [tk] at h
  | .exn _, h => by simp [tk] at h
  | .fdc _ _, h => by simp [tk] at h
  | .hdc _ _, h => by simp [tk] at h
  | .obj _ _ _, h => by simp [tk] at h
theorem YS {P : D → Prop} (h1 : ∀ i, P (.int i)) (h2 : ∀ z ts, z ∈ ns → ts.length ≤ 9 → (∀ t ∈ ts, tk ns t = true ∧ P t) → P (.tup (.str z :: ts))) : ∀ ts, tks ns ts = true → ∀ t ∈ ts, tk ns t = true ∧ P t
  | [], _, t, ht => by cases ht
  | d :: r, h, t, ht => by
    simp only [tks, Bool.and_eq_true] at h
    have a := wS h1 h2 d h.1
    have b := YS h1 h2 r h.2
    rcases List.mem_cons.mp ht with e | e
    · rw [e]; exact ⟨h.1, a⟩
    · exact b t e
end
theorem kP : ∀ {ts : List D}, (∀ t ∈ ts, tk ns t = true) → tks ns ts = true
  | [], _ => rfl
  | x :: r, h => by simp only [tks, Bool.and_eq_true]; exact ⟨h x (by simp), kP fun d hd => h d (by simp [hd])⟩
theorem YR : ∀ {ts : List D} {t : D}, tks ns ts = true → t ∈ ts → tk ns t = true
  | x :: r, t, h, ht => by
    simp only [tks, Bool.and_eq_true] at h
    rcases List.mem_cons.mp ht with rfl | ht
    · exact h.1
    · exact YR h.2 ht
theorem VU {z : Str} {ts : List D} (hz : z ∈ ns) (h : ts.length ≤ 9) (ht : ∀ t ∈ ts, tk ns t = true) : tk ns (.tup (.str z :: ts)) = true := by
  simp only [tk, Bool.and_eq_true, decide_eq_true_eq]; exact ⟨hz, h, kP ht⟩
theorem qm {t : D} (h : tk ns t = true) : (∃ i, t = .int i) ∨ ∃ z ts, t = .tup (.str z :: ts) ∧ z ∈ ns ∧ ts.length ≤ 9 ∧ ∀ u ∈ ts, tk ns u = true := by
  cases t with
  | int i => exact .inl ⟨i, rfl⟩
  | tup ds =>
    cases ds with
    | nil => simp [tk] at h
    | cons x ts =>
      cases x with
      | str z =>
        simp only [tk, Bool.and_eq_true, decide_eq_true_eq] at h
        exact .inr ⟨z, ts, rfl, h.1, h.2.1, fun u hu => YR h.2.2 hu⟩
      | _ => simp [tk] at h
  | _ => simp [tk] at h
theorem Jd : ∀ t, tk ns t = true → fine t = true := wS (fun i => rfl) fun z ts _ hl h => by
  simp only [fine, q8, Bool.and_eq_true, decide_eq_true_eq, List.length_cons, true_and]
  exact ⟨by omega, yB fun t ht => (h t ht).2⟩
theorem WP : ∀ t, tk ns t = true → ∀ p ∈ pts t, tk ns p = true := wS (fun i => by simp [pts, tk]) fun z ts hz hl h => by
  simp only [pts]
  intro p hp
  rcases List.mem_cons.mp hp with e | e
  · rw [e]; exact VU hz hl fun t ht => (h t ht).1
  · have flat : ∀ us : List D, ptss us = us.flatMap pts := fun us => by
      induction us with
      | nil => rfl
      | cons d r ih => simp [ptss, ih]
    rw [flat] at e
    obtain ⟨t, ht, hpt⟩ := List.mem_flatMap.mp e
    exact (h t ht).2 p hpt
def intL : List D → List Int
  | [] => []
  | .int i :: r => i :: intL r
  | _ :: r => intL r
theorem Qp : ∀ a b, intL (a ++ b) = intL a ++ intL b
  | [], b => rfl
  | d :: r, b => by
    have ih := Qp r b
    cases d <;> simp [intL, ih]
def hdL : List D → List Hd
  | [] => []
  | .tup (.str z :: ts) :: r => (z, (ts.length : Int)) :: hdL r
  | _ :: r => hdL r
theorem uA (z : Str) (ts r : List D) : hdL (.tup (.str z :: ts) :: r) = (z, (ts.length : Int)) :: hdL r := rfl
theorem K6 : ∀ {a : List D}, (∀ t ∈ a, tk ns t = true) → ∀ x ∈ hdL a, x.1 ∈ ns ∧ 0 ≤ x.2 ∧ x.2 ≤ 9
  | [], _, x, hx => by cases hx
  | d :: r, h, x, hx => by
    have ih := K6 (a := r) fun t ht => h t (by simp [ht])
    rcases qm (h d (by simp)) with ⟨i, rfl⟩ | ⟨z, ts, rfl, hz, hl, _⟩
    · exact ih x hx
    · rw [uA] at hx
      rcases List.mem_cons.mp hx with e | e
      · rw [e]; exact ⟨hz, by simp, by simp; omega⟩
      · exact ih x e
def hins (l : List Hd) (a : Hd) : List Hd := if a ∈ l then l else l ++ [a]
def hmet (l xs : List Hd) : List Hd := xs.foldl hins l
theorem ux {l : List Hd} {a : Hd} (h : l.Nodup) : (hins l a).Nodup := by
  unfold hins
  split
  · exact h
  · rename_i hn
    refine List.nodup_append.mpr ⟨h, by simp, fun x hx y hy => ?_⟩
    simp only [List.mem_cons, List.not_mem_nil, or_false] at hy
    rw [hy]; intro e; rw [e] at hx; exact hn hx
theorem K3 : ∀ {xs l : List Hd}, l.Nodup → (hmet l xs).Nodup
  | [], l, h => h
  | x :: xs, l, h => K3 (xs := xs) (ux h)
theorem UL {l : List Hd} {a x : Hd} (h : x ∈ hins l a) : x ∈ l ∨ x = a := by
  unfold hins at h
  split at h
  · exact .inl h
  · simpa using h
theorem Xd : ∀ {xs l : List Hd} {x : Hd}, x ∈ hmet l xs → x ∈ l ∨ x ∈ xs
  | [], l, x, h => .inl h
  | y :: xs, l, x, h => by
    rcases Xd (xs := xs) (l := hins l y) h with z | z
    · rcases UL z with z | z
      · exact .inl z
      · exact .inr (by simp [z])
    · exact .inr (by simp [z])
theorem Zd : ∀ {l m : List Hd}, l.Nodup → (∀ x ∈ l, x ∈ m) → l.length ≤ m.length
  | [], m, _, _ => by simp
  | a :: l, m, h, hs => by
    have h' := List.nodup_cons.mp h
    have ha := hs a (by simp)
    have := Zd (l := l) (m := m.erase a) h'.2 fun x hx => by
      refine (List.mem_erase_of_ne fun e => ?_).mpr (hs x (by simp [hx]))
      rw [e] at hx; exact h'.1 hx
    rw [List.length_erase_of_mem ha] at this
    have hpos : 0 < m.length := List.length_pos_of_mem ha
    simp only [List.length_cons]; omega
theorem Zq {l : List Hd} (h : l.Nodup) (hm : ∀ x ∈ l, x.1 ∈ ns ∧ 0 ≤ x.2 ∧ x.2 ≤ 9) : l.length ≤ ns.length * 10 := by
  have := Zd (l := l) (m := ns.flatMap fun z => (List.range 10).map fun k => (z, ((k : Nat) : Int))) h fun x hx => by
    obtain ⟨h1, h2, h3⟩ := hm x hx
    refine List.mem_flatMap.mpr ⟨x.1, h1, List.mem_map.mpr ⟨x.2.toNat, List.mem_range.mpr (by omega), ?_⟩⟩
    rw [Int.toNat_of_nonneg h2]
  have e : (ns.flatMap fun z => (List.range 10).map fun k => (z, ((k : Nat) : Int))).length = ns.length * 10 := by
    clear this hm h
    induction ns with
    | nil => rfl
    | cons z r ih => rw [List.flatMap_cons, List.length_append, ih]; simp; omega
  omega
theorem uB {a b : Hd} : hdK a = hdK b ↔ a = b := by
  constructor
  · intro h
    cases a; cases b
    simp [hdK] at h
    simp [h]
  · intro h; rw [h]
theorem K8 (l : List Hd) (a : Hd) : hasT (l.map hdK) (hdK a) = decide (a ∈ l) := by
  unfold hasT
  rw [List.any_map]
  induction l with
  | nil => rfl
  | cons b l ih =>
    rw [List.any_cons, ih]
    simp only [Function.comp_apply, uB]
    by_cases h : b = a
    · subst h; simp
    · have : a ≠ b := fun e => h e.symm
      simp [h, this]
def htrs (l : List Hd) : List D := l.map fun _ => .bl true
theorem Y6 (l : List Hd) (a : Hd) : J4 (l.map hdK) (hdK a) = (hins l a).map hdK ∧ J5 (l.map hdK) (htrs l) (hdK a) (.bl true) = htrs (hins l a) := by
  unfold J4 J5 hins
  rw [K8]
  by_cases h : a ∈ l
  · simp only [h, decide_true, if_true, true_and]
    clear h
    induction l with
    | nil => rfl
    | cons b l ih =>
      simp only [htrs, List.map_cons, List.zip_cons_cons] at ih ⊢
      rw [ih]
      simp
  · simp [h, htrs]
theorem JO : ∀ l : List Hd, xM (l.map hdK) = some l
  | [] => rfl
  | a :: l => by
    simp only [List.map_cons, xM, JO l]
    rfl
theorem XW {l : List Hd} {vs : List D} (h1 : l.Nodup) (h2 : l.length < 64) (h3 : ∀ a ∈ l, a.1.length ≤ sizeLine) : yJ [.dit (l.map hdK) vs] = .ok (.lst ((x4 l).map hdD)) := by
  show (match xM (l.map hdK) with | some hs => _ | none => _) = _
  rw [JO]
  exact jt ⟨h1, h2, List.all_eq_true.mpr fun a ha => by simpa using h3 a ha⟩
theorem Xy {ds : List D} (h1 : D.eqbs ds = true) (h2 : D.deps ds ≤ 100) : eqR (.lst ds) (.lst ds) = .ok (.bl true) ∧ neR (.lst ds) (.lst ds) = .ok (.bl false) := by
  have h3 : eqD (.lst ds) (.lst ds) = true := Qy _ (by simp only [D.eqb]; exact h1)
  have hc : EqC (.lst ds) (.lst ds) := .inl ⟨by simp only [D.eqb]; exact h1, by simp only [D.eqb]; exact h1, by simp only [D.dep]; omega⟩
  unfold eqR neR
  rw [jt hc, jt hc, h3]; exact ⟨rfl, rfl⟩
theorem XJ : ∀ {α : Type} (l : List α), allD [.lst (l.map fun _ => .bl true)] = .ok (.bl true) := fun l => by
  have e : Jx (l.map fun _ => D.bl true) = some (l.map fun _ => true) := by
    induction l with
    | nil => rfl
    | cons a l ih => simp [Jx, ih]
  show (match Jx (l.map fun _ => D.bl true) with | some bs => _ | none => _) = _
  rw [e]
  simp
end
end M
namespace M
open PySem PySem.Spec L2
open PyProof.Rows hiding St
theorem qK : bootBuiltins "divmod" = some (.builtin "divmod") := by decide +kernel
def zI : List D → Res D
  | [.int i, .int j] => must (0 < j ∧ j < 1073741824) (.ok (.tup [.int (i / j), .int (i % j)]))
  | _ => .stuck
theorem wp {K : PySem.W.Frag} : QG K (fun xs H Q => ∃ i j, xs = [.int i, .int j] ∧ CDiv i j ∧ ∀ p, H p = none → Q (.ref p) (upd H p (.tup [.int (i / j), .int (i % j)]))) zI := by
  intro A xs H ds d Q r e q
  unfold zI at e
  split at e
  · obtain ⟨hc, e2⟩ := jB e
    cases e2
    obtain ⟨v, v', rfl, r1, r2⟩ := r.two
    cases r1.intE
    cases r2.intE
    exact ⟨_, _, rfl, hc, fun p hp => q _ _ (Same.upd hp) (.tup jA (.cons (.int _) (.cons (.int _) .nil))) (j4 (Same.refl H) hp)⟩
  · cases e
section
variable {X : Cx} {pins : List (Addr × Obj)} {σ : L2.St} {H : Hp} {s : Shared}
theorem wz {t' : Nat} {h' : Heap} {i1 i2 : Addr} (I : Inv X pins σ H s) (k : ∀ b o, b ≠ i1 → b ≠ i2 → s.heap.get? b = some o → h'.get? b = some o) (f1 : FpOk X pins H i1) (f2 : FpOk X pins H i2) : Inv X pins σ H { s with heap := h', toks := t' } := by
  obtain ⟨a0, a1, _, a3, a4, a5⟩ := f1
  obtain ⟨b0, b1, _, b3, b4, b5⟩ := f2
  have n1 : ∀ b u, H b = some u → b ≠ i1 := fun b u e z => by rw [z, a0] at e; cases e
  have n2 : ∀ b u, H b = some u → b ≠ i2 := fun b u e z => by rw [z, b0] at e; cases e
  have kk : ∀ b o, b ∉ [i1, i2] → s.heap.get? b = some o → h'.get? b = some o := fun b o hc e => k b o (fun z => hc (by simp [z])) (fun z => hc (by simp [z])) e
  refine I.step (g' := s.gens) (d' := s.drawn) (ch := [i1, i2]) (fun b hb => ?_) (fun b o _ _ hc e _ => kk b o hc e) (fun b o _ _ hc e _ => ⟨o.slots, kk b o hc e⟩) (fun _ _ _ _ n => n)
    (fun b o hc e => ⟨o, kk b o hc e⟩) (fun _ _ e => e) (fun _ _ _ e => e) (fun b ps e => ⟨#[], by rw [e]; simp⟩) (fun m hm => ?_) (fun b u e => ?_) I.bare
  · simp only [List.mem_cons, List.not_mem_nil, or_false] at hb
    rcases hb with rfl | rfl
    · exact ⟨a3, a1, a4, a5⟩
    · exact ⟨b3, b1, b4, b5⟩
  · obtain ⟨o, es, ep, ho, r⟩ := hm
    exact ⟨o, es, ep, k _ o (Ne.symm a1) (Ne.symm b1) ho, r⟩
  · refine (I.hok b u e).stay (fun c v hc q => k c v ?_ ?_ q) (fun _ q => q) fun _ _ q => q
    · rcases hc with z | z
      · rw [z]; exact n1 b u e
      · exact n1 c _ z
    · rcases hc with z | z
      · rw [z]; exact n2 b u e
      · exact n2 c _ z
end
def ItE (K : PySem.W.Frag) (a : Addr) (xs : List V) : It := ⟨fun i H => SqL K H a xs ∧ i < xs.length, fun i H v H' => ∃ p x, H p = none ∧ xs[i]? = some x ∧ v = .ref p ∧ H' = upd H p (.tup [.int (i : Int), x]), fun i H => SqL K H a xs ∧ xs.length ≤ i⟩
theorem YN {P : Program} {w : World} {K : PySem.W.Frag} {elts : List Expr} {n : Nat} {pos : Pos} (a it e : Addr) (xs : List V) (hei : e ≠ it) : Turn P w K (.Tuple elts n pos) (ItE K a xs) [e, it] e (fun i h => (∃ old, IsEnum h e it (i : Int) old) ∧ h.IsListIter it a i) where
  mem := by simp
  obj := fun i h st b hb => by
    obtain ⟨⟨old, he⟩, o, ho, hc, hd⟩ := st
    simp only [List.mem_cons, List.not_mem_nil, or_false] at hb
    rcases hb with rfl | rfl
    · exact ⟨_, he, fun v z => by cases z⟩
    · exact ⟨o, ho, fun v z => by rw [hd] at z; cases z⟩
  keep := fun i h h' st k => by
    obtain ⟨⟨old, he⟩, hit⟩ := st
    exact ⟨⟨old, k e (by simp) _ he⟩, hit.at fun o x => k it (by simp) o x⟩
  item := by
    intro X hP hw hK hc i pins s σ H E I hf st hg
    subst hP hw hK
    obtain ⟨hq, hi⟩ := hg
    obtain ⟨its, rv, p, hz⟩ := I.list hq
    have hx : xs[i]? = some xs[i] := List.getElem?_eq_getElem hi
    obtain ⟨u, hu, ru⟩ := rv.get hx
    obtain ⟨⟨old, he⟩, hit⟩ := st
    have fe := hf e (by simp)
    have fi := hf it (by simp)
    refine wpAny_pyNext_enum_item he hit p.isList (x := u) (by simpa using hu) hei fun h' ho hit' hT hsz hk => ?_
    refine ⟨_, rfl, wpAny_letOwnedTupleGo_enum ho fun h'' he' hs' => ?_⟩
    have helt : e < s.heap.objs.size := Heap.lt_size he
    have hilt : it < s.heap.objs.size := by obtain ⟨_, x, _⟩ := hit; exact Heap.lt_size x
    have hfr : H s.heap.objs.size = none := I.hok.fresh (Nat.le_refl _)
    have I1 : Inv X pins σ (upd H s.heap.objs.size (.tup [.int (i : Int), xs[i]])) { s with heap := s.heap.push { cls := .type "tuple", data := .seq #[.int i s.toks, u] } } :=
      I.laid (t' := s.toks) (fun b o e => Heap.get?_push_of_some _ e) (Nat.le_refl _) ⟨Nat.le_trans (show 2 ≤ 20 by decide) (by decide), [.int i s.toks, u], .cons ⟨_, rfl⟩ (.cons ru .nil), ⟨_, Heap.get?_push_size _ rfl, rfl, _, rfl⟩⟩
    have fe1 : FpOk X pins (upd H s.heap.objs.size (.tup [.int (i : Int), xs[i]])) e := ⟨by rw [jJ (Nat.ne_of_lt helt)]; exact fe.1, fe.2⟩
    have fi1 : FpOk X pins (upd H s.heap.objs.size (.tup [.int (i : Int), xs[i]])) it := ⟨by rw [jJ (Nat.ne_of_lt hilt)]; exact fi.1, fi.2⟩
    have I2 := wz (t' := s.toks + 1) (h' := h'') I1 (fun b o hbe hbi eo => by
      refine (hs'.2 b hbe).trans ?_
      by_cases hb : b = s.heap.objs.size
      · subst hb
        rw [Heap.get?_push_size _ rfl] at eo
        rw [← eo]; exact hT
      · have eo' : s.heap.get? b = some o := by
          rcases Heap.get?_push_cases eo with ⟨z, _⟩ | z
          · exact absurd z hb
          · exact z
        exact hk b o hbe hbi eo') fe1 fi1
    refine ⟨.ref s.heap.objs.size, _, I2, rfl, ⟨_, _, hfr, hx, rfl, rfl⟩, ⟨⟨_, by simpa using he'⟩, hit'.at fun o y => (hs'.2 it hei.symm).trans y⟩, fun b hb => ?_⟩
    simp only [List.mem_cons, List.not_mem_nil, or_false] at hb
    rcases hb with rfl | rfl
    · exact fe1.1
    · exact fi1.1
  done := by
    intro X hP hw hK hc i pins s σ H E I hf st hg
    subst hP hw hK
    obtain ⟨hq, hi⟩ := hg
    obtain ⟨its, rv, p, hz⟩ := I.list hq
    obtain ⟨⟨old, he⟩, hit⟩ := st
    have hl := rv.length
    refine wpAny_pyNext_enum_end (I.ok.hd hc) he hit p.isList (by simp; omega) fun h' eb => ⟨rfl, wz (t' := s.toks) I (fun b o hbe hbi eo => eb b o hbi eo) (hf e (by simp)) (hf it (by simp))⟩
  self := fun _ _ _ _ _ st h => let ⟨⟨_, he⟩, _⟩ := st; wpAny_pyIter_enum he h
section
variable {X : Cx} {elts : List Expr} {n : Nat} {tpos p pos : Pos} {e : Expr} {f : Sl → Res D}
def jz : Nat → List D → List D
  | _, [] => []
  | k, d :: r => .tup [.int (k : Int), d] :: jz (k + 1) r
theorem wg : ∀ (k : Nat) (ds : List D), (jz k ds).length = ds.length
  | _, [] => rfl
  | k, d :: r => by simp [jz, wg (k + 1) r]
theorem yQ : ∀ (k i : Nat) (ds : List D), (jz k ds)[i]? = (ds[i]?).map fun d => .tup [.int ((k + i : Nat) : Int), d]
  | k, i, [] => by simp [jz]
  | k, 0, d :: r => by simp [jz]
  | k, i + 1, d :: r => by
    simp only [jz, List.getElem?_cons_succ]
    rw [yQ (k + 1) i r]
    congr 1
    funext d
    congr 3
    omega
def Yr (f : Sl → Res D) : Sl → Res (List D) := fun env => f env >>= fun d => match d with
  | .lst ds => .ok (jz 0 ds)
  | .scr ds => .ok (jz 0 ds)
  | _ => .stuck
theorem Ws (hg : Gl X "enumerate") (hm : X.mg "enumerate" = none) (h : DE X .s e f) (hs : starEach [e] X.env = [(false, eval e X.env)] := by rfl) : DI X (.Tuple elts n tpos) (.Call (.Name "enumerate" p) [e] [] pos) (Yr f) := by
  have hE : PE X e (tE X.K .s f) := by with_unfolding_all exact h
  with_unfolding_all exact (show PI X (.Tuple elts n tpos) (.Call (.Name "enumerate" p) [e] [] pos) (tI X.K (Yr f)) from by
    intro pins s σ H R I ⟨G, H0, env, ds, k, ef, q⟩
    obtain ⟨d, e1, e2⟩ := jc ef
    have hA : PA X [e] (tA X.K .s fun env => f env >>= fun d => .ok [d]) := by
      have := qA hE wN (es := []) hs
      intro ps pins s σ H Q I ⟨G, H0, env, ds, k, ef, q⟩
      obtain ⟨d, c1, c2⟩ := jc ef
      cases c2
      exact this ps pins s σ H Q I ⟨G, H0, env, d, k, c1, fun v H1 s1 r1 _ => q [v] H1 s1 (.cons r1 .nil)⟩
    refine Call_ (y0 I hg hm boot_enumerate (PyProof.Rows.callWith_type1 (thn (hA pos pins s σ H (fun vs H1 => ∃ v, vs = [v] ∧ Same H H1 ∧ Rep X.K (Sf G env σ) H1 v d) I ⟨G, H0, env, [d], k, by show (f env >>= _) = _; rw [e1]; rfl, fun vs H1 s1 r1 => by obtain ⟨v, rfl, r⟩ := r1.one; exact ⟨v, rfl, s1, r⟩⟩) fun us s1 ⟨vs, H1, I1, r1, v, ev, sm, rep⟩ => ?_) hs rfl))
    subst ev
    obtain ⟨u, rfl, ru⟩ := yq r1
    have k1 := k.grow sm
    have main : ∀ (a : Addr) (xs : List V) (es : List D) (P : Hp → Prop), u = .ref a → SqL X.K H1 a xs → Reps X.K (Sf G env σ) H1 xs es → ds = jz 0 es → P H1 → (∀ H', P H' → SqL X.K H' a xs) → (∀ env' σ' H', Frm env σ H1 env' σ' H' → P H') → wpAny (model X.prog X.w) X.A (call (.type "enumerate") [u]) (fun v s1 => wpAny (model X.prog X.w) X.A (pyIter v) (PIE X pins σ (.Tuple elts n tpos) R) X.xe s1) X.xe s1 := by
      intro a xs es P eu hq rs eds p0 pq pst
      subst eu
      obtain ⟨its, rv, pl, hz⟩ := I1.list hq
      refine call_enumerate_list pl.isList fun h' he hit hsz hk => wpAny_pyIter_enum he ?_
      have I2 : Inv X pins σ H1 { s1 with heap := h' } := I1.kept (t' := s1.toks) hk
      refine ⟨s1.heap.objs.size + 1, [s1.heap.objs.size + 1, s1.heap.objs.size], _, _, H1, rfl, I2, YN a s1.heap.objs.size (s1.heap.objs.size + 1) xs (Nat.succ_ne_self _), ⟨⟨_, he⟩, hit⟩, fun b hb => ?_, ?_⟩
      · simp only [List.mem_cons, List.not_mem_nil, or_false] at hb
        rcases hb with rfl | rfl
        · exact I1.fpOk (Nat.le_succ _) (I1.hok.fresh (Nat.le_succ _))
        · exact I1.fpOk (Nat.le_refl _) (I1.hok.fresh (Nat.le_refl _))
      · refine q _ H1 P sm (fun i H' pp => ?_) p0 pst
        have hl := rs.length
        subst eds
        rw [wg]
        refine ⟨fun hi => ⟨pq H' pp, by omega⟩, fun d hd x H2 y => ?_, fun hi => ⟨pq H' pp, by omega⟩⟩
        obtain ⟨p, x', hp, hx', rfl, rfl⟩ := y
        obtain ⟨d', hd', rd⟩ := rs.get' hx'
        rw [yQ, hd'] at hd
        cases hd
        exact .inr ⟨p, _, _, hp, rfl, rfl, rfl, .cons (by rw [Nat.zero_add]; exact .int _) (.cons rd .nil)⟩
    cases d with
    | lst es =>
      cases e2
      obtain ⟨a, xs, rfl, ha, na, rs⟩ := rep.lstE
      exact main a xs es (fun H => H a = some (.lst xs)) ru (.of ha) rs.low rfl ha (fun H' z => .of z) fun env' σ' H' fr => fr.keep a _ ha na.1
    | scr es =>
      cases e2
      obtain ⟨a, xs, rfl, ha, rs⟩ := rep.scrE
      refine main a xs es (fun H => LsK X.K H a xs) ru ha.sql rs rfl ha (fun H' z => z.sql) fun env' σ' H' fr => ?_
      rcases ha with ⟨o, eo⟩ | z
      · exact .inl ⟨o, fr.keep a _ eo fun ow => (k1.mutO ow eo).elim⟩
      · exact .inr z
    | _ => cases e2)
end
end M
namespace M
open PySem PySem.Spec L2
open Classical in
noncomputable instance decD : DecidableEq D := fun a b => propDecidable (a = b)
end M
namespace M
open PySem PySem.Spec L2
open PyProof.Rows hiding St
section
variable {X : Cx}
theorem Yy : bootBuiltins "dict" = some (.type "dict") := by decide +kernel
end
end M
namespace M
open PySem PySem.Spec L2
open PyProof.Rows hiding St
section
variable {prog : Program} {w : World} {A : Around} {E : Value → Shared → Prop} {s : Shared} {it t : Addr} {i : Nat} {items : Array Value} {Q : Value → Shared → Prop}
theorem UA {x : Value} (hit : s.heap.IsTupleIter it t i) (ht : s.heap.IsTuple t items) (hx : items[i]? = some x) (hQ : ∀ h', h'.IsTupleIter it t (i + 1) → Heap.SameBut it s.heap h' → Q x { s with heap := h' }) :
    wpAny (model prog w) A (Builtin.SmallTypes.nextOf (.ref it)) Q E s := by
  obtain ⟨o, ho, hc, hd⟩ := id hit
  obtain ⟨o2, ho2, _, n2, hd2⟩ := ht
  unfold Builtin.SmallTypes.nextOf
  refine wpAny_bind (wpAny_callSpecial?_slot (name := Str.ofString "__next__") hit.typeIs F.slot_tuple_iterator_next (wpAny_call_entry F.slot_tuple_iterator_next hit.typeIs F.entry_tuple_iterator_next
    (show wpAny _ _ (field (.ref it) 0 >>= _) _ _ s from wpAny_bind (wpAny_field ho hd (x := .ref t) rfl (show wpAny _ _ (if (Value.ref t == Value.none) = true then _ else _) _ _ s from ?_))) (F.args_tuple_iterator_next_1 _)))
  rw [if_neg (show ¬ ((Value.ref t == Value.none) = true) from Bool.false_ne_true)]
  refine (show wpAny _ _ (field (.ref it) 1 >>= _) _ _ s from wpAny_bind (wpAny_field ho hd (x := .int i 0) rfl (show wpAny _ _ (seqItems? (.ref t) >>= _) _ _ s from wpAny_bind (wpAny_seqItems ho2 hd2 ?_))))
  simp only [Int.toNat_natCast, hx]
  exact wpAny_bind (wpAny_setField ho hd (by simp) (wpAny_pure ⟨x, rfl, wpAny_pure (hQ _ ⟨_, Heap.get?_update_self _ ho (Obj.isFreed_of_fields (Obj.data_mapFields hd _)), (Obj.cls_mapFields ..).trans hc, by rw [Obj.data_mapFields hd]; simp [rawInt]⟩ (Heap.SameBut.update ..))⟩))
theorem Vo (hh : A.handled = none) (hit : s.heap.IsTupleIter it t i) (ht : s.heap.IsTuple t items) (hx : items[i]? = none)
    (hE : ∀ h' e, Heap.ExtBut it s.heap h' → (∃ o, h'.get? e = some o ∧ o.cls = .type "StopIteration") → E (.ref e) { s with heap := h' }) :
    wpAny (model prog w) A (Builtin.SmallTypes.nextOf (.ref it)) Q E s := by
  obtain ⟨o, ho, hc, hd⟩ := id hit
  obtain ⟨o2, ho2, _, n2, hd2⟩ := ht
  unfold Builtin.SmallTypes.nextOf
  refine wpAny_bind (wpAny_callSpecial?_slot (name := Str.ofString "__next__") hit.typeIs F.slot_tuple_iterator_next (wpAny_call_entry F.slot_tuple_iterator_next hit.typeIs F.entry_tuple_iterator_next
    (show wpAny _ _ (field (.ref it) 0 >>= _) _ _ s from wpAny_bind (wpAny_field ho hd (x := .ref t) rfl (show wpAny _ _ (if (Value.ref t == Value.none) = true then _ else _) _ _ s from ?_))) (F.args_tuple_iterator_next_1 _)))
  rw [if_neg (show ¬ ((Value.ref t == Value.none) = true) from Bool.false_ne_true)]
  refine (show wpAny _ _ (field (.ref it) 1 >>= _) _ _ s from wpAny_bind (wpAny_field ho hd (x := .int i 0) rfl (show wpAny _ _ (seqItems? (.ref t) >>= _) _ _ s from wpAny_bind (wpAny_seqItems ho2 hd2 ?_))))
  simp only [Int.toNat_natCast, hx]
  refine wpAny_bind (wpAny_rule (wpAny_bind (wpAny_setField ho hd (by simp) (show wpAny _ _ (newExc (.type "StopIteration") [] >>= _) _ _ _ from wpAny_bind ?_))))
  simp only [newExc, newTuple]
  refine wpAny_bind (wpAny_newObj_type (wpAny_bind (m := firstArgMember _ _) (wpAny_of_eq (a := Value.none) (by first | rfl | (simp only [firstArgMember]; rfl)) (wpAny_newObj_type ?_ (by size_fits)))) (by size_fits))
  simp only [raiseNew]
  refine wpAny_bind (wpAny_handled ?_)
  rw [show A.in1.handled = none from hh]
  exact wpAny_bind (wpAny_pure (wpAny_throw (hE _ _ (((Heap.SameBut.update ..).extBut.push _).push _) ⟨_, Heap.get?_push_size _ rfl, rfl⟩)))
theorem Vs (hh : A.handled = none) (it l : Addr) (hne : l ≠ it) (items : Array Value) : Draws prog w A it [it, l] items.size (fun i v => items[i]? = some v) (fun i h => h.IsTupleIter it l i ∧ h.IsTuple l items) where
  live := fun _ _ st => let ⟨o, ho, _⟩ := st.1; ⟨o, ho⟩
  frame := fun _ _ _ st hk => ⟨st.1.at fun o e => hk it (by simp) o e, let ⟨o, ho, r⟩ := st.2; ⟨o, hk l (by simp) o ho, r⟩⟩
  item := fun i s Q E hi st hQ => UA st.1 st.2 (x := items[i]) (by simp [hi]) fun h' hit' hs' => hQ _ h' s.toks (by simp [hi]) ⟨hit', st.2.extBut hs'.extBut hne⟩ hs'
  done := fun s Q E st hE => Vo hh st.1 st.2 (by simp) hE
theorem kj (hh : A.handled = none) (it l : Addr) (items : Array Value) (i : Nat) (hi : items.size ≤ i) : Draws prog w A it [it, l] i (fun _ _ => True) (fun j h => j = i ∧ h.IsTupleIter it l j ∧ h.IsTuple l items) where
  live := fun _ _ st => let ⟨o, ho, _⟩ := st.2.1; ⟨o, ho⟩
  frame := fun _ _ _ st hk => ⟨st.1, st.2.1.at fun o e => hk it (by simp) o e, let ⟨o, ho, r⟩ := st.2.2; ⟨o, hk l (by simp) o ho, r⟩⟩
  item := fun j s Q E hj st hQ => absurd st.1 (Nat.ne_of_lt hj)
  done := fun s Q E st hE => Vo hh st.2.1 st.2.2 (by simp; omega) hE
end
open AutoSeq1 (wpAny_loadPart') in
theorem Vn (l : Addr) (items : Array Value) (n : Nat) (dct : Option Addr) (sl : Array (Option Value)) :
    PySem.Meets (Builtin.«enumerate.__new__» ⟨[.type "enumerate", .ref l], []⟩) (fun _ R s => s.heap.get? l = some { cls := .type "tuple", dict := dct, data := .seq items n, slots := sl } ∧
      R (.ok (.ret (.ref (s.heap.push { cls := .type "tuple_iterator", data := .fields #[.ref l, .int 0 0] }).objs.size)))
        { s with heap := (s.heap.push { cls := .type "tuple_iterator", data := .fields #[.ref l, .int 0 0] }).push { cls := .type "enumerate", data := .fields #[.none, .bool false, .ref s.heap.objs.size, rawInt 0, .none, .none] } }) :=
  .of_wp fun prog w A R s h => by
    obtain ⟨hp, g, d, tk, os⟩ := s; obtain ⟨hl, h⟩ := h
    have hsub := sub_enumerate
    have hT : Heap.IsTuple (Shared.heap ⟨hp, g, d, tk, os⟩) l items := ⟨_, hl, rfl, n, rfl⟩
    wp_walk using wpAny_loadPart' hl
    refine wpAny_stack_any fun st => wpAny_pure ?_
    split
    · rename_i c _ _ _ _ _
      cases (c == Value.type "enumerate") <;> (wp_walk using wpAny_loadPart' hl, wpAny_pyIter_tuple hT; exact ⟨_, rfl, h⟩)
    · wp_walk using wpAny_loadPart' hl, wpAny_pyIter_tuple hT
      exact ⟨_, rfl, h⟩
section
variable {prog : Program} {w : World} {A : Around} {E : Value → Shared → Prop} {s : Shared}
theorem Yw {l : Addr} {items : Array Value} {Q : Value → Shared → Prop} (hL : s.heap.IsTuple l items)
    (h : ∀ h', IsEnum h' (s.heap.objs.size + 1) s.heap.objs.size 0 .none → h'.IsTupleIter s.heap.objs.size l 0 → (∀ b o, s.heap.get? b = some o → h'.get? b = some o) → Q (.ref (s.heap.objs.size + 1)) { s with heap := h' }) :
    wpAny (model prog w) A (call (.type "enumerate") [.ref l]) Q E s := by
  obtain ⟨⟨c, dct, dt, sl⟩, hl, hc, n, hd⟩ := hL
  cases (show c = .type "tuple" from hc)
  cases (show dt = .seq items n from hd)
  refine callType_new F.called_enumerate (by decide) (F.typeCall_enumerate_1 _) (F.newCall_enumerate_1 _) (fun obj => F.args_object_init_2 obj _) F.entry_enumerate_new (Vn l items n dct sl) ⟨hl, ?_⟩
  generalize hI : s.heap.push { cls := .type "tuple_iterator", data := .fields #[.ref l, .int 0 0] } = hi
  have hz : hi.objs.size = s.heap.objs.size + 1 := by rw [← hI]; exact Heap.size_push ..
  have hit : hi.get? s.heap.objs.size = some { cls := .type "tuple_iterator", data := .fields #[.ref l, .int 0 0] } := by rw [← hI]; exact Heap.get?_push_size _ rfl
  have hk : ∀ b o, s.heap.get? b = some o → hi.get? b = some o := fun b o x => by rw [← hI]; exact Heap.get?_push_of_some _ x
  have he := Heap.get?_push_size hi (o := { cls := .type "enumerate", data := .fields #[.none, .bool false, .ref s.heap.objs.size, rawInt 0, .none, .none] }) rfl
  rw [hz] at he
  show _ ∧ _
  rw [hz]
  exact ⟨⟨_, he, rfl⟩, h _ he ⟨_, Heap.get?_push_of_some _ hit, rfl, rfl⟩ fun b o x => Heap.get?_push_of_some _ (hk b o x)⟩
end
def ItET (K : PySem.W.Frag) (a : Addr) (xs : List V) : It := ⟨fun i H => SqT K H a xs ∧ i < xs.length, fun i H v H' => ∃ p x, H p = none ∧ xs[i]? = some x ∧ v = .ref p ∧ H' = upd H p (.tup [.int (i : Int), x]), fun i H => SqT K H a xs ∧ xs.length ≤ i⟩
theorem XU {P : Program} {w : World} {K : PySem.W.Frag} {elts : List Expr} {n : Nat} {pos : Pos} (a it e : Addr) (xs : List V) (hei : e ≠ it) (hai : a ≠ it) (hae : a ≠ e) : Turn P w K (.Tuple elts n pos) (ItET K a xs) [e, it] e (fun i h => (∃ old, IsEnum h e it (i : Int) old) ∧ h.IsTupleIter it a i) where
  mem := by simp
  obj := fun i h st b hb => by
    obtain ⟨⟨old, he⟩, o, ho, hc, hd⟩ := st
    simp only [List.mem_cons, List.not_mem_nil, or_false] at hb
    rcases hb with rfl | rfl
    · exact ⟨_, he, fun v z => by cases z⟩
    · exact ⟨o, ho, fun v z => by rw [hd] at z; cases z⟩
  keep := fun i h h' st k => by
    obtain ⟨⟨old, he⟩, hit⟩ := st
    exact ⟨⟨old, k e (by simp) _ he⟩, hit.at fun o x => k it (by simp) o x⟩
  item := by
    intro X hP hw hK hc i pins s σ H E I hf st hg
    subst hP hw hK
    obtain ⟨hq, hi⟩ := hg
    obtain ⟨its, rv, p, hz⟩ := I.tuple hq
    have hx : xs[i]? = some xs[i] := List.getElem?_eq_getElem hi
    obtain ⟨u, hu, ru⟩ := rv.get hx
    obtain ⟨⟨old, he⟩, hit⟩ := st
    have fe := hf e (by simp)
    have fi := hf it (by simp)
    have hl := rv.length
    refine wpAny_pyNext_enum_itemD (Vs (A := X.A.in1) (I.ok.hd hc) it a hai its.toArray) he ⟨hit, show s.heap.IsTuple a its.toArray from p⟩ (by simp; omega) hei (by simp [hei, Ne.symm hae]) fun x h' tk px ho st' hT hsz hk => ?_
    have hxu : x = u := by
      have : its.toArray[i]? = some u := by simpa using hu
      rw [this] at px; exact (Option.some.inj px).symm
    subst hxu
    refine ⟨_, rfl, wpAny_letOwnedTupleGo_enum ho fun h'' he' hs' => ?_⟩
    have helt : e < s.heap.objs.size := Heap.lt_size he
    have hilt : it < s.heap.objs.size := by obtain ⟨_, x, _⟩ := hit; exact Heap.lt_size x
    have hfr : H s.heap.objs.size = none := I.hok.fresh (Nat.le_refl _)
    have I1 : Inv X pins σ (upd H s.heap.objs.size (.tup [.int (i : Int), xs[i]])) { s with heap := s.heap.push { cls := .type "tuple", data := .seq #[.int i tk, x] } } :=
      I.laid (t' := s.toks) (fun b o e => Heap.get?_push_of_some _ e) (Nat.le_refl _) ⟨Nat.le_trans (show 2 ≤ 20 by decide) (by decide), [.int i tk, x], .cons ⟨_, rfl⟩ (.cons ru .nil), ⟨_, Heap.get?_push_size _ rfl, rfl, _, rfl⟩⟩
    have fe1 : FpOk X pins (upd H s.heap.objs.size (.tup [.int (i : Int), xs[i]])) e := ⟨by rw [jJ (Nat.ne_of_lt helt)]; exact fe.1, fe.2⟩
    have fi1 : FpOk X pins (upd H s.heap.objs.size (.tup [.int (i : Int), xs[i]])) it := ⟨by rw [jJ (Nat.ne_of_lt hilt)]; exact fi.1, fi.2⟩
    have I2 := wz (t' := tk + 1) (h' := h'') I1 (fun b o hbe hbi eo => by
      refine (hs'.2 b hbe).trans ?_
      by_cases hb : b = s.heap.objs.size
      · subst hb
        rw [Heap.get?_push_size _ rfl] at eo
        rw [← eo]; exact hT
      · have eo' : s.heap.get? b = some o := by
          rcases Heap.get?_push_cases eo with ⟨z, _⟩ | z
          · exact absurd z hb
          · exact z
        exact hk b o hbe hbi eo') fe1 fi1
    refine ⟨.ref s.heap.objs.size, _, I2, rfl, ⟨_, _, hfr, hx, rfl, rfl⟩, ⟨⟨_, by simpa using he'⟩, st'.1.at fun o y => (hs'.2 it hei.symm).trans y⟩, fun b hb => ?_⟩
    simp only [List.mem_cons, List.not_mem_nil, or_false] at hb
    rcases hb with rfl | rfl
    · exact fe1.1
    · exact fi1.1
  done := by
    intro X hP hw hK hc i pins s σ H E I hf st hg
    subst hP hw hK
    obtain ⟨hq, hi⟩ := hg
    obtain ⟨its, rv, p, hz⟩ := I.tuple hq
    obtain ⟨⟨old, he⟩, hit⟩ := st
    have hl := rv.length
    refine wpAny_pyNext_enum_endD (kj (A := X.A.in1) (I.ok.hd hc) it a its.toArray i (by simp; omega)) he ⟨rfl, hit, show s.heap.IsTuple a its.toArray from p⟩ fun h' eb => ⟨rfl, wz (t' := s.toks) I (fun b o hbe hbi eo => eb b o hbi eo) (hf e (by simp)) (hf it (by simp))⟩
  self := fun _ _ _ _ _ st h => let ⟨⟨_, he⟩, _⟩ := st; wpAny_pyIter_enum he h
section
variable {X : Cx} {elts : List Expr} {n : Nat} {tpos p pos : Pos} {e : Expr} {f : Sl → Res D}
def UY (f : Sl → Res D) : Sl → Res (List D) := fun env => f env >>= fun d => match d with
  | .tup ds => .ok (jz 0 ds)
  | _ => .stuck
theorem ko (hg : Gl X "enumerate") (hm : X.mg "enumerate" = none) (h : DE X .s e f) (hs : starEach [e] X.env = [(false, eval e X.env)] := by rfl) : DI X (.Tuple elts n tpos) (.Call (.Name "enumerate" p) [e] [] pos) (UY f) := by
  have hE : PE X e (tE X.K .s f) := by with_unfolding_all exact h
  with_unfolding_all exact (show PI X (.Tuple elts n tpos) (.Call (.Name "enumerate" p) [e] [] pos) (tI X.K (UY f)) from by
    intro pins s σ H R I ⟨G, H0, env, ds, k, ef, q⟩
    obtain ⟨d, e1, e2⟩ := jc ef
    have hA : PA X [e] (tA X.K .s fun env => f env >>= fun d => .ok [d]) := by
      have := qA hE wN (es := []) hs
      intro ps pins s σ H Q I ⟨G, H0, env, ds, k, ef, q⟩
      obtain ⟨d, c1, c2⟩ := jc ef
      cases c2
      exact this ps pins s σ H Q I ⟨G, H0, env, d, k, c1, fun v H1 s1 r1 _ => q [v] H1 s1 (.cons r1 .nil)⟩
    refine Call_ (y0 I hg hm boot_enumerate (PyProof.Rows.callWith_type1 (thn (hA pos pins s σ H (fun vs H1 => ∃ v, vs = [v] ∧ Same H H1 ∧ Rep X.K (Sf G env σ) H1 v d) I ⟨G, H0, env, [d], k, by show (f env >>= _) = _; rw [e1]; rfl, fun vs H1 s1 r1 => by obtain ⟨v, rfl, r⟩ := r1.one; exact ⟨v, rfl, s1, r⟩⟩) fun us s1 ⟨vs, H1, I1, r1, v, ev, sm, rep⟩ => ?_) hs rfl))
    subst ev
    obtain ⟨u, rfl, ru⟩ := yq r1
    have k1 := k.grow sm
    cases d with
    | tup es =>
      cases e2
      obtain ⟨a, xs, rfl, ha, rs⟩ := rep.tupE
      cases ru
      have hq : SqT X.K H1 a xs := .inl (.of ha)
      obtain ⟨its, rv, pl, hz⟩ := I1.tuple hq
      have hlt : a < s1.heap.objs.size := by obtain ⟨o, ho, _⟩ := pl; exact Heap.lt_size ho
      refine Yw (show s1.heap.IsTuple a its.toArray from pl) fun h' he hit hk => wpAny_pyIter_enum he ?_
      have I2 : Inv X pins σ H1 { s1 with heap := h' } := I1.kept (t' := s1.toks) hk
      refine ⟨s1.heap.objs.size + 1, [s1.heap.objs.size + 1, s1.heap.objs.size], _, _, H1, rfl, I2, XU a s1.heap.objs.size (s1.heap.objs.size + 1) xs (Nat.succ_ne_self _) (Nat.ne_of_lt hlt) (Nat.ne_of_lt (Nat.lt_succ_of_lt hlt)), ⟨⟨_, he⟩, hit⟩, fun b hb => ?_, ?_⟩
      · simp only [List.mem_cons, List.not_mem_nil, or_false] at hb
        rcases hb with rfl | rfl
        · exact I1.fpOk (Nat.le_succ _) (I1.hok.fresh (Nat.le_succ _))
        · exact I1.fpOk (Nat.le_refl _) (I1.hok.fresh (Nat.le_refl _))
      · refine q _ H1 (fun H => H a = some (.tup xs)) sm (fun i H' pp => ?_) ha fun env' σ' H' fr => fr.keep a _ ha fun ow => (k1.mutO ow ha).elim
        have hl := rs.length
        rw [wg]
        refine ⟨fun hi => ⟨.inl (.of pp), by omega⟩, fun d hd x H2 y => ?_, fun hi => ⟨.inl (.of pp), by omega⟩⟩
        obtain ⟨p, x', hp, hx', rfl, rfl⟩ := y
        obtain ⟨d', hd', rd⟩ := rs.get' hx'
        rw [yQ, hd'] at hd
        cases hd
        exact .inr ⟨p, _, _, hp, rfl, rfl, rfl, .cons (by rw [Nat.zero_add]; exact .int _) (.cons rd .nil)⟩
    | _ => cases e2)
end
end M
namespace M
open PySem PySem.Spec L2
open PyProof.Rows hiding St
def vN (K : PySem.W.Frag) : R2 := fun x y H Q => ∃ a b ys, x = .ref a ∧ y = .ref b ∧ SqT K H a [] ∧ SqT K H b ys ∧ Q (.ref b) H
theorem op_cat0 {X : Cx} : OpR X (binaryOp .Add) (vN X.K) := by
  intro pins s σ H x y v u Q I rx ry h
  obtain ⟨a, b, ys, rfl, rfl, ha, hb, q⟩ := h
  cases rx
  cases ry
  obtain ⟨its, r1, p1, _⟩ := I.tuple ha
  obtain ⟨its2, r2, p2, _⟩ := I.tuple hb
  cases r1
  obtain ⟨⟨c, dd, data, sl⟩, ho, hc, n, hd⟩ := p1
  obtain ⟨⟨c2, dd2, data2, sl2⟩, ho2, hc2, n2, hd2⟩ := p2
  simp only at hc hd hc2 hd2
  subst hc hd hc2 hd2
  exact concat_meets ⟨_, ho, rfl⟩ ⟨_, ho2, rfl⟩ noFill_tuple_add seq_tuple_add PySem.F.slot_tuple_add PySem.F.entry_tuple_add (PySem.F.args_tuple_add_2 _ _) (tuple_addW0 a b #[] its2.toArray n n2 dd dd2 sl sl2 rfl) ⟨ho, ho2, ⟨.ref b, H, I, rfl, q⟩⟩
def addE : D → D → Res D
  | .tup [], .tup b => .ok (.tup b)
  | a, b => addD a b
theorem Kq {X : Cx} : OpR X (binaryOp .Add) (fun x y H Q => vN X.K x y H Q ∨ (rI0 (fun i j => .int (i + j)) x y H Q ∨ (∃ i j, x = .str i ∧ y = .str j ∧ i.length + j.length ≤ sizeLine ∧ Q (.str (i ++ j)) H) ∨ rCat x y H Q ∨ Y5 X.K x y H Q)) := op_cat0.or jS
theorem Kx {K : PySem.W.Frag} : OpD K (fun x y H Q => vN K x y H Q ∨ (rI0 (fun i j => .int (i + j)) x y H Q ∨ (∃ i j, x = .str i ∧ y = .str j ∧ i.length + j.length ≤ sizeLine ∧ Q (.str (i ++ j)) H) ∨ rCat x y H Q ∨ Y5 K x y H Q)) addE := by
  intro A x y H a b d Q ra rb e q
  unfold addE at e
  split at e
  · cases e
    obtain ⟨l, xs, rfl, hl, rx⟩ := ra.tupE
    obtain ⟨l', ys, rfl, hl', ry⟩ := rb.tupE
    cases rx
    refine .inl ⟨l, l', ys, rfl, rfl, .inl (.of hl), .inl (.of hl'), q _ H (Same.refl H) (.tup hl' (ry.weak orA)) fun a e o q' m => ?_⟩
    cases e; rw [hl'] at q'; cases q'; exact m
  · exact .inr (qj A x y H _ _ d Q ra rb e q)
end M
namespace M
open PySem PySem.Spec L2
open PyProof.Rows hiding St
inductive OutI where
  | nx (env : Sl) | rt (b : Bool) (env : Sl)
abbrev At (σ : L2.St) (i : Nat) (a : Addr) : Prop := σ[i]? = some (some (V.ref a))
end M
namespace M
open PySem PySem.Spec L2
open PyProof.Rows hiding St
abbrev FI := List D → List Key → List D → Res (Bool × List Key × List D)
end M
namespace M
open PySem PySem.Spec L2
open PyProof.Rows hiding St
section
variable {X : Cx} {pins : List (Addr × Obj)} {σ : L2.St} {H : Hp} {s : Shared}
theorem y7 {t' : Nat} {h' : Heap} {fp : List Addr} (I : Inv X pins σ H s) (k : ∀ b o, b ∉ fp → s.heap.get? b = some o → h'.get? b = some o) (f : ∀ b ∈ fp, FpOk X pins H b) : Inv X pins σ H { s with heap := h', toks := t' } := by
  have n : ∀ b u, H b = some u → b ∉ fp := fun b u e z => by have := (f b z).1; rw [this] at e; cases e
  refine I.step (g' := s.gens) (d' := s.drawn) (ch := fp) (fun b hb => ?_) (fun b o _ _ hc e _ => k b o hc e) (fun b o _ _ hc e _ => ⟨o.slots, k b o hc e⟩) (fun _ _ _ _ n => n)
    (fun b o hc e => ⟨o, k b o hc e⟩) (fun _ _ e => e) (fun _ _ _ e => e) (fun b ps e => ⟨#[], by rw [e]; simp⟩) (fun m hm => ?_) (fun b u e => ?_) I.bare
  · obtain ⟨a0, a1, _, a3, a4, a5⟩ := f b hb
    exact ⟨a3, a1, a4, a5⟩
  · obtain ⟨o, es, ep, ho, r⟩ := hm
    exact ⟨o, es, ep, k _ o (fun z => (f _ z).2.1 rfl) ho, r⟩
  · refine (I.hok b u e).stay (fun c v hc q => k c v ?_ q) (fun _ q => q) fun _ _ q => q
    rcases hc with z | z
    · rw [z]; exact n b u e
    · exact n c _ z
end
end M
namespace M
open PySem PySem.Spec L2
open PyProof.Rows hiding St
section
variable {X : Cx} {elts : List Expr} {n : Nat} {tpos p pos : Pos} {e1 e2 : Expr} {f1 f2 : Sl → Res D}
def zO : List D → List D → List D
  | x :: xs, y :: ys => .tup [x, y] :: zO xs ys
  | _, _ => []
theorem JH : ∀ xs ys : List D, (zO xs ys).length = min xs.length ys.length
  | [], _ => by simp [zO]
  | _ :: _, [] => by simp [zO]
  | x :: xs, y :: ys => by simp [zO, JH xs ys]
theorem JI : ∀ (xs ys : List D) (i : Nat) (d : D), (zO xs ys)[i]? = some d → ∃ x y, xs[i]? = some x ∧ ys[i]? = some y ∧ d = .tup [x, y]
  | [], _, i, d, h => by simp [zO] at h
  | _ :: _, [], i, d, h => by simp [zO] at h
  | x :: xs, y :: ys, 0, d, h => by simp [zO] at h; exact ⟨x, y, rfl, rfl, h.symm⟩
  | x :: xs, y :: ys, i + 1, d, h => by
    simp only [zO, List.getElem?_cons_succ] at h ⊢
    exact JI xs ys i d h
theorem VH : bootBuiltins "zip" = some (.type "zip") := by decide +kernel
end
end M
namespace M
open PySem PySem.Spec L2
open PyProof.Rows hiding St
section
variable {X : Cx}
def slS : D → Option Int → Option Int → Res D
  | .scr ds, lo, hi => .ok (.lst (cutD ds lo hi))
  | _, _, _ => .stuck
theorem Vw {e : Expr} {lo hi : Option Expr} {p2 pos : Pos} {f : Sl → Res D} {fl fh : Sl → Res (Option Int)} (he : DE X .s e f) (hl : DO X lo fl) (hh : DO X hi fh) :
    DE X .t (.Subscript e (.Slice lo hi none p2) pos) (zB f fl fh slS) := by
 with_unfolding_all exact (
  PE.imp (WX sl_list he hl hh) fun σ H Q ⟨G, H0, env, d, k, ef, q⟩ => by
    obtain ⟨a, e1, ef⟩ := jc ef
    obtain ⟨lo', e2, ef⟩ := jc ef
    obtain ⟨hi', e3, e4⟩ := jc ef
    refine ⟨G, H0, env, a, k, e1, fun x H1 s1 r1 _ => ⟨G, H0, env, lo', k.grow s1, e2, fun H2 s2 => ⟨G, H0, env, hi', (k.grow s1).grow s2, e3, fun H3 s3 => ?_⟩⟩⟩
    have sm := s1.trans (s2.trans s3)
    cases a with
    | scr ds =>
      cases e4
      obtain ⟨b, xs, rfl, hb, rs⟩ := ((r1.grow s2).grow s3).scrE
      refine ⟨b, xs, rfl, hb.sql, fun p hp => q _ _ (sm.trans (Same.upd hp)) (.lst jA (k.new p (Same.free sm hp)) (((Wt rs).laid hp).weak fun c z => ⟨z.1, z.2⟩)) ((j4 (Same.refl H3) hp).grow sm)⟩
    | _ => cases e4)
def jap (K : PySem.W.Frag) : R2 := fun x y H Q => ∃ l b xs zs, x = .ref l ∧ y = .ref b ∧ SqL K H l xs ∧ SqL K H b zs ∧ xs.length + zs.length ≤ sizeLine ∧ ∀ p, H p = none → Q (.ref p) (upd H p (.lst (xs ++ zs)))
theorem ud : OpR X (binaryOp .Add) (jap X.K) := by
  intro pins s σ H x y v u Q I rx ry h
  obtain ⟨l, b, xs, zs, rfl, rfl, hH, hB, hz, q⟩ := h
  cases rx
  cases ry
  obtain ⟨its, r, ⟨⟨c1, d1, dt1, sl1⟩, n1, g1, p1, p2, p3⟩, z1⟩ := I.list hH
  obtain ⟨its2, r2, ⟨⟨c2, d2, dt2, sl2⟩, n2, g2, p4, p5, p6⟩, z2⟩ := I.list hB
  simp only at p1 p2 p3 p4 p5 p6
  subst p1 p2 p3 p4 p5 p6
  have hl := r.length
  have hl2 := r2.length
  refine concat_meets ⟨_, g1, rfl⟩ ⟨_, g2, rfl⟩ noFill_list_add seq_list_add F.slot_list_add F.entry_list_add (F.args_list_add_2 _ _) (list_addW l b its.toArray its2.toArray n1 n2 none none sl1 sl2 (by rw [List.size_toArray, List.size_toArray]; omega)) ⟨g1, g2, ?_⟩
  have ea : its.toArray ++ its2.toArray = (its ++ its2).toArray := by simp
  rw [ea]
  exact ⟨.ref _, _, I.lnew (t' := s.toks) (r.append r2) (by rw [List.length_append]; omega), rfl, q _ I.fresh⟩
def addS : D → D → Res D
  | .scr a, .lst b => must (a.length + b.length ≤ sizeLine) (.ok (.lst (a ++ b)))
  | _, _ => .stuck
theorem uh {K : PySem.W.Frag} : OpD K (jap K) addS := by
  intro A x y H a b d Q ra rb e q
  unfold addS at e
  split at e
  · obtain ⟨h3, h4⟩ := jB e
    cases h4
    obtain ⟨l, xs, rfl, hl, rx⟩ := ra.scrE
    obtain ⟨l', ys, rfl, hl', _, ry⟩ := rb.lstE
    refine ⟨l, l', xs, ys, rfl, rfl, hl.sql, .of hl', rx.len_app ry.low h3, fun p hp => q _ _ (Same.upd hp) ?_ (j4 (Same.refl H) hp)⟩
    exact .lst jA (.inl hp) (((rx.append ry.low).laid hp).weak fun c z => ⟨.inr z.1, z.2⟩)
  · cases e
def jbx (i j : Int) : Prop := 0 < j ∧ j < 2 ^ 200
theorem yx : OpR X (binaryOp .FloorDiv) (rI jbx fun i j => .int (i / j)) := opI fun i j _ _ _ _ _ hc q => by
  have h1 : (0 : Int) < j := hc.1
  have h2 : j < 2 ^ 200 := hc.2
  refine floordiv_int (by omega) (by rw [Int.fdiv_eq_ediv_of_nonneg i (by omega)]; exact q) (.inl (PyProof.noPylong_of_log2 ?_))
  have h3 : j.natAbs < 2 ^ 200 := by omega
  exact Nat.lt_of_lt_of_le ((Nat.log2_lt (by omega)).mpr h3) (by omega)
abbrev DivW : Int → Int → Prop := fun _ j => 0 < j ∧ j < 2 ^ 200
theorem yy {K : PySem.W.Frag} : OpS K (rI jbx fun i j => .int (i / j)) (iOp DivW fun i j => .int (i / j)) := od_I (fun _ _ h => h) fun i j => wb _
abbrev divW := iOp DivW fun i j => .int (i / j)
end
end M
namespace M
open PySem PySem.Spec L2
open PyProof.Rows hiding St
def getN (f : Str) : List Str → List D → Option D
  | n :: ns, d :: ds => if n = f then some d else getN f ns ds
  | _, _ => none
def Z1 (f : Str) : List Str → List Str
  | [] => [f]
  | n :: ns => if n = f then n :: ns else n :: Z1 f ns
def Z2 (f : Str) (d : D) : List Str → List D → List D
  | [], _ => [d]
  | n :: ns, e :: es => if n = f then d :: es else e :: Z2 f d ns es
  | _ :: _, [] => []
theorem Qt {K : PySem.W.Frag} {A : Addr → Prop} {H : Hp} {f : Str} : ∀ {fs : List (Str × V)} {ds : List D} {d : D}, Reps K A H (fs.map (·.2)) ds → getN f (fs.map (·.1)) ds = some d → ∃ v, fs.lookup f = some v ∧ Rep K A H v d
  | [], _, _, _, h => by simp [getN] at h
  | (n, v) :: r, _, d, .cons q t, h => by
    by_cases e : n = f
    · subst e
      simp only [List.map_cons, getN, if_pos] at h
      cases h
      exact ⟨v, by simp [List.lookup], q⟩
    · simp only [List.map_cons, getN, if_neg e] at h
      obtain ⟨v', h1, h2⟩ := Qt t h
      exact ⟨v', by rw [List.lookup_cons]; simp [show (f == n) = false from by simpa using fun z => e z.symm, h1], h2⟩
theorem WN {K : PySem.W.Frag} {A : Addr → Prop} {H : Hp} {f : Str} {v : V} {d : D} (rv : Rep K A H v d) : ∀ {fs : List (Str × V)} {ds : List D}, Reps K A H (fs.map (·.2)) ds → (putF f v fs).map (·.1) = Z1 f (fs.map (·.1)) ∧ Reps K A H ((putF f v fs).map (·.2)) (Z2 f d (fs.map (·.1)) ds)
  | [], _, .nil => ⟨rfl, .cons rv .nil⟩
  | (n, u) :: r, _, .cons q t => by
    by_cases e : n = f
    · simp only [putF, List.map_cons, Z1, Z2, if_pos e]
      exact ⟨trivial, .cons rv t⟩
    · simp only [putF, List.map_cons, Z1, Z2, if_neg e]
      obtain ⟨h1, h2⟩ := WN rv t
      exact ⟨by rw [h1], .cons q h2⟩
theorem Zg {f : Str} : ∀ {fs : List (Str × V)}, (fs.map (·.1)).contains f = false → fs.lookup f = none
  | [], _ => rfl
  | (n, u) :: r, h => by
    simp only [List.map_cons, List.contains_cons, Bool.or_eq_false_iff] at h
    rw [List.lookup_cons]
    simp [h.1, Zg h.2]
theorem Rep.objE {K : PySem.W.Frag} {A : Addr → Prop} {H : Hp} {v : V} {c : Str} {ns : List Str} {ds : List D} (r : Rep K A H v (.obj c ns ds)) : ∃ a C dx fs, v = .ref a ∧ H a = some (.ins C dx fs) ∧ A a ∧ PySem.W.nsIn K mainGlobals c = some (some (.ref C)) ∧ fs.map (·.1) = ns ∧ Reps K (fun c => A c ∧ c ≠ a) H (fs.map (·.2)) ds := by
  cases r with
  | obj e a k1 k2 r => subst k2; exact ⟨_, _, _, _, rfl, e, a, k1.1, k1.2, r⟩
theorem Kj {K : PySem.W.Frag} {G : Addr → Prop} {H0 H : Hp} {env : Sl} {σ : L2.St} {i : Nat} {c : Str} {ns : List Str} {ds : List D} (k : EnvOk K G H0 env σ H) (hi : env[i]? = some (.own (.obj c ns ds))) :
    ∃ a C dx fs, σ[i]? = some (some (.ref a)) ∧ H a = some (.ins C dx fs) ∧ PySem.W.nsIn K mainGlobals c = some (some (.ref C)) ∧ fs.map (·.1) = ns ∧ Reps K (Sf G env σ) H (fs.map (·.2)) ds := by
  obtain ⟨a, h1, _, h2⟩ := k.own i _ hi
  cases h2 with
  | obj e k1 k2 r => subst k2; exact ⟨a, _, _, _, h1, e, k1.1, k1.2, r⟩
structure FldN (K : PySem.W.Frag) (c f : Str) : Prop where
  ex : ∃ C, PySem.W.nsIn K mainGlobals c = some (some (.ref C)) ∧ Cls K C ∧ NoAttr K C f
theorem FldN.at {K : PySem.W.Frag} {c f : Str} {C : Addr} (h : FldN K c f) (e : PySem.W.nsIn K mainGlobals c = some (some (.ref C))) : Cls K C ∧ NoAttr K C f := by
  obtain ⟨C', h1, h2⟩ := h.ex
  rw [e] at h1; cases h1; exact h2
def fldD (c f : Str) : D → Res D
  | .obj c' ns ds => must (c' = c) (match getN f ns ds with
    | some d => .ok d
    | none => .stuck)
  | _ => .stuck
theorem UT {c f : Str} {o d : D} (h : fldD c f o = .ok d) : ∃ ns ds, o = .obj c ns ds ∧ getN f ns ds = some d := by
  unfold fldD at h
  split at h
  · rename_i c' ns ds
    obtain ⟨hc, h2⟩ := jB h
    subst hc
    cases e : getN f ns ds with
    | none => rw [e] at h2; cases h2
    | some d' => rw [e] at h2; cases h2; exact ⟨ns, ds, rfl, e⟩
  · cases h
def fldF (c f : Str) (fo : Sl → Res D) : Sl → Res D := fun env => fo env >>= fldD c f
section
variable {X : Cx} {e : Expr} {fo : Sl → Res D} {pos p : Pos} {c f : Str}
theorem uR (i : Nat) {x : Str} (hf : FldN X.K c f) (hN : X.N[i]? = some x := by rfl) (hv : Vis X.env.scope x := by first | exact Or.inl rfl | exact Or.inr (Or.inl rfl) | exact Or.inr (Or.inr rfl))
    (hd : (x == ("__debug__" : Str)) = false := by decide) (hcd : (x == ("__classdict__" : Str)) = false := by decide)
    (hb : attributeBase (.Name x p) f X.env (eval (.Name x p) X.env) = eval (.Name x p) X.env := by rfl) : DE X .s (.Attribute (.Name x p) f pos) (fldF c f (rdB i)) := by
 with_unfolding_all exact (
  PE.imp (jaL (wf (i := i) hN hv hd hcd) hb) fun σ H Q ⟨G, H0, env, d, k, ef, q⟩ => by
    obtain ⟨o, e1, e2⟩ := jc ef
    obtain ⟨ns, ds, rfl, e3⟩ := UT e2
    rcases Z0 e1 with z | z
    · obtain ⟨v, h1, h2⟩ := k.shr i _ z
      obtain ⟨a, C, dx, fs, rfl, ha, _, hc, hn, rs⟩ := h2.objE
      subst hn
      obtain ⟨v', g1, g2⟩ := Qt rs e3
      exact ⟨_, h1, a, C, dx, fs, v', rfl, ha, (hf.at hc).1, (hf.at hc).2, g1, q v' H (Same.refl H) (g2.weak fun _ z => z.1) trivial⟩
    · obtain ⟨a, C, dx, fs, h1, ha, hc, hn, rs⟩ := Kj k z
      subst hn
      obtain ⟨v', g1, g2⟩ := Qt rs e3
      exact ⟨_, h1, a, C, dx, fs, v', rfl, ha, (hf.at hc).1, (hf.at hc).2, g1, q v' H (Same.refl H) g2 trivial⟩)
end
inductive OutO where
  | nx (env : Sl) | rt (d : D) (env : Sl)
def u8 (K : PySem.W.Frag) (G : Addr → Prop) (H0 : Hp) (i : Nat) (a : Addr) (env : Sl) (σ : L2.St) (H : Hp) (E : Ends) : OutO → Prop
  | .nx env' => ∀ σ' H', EnvOk K G H0 env' σ' H' → At σ' i a → Frm env σ H env' σ' H' → E.nx σ' H'
  | .rt d env' => ∀ v σ' H', EnvOk K G H0 env' σ' H' → At σ' i a → Frm env σ H env' σ' H' → Rep K (Sf G env' σ') H' v d → E.rt v H'
def tSO (K : PySem.W.Frag) (i : Nat) (g : Sl → Res OutO) : TS := fun E σ H => ∃ G H0 env o a, EnvOk K G H0 env σ H ∧ At σ i a ∧ g env = .ok o ∧ u8 K G H0 i a env σ H E o
@[irreducible] def DSO (X : Cx) (i : Nat) (st : Stmt) (g : Sl → Res OutO) : Prop := PS X st (tSO X.K i g)
@[irreducible] def DSsO (X : Cx) (i : Nat) (st : List Stmt) (g : Sl → Res OutO) : Prop := PSs X st (tSO X.K i g)
theorem Z8 {K : PySem.W.Frag} {G : Addr → Prop} {H0 H H' : Hp} {env env' : Sl} {σ σ' : L2.St} {i : Nat} {a : Addr} {E : Ends} {o : OutO} (f : Frm env σ H env' σ' H') (q : u8 K G H0 i a env σ H E o) : u8 K G H0 i a env' σ' H' E o := by
  cases o with
  | nx e => exact fun σ2 H2 k2 a2 f2 => q σ2 H2 k2 a2 (f.trans f2)
  | rt b e => exact fun v σ2 H2 k2 a2 f2 r2 => q v σ2 H2 k2 a2 (f.trans f2) r2
section
variable {X : Cx} {i : Nat} {e c0 tg : Expr} {st : Stmt} {rest body orelse : List Stmt} {pos p apos : Pos} {l : Lv} {f : Sl → Res D} {g g1 g2 : Sl → Res OutO} {c n x : Str}
def seqJ (g1 g2 : Sl → Res OutO) : Sl → Res OutO := fun env => g1 env >>= fun o => match o with
  | .nx env' => g2 env'
  | .rt b e => .ok (.rt b e)
theorem Zv (h1 : DSO X i st g1) (h2 : DSsO X i rest g2) : DSsO X i (st :: rest) (seqJ g1 g2) := by
 with_unfolding_all exact (PSs.imp (WR h1 h2) fun E σ H ⟨G, H0, env, o, a, k, ha, ef, q⟩ => by
    obtain ⟨o1, e1, e2⟩ := jc ef
    refine ⟨G, H0, env, o1, a, k, ha, e1, ?_⟩
    cases o1 with
    | nx env1 => exact fun σ' H' k' a' f' => ⟨G, H0, env1, o, a, k', a', e2, Z8 f' q⟩
    | rt b env1 => cases e2; exact q)
theorem Xr (h1 : DSO X i st g1) : DSsO X i [st] g1 := by
 with_unfolding_all exact (PSs.imp (Y7 h1) fun E σ H q => q)
def nxJ : Sl → Res OutO := fun env => .ok (.nx env)
theorem kf : DSsO X i [] nxJ := by
 with_unfolding_all exact (PSs.imp Y8 fun E σ H ⟨G, H0, env, o, a, k, ha, ef, q⟩ => by
    cases ef
    exact q σ H k ha (Frm.refl (Same.refl H)))
def ifJ (t : Sl → Res Bool) (g1 g2 : Sl → Res OutO) : Sl → Res OutO := fun env => t env >>= fun b => if b = true then g1 env else g2 env
theorem jbj {t : Sl → Res Bool} (hc : DT X c0 t) (h1 : DSsO X i body g1) (h2 : DSsO X i orelse g2) : DSO X i (.If c0 body orelse pos) (ifJ t g1 g2) := by
 with_unfolding_all exact (PS.imp (jaw hc h1 h2) fun E σ H ⟨G, H0, env, o, a, k, ha, ef, q⟩ => by
    obtain ⟨b, e1, e2⟩ := jc ef
    refine ⟨G, H0, env, b, k, e1, fun H' s => ?_⟩
    cases b with
    | true =>
      rw [if_pos rfl] at e2 ⊢
      exact ⟨G, H0, env, o, a, k.grow s, ha, e2, Z8 (Frm.refl s) q⟩
    | false =>
      rw [if_neg Bool.false_ne_true] at e2 ⊢
      exact ⟨G, H0, env, o, a, k.grow s, ha, e2, Z8 (Frm.refl s) q⟩)
def kQ : Sl → Res OutO := fun _ => .stuck
theorem Vq : DSO X i st kQ := by
 with_unfolding_all exact (fun pins s σ H E I ⟨G, H0, env, o, a, k, ha, ef, q⟩ => by cases ef)
def ownJ (i : Nat) (c : Str) : Sl → Res (List Str × List D) := fun env => match env[i]? with
  | some (.own (.obj c' ns ds)) => must (c' = c) (.ok (ns, ds))
  | _ => .stuck
theorem Us {q : List Str × List D} {env : Sl} (h : ownJ i c env = .ok q) : env[i]? = some (.own (.obj c q.1 q.2)) := by
  unfold ownJ at h
  split at h
  · rename_i c' ns ds e
    obtain ⟨hc, h2⟩ := jB h
    subst hc
    cases h2; exact e
  · cases h
def VZ (i : Nat) (c n : Str) (f : Sl → Res D) : Sl → Res OutO := fun env => f env >>= fun d => ownJ i c env >>= fun q => must (q.1.length < 1000) (.ok (.nx (env.set i (.own (.obj c (Z1 n q.1) (Z2 n d q.1 q.2))))))
theorem Xs (hf : FldN X.K c n) (h : DE X .s e f) (hN : X.N[i]? = some x := by rfl) (hv : Vis X.env.scope x := by first | exact Or.inl rfl | exact Or.inr (Or.inl rfl) | exact Or.inr (Or.inr rfl))
    (hd : (x == ("__debug__" : Str)) = false := by decide) (hcd : (x == ("__classdict__" : Str)) = false := by decide)
    (hs : swapsWith e (some (.Attribute (.Name x p) n apos)) pos.line X.env = pure false := by rfl) : DSO X i (.Assign [.Attribute (.Name x p) n apos] e pos) (VZ i c n f) := by
 with_unfolding_all exact (
  PS.imp (jay (wf (i := i) hN hv hd hcd) h hs) fun E σ H ⟨G, H0, env, o, a, k, ha, ef, q⟩ => by
    obtain ⟨d, e1, ef⟩ := jc ef
    obtain ⟨ns, e2, ef⟩ := jc ef
    obtain ⟨hz, e3⟩ := jB ef
    cases e3
    have hi := Us e2
    refine ⟨G, H0, env, d, k, e1, fun y H1 s1 r1 _ => ?_⟩
    obtain ⟨a', C, dx, fs, h1, hx, hc, hn, rs⟩ := Kj (k.grow s1) hi
    rw [ha] at h1; cases h1
    refine ⟨_, ha, a, C, dx, fs, rfl, hx, (hf.at hc).1, (hf.at hc).2, by rw [← hn, List.length_map] at hz; exact hz, ?_⟩
    obtain ⟨p1, p2⟩ := WN (f := n) r1 rs
    rw [hn] at p1 p2
    have W := (k.grow s1).writeG (o' := .ins C dx (putF n y fs)) (d' := .obj c (Z1 n ns.1) (Z2 n d ns.1 ns.2)) hi ha hx trivial fun A' H' st e w => .obj e ⟨hc, p1⟩ rfl (p2.stay st w)
    exact q σ _ W.1 ha (W.2.grow s1))
end
end M
namespace M
open PySem PySem.Spec L2
open PyProof.Rows hiding St
structure AvM (P : Program) (w : World) (K : PySem.W.Frag) (mg : Str → Option Value) (base : Heap) (k : Nat) (c m : Str) (ps : List Str) (fr : Bool) (F : List D → Res D) : Prop where
  ex : ∃ C f fd, FnOk P w K mg base CX0 k f fd ps (spF K fr ps.length F) ∧ PySem.W.nsIn K mainGlobals c = some (some (.ref C)) ∧ Cls K C ∧ Meth K C m f ∧ Binds K fd ps []
theorem AvM.mono {P : Program} {w : World} {K : PySem.W.Frag} {mg : Str → Option Value} {base : Heap} {j k : Nat} {c m : Str} {ps : List Str} {fr : Bool} {F : List D → Res D} (h : AvM P w K mg base j c m ps fr F) (hj : j ≤ k) : AvM P w K mg base k c m ps fr F :=
  let ⟨C, f, fd, a, b⟩ := h.ex
  ⟨C, f, fd, a.mono hj, b⟩
def Qi (c m : Str) (n : Nat) (F : List D → Res D) (fo : Sl → Res D) (g : Sl → Res (List D)) : Sl → Res D := fun env => fo env >>= fun o => match o with
  | .obj c' ns vs => must (c' = c ∧ ns.contains m = false) (g env >>= fun ds => must (ds.length + 1 = n) (F (.obj c' ns vs :: ds)))
  | _ => .stuck
theorem KB {c m : Str} {n : Nat} {F : List D → Res D} {fo : Sl → Res D} {g : Sl → Res (List D)} {env : Sl} {d : D} (h : Qi c m n F fo g env = .ok d) : ∃ ns vs ds, fo env = .ok (.obj c ns vs) ∧ ns.contains m = false ∧ g env = .ok ds ∧ ds.length + 1 = n ∧ F (.obj c ns vs :: ds) = .ok d := by
  obtain ⟨o, h1, h⟩ := jc h
  cases o with
  | obj c' ns vs =>
    obtain ⟨⟨hc, h2⟩, h'⟩ := jB h
    subst hc
    obtain ⟨ds, h3, h''⟩ := jc h'
    obtain ⟨h4, h5⟩ := jB h''
    exact ⟨ns, vs, ds, h1, h2, h3, h4, h5⟩
  | _ => cases h
section
variable {X : Cx} {k n : Nat} {c m : Str} {ps : List Str} {fr : Bool} {F : List D → Res D} {o e : Expr} {es : List Expr} {pos apos : Pos} {fo : Sl → Res D} {g : Sl → Res (List D)} {pl : Sem Bool}
def noA : Sl → Res (List D) := fun _ => .ok []
theorem AvM.call0T (A : AvM X.prog X.w X.K X.mg X.base k c m ps true F) (hr : Room k X.A) (ho : DE X .s o fo) (hn : ps.length = n := by rfl)
    (ht : eval (.Call (.Attribute o m apos) [] [] pos) X.env = (do
      let ov ← eval o X.env
      standAt apos.atName
      let (f, first) ← holding [ov] (getMethod ov m pl)
      callWith pos f first (backTo pos (starEach [] X.env)) (backToKw pos (keywordEach [] X.env))) := by rfl) : DE X .t (.Call (.Attribute o m apos) [] [] pos) (Qi c m n F fo noA) := by
  subst hn
  obtain ⟨C, f, fd, h1, h2, h3, h4, h5⟩ := A.ex
  with_unfolding_all exact (
  PE.imp (Ui (E := fun _ _ _ => False) ho h3 h4 h1 hr h5 .nil Kh ht) fun σ H Q ⟨GG, H0, env, d, k, ef, q⟩ => by
    obtain ⟨ns, vs, ds, e1, e2, e3, e4, e5⟩ := KB ef
    cases e3
    refine ⟨GG, H0, env, _, k, e1, fun v H1 s1 r1 _ => ?_⟩
    obtain ⟨a, C', dx, fs, rfl, hx, _, hc, hn, rs⟩ := r1.objE
    rw [h2] at hc; cases hc
    refine ⟨a, dx, fs, rfl, hx, Zg (by rw [hn]; exact e2), ?_⟩
    show spF X.K true ps.length F [.ref a] H1 Q (fun _ _ _ => False)
    exact ⟨_, [_], d, by simp [← e4], .cons r1 .nil, e5, fun v H3 s3 r3 nt => q v H3 (s1.trans s3) (r3.weak fun c z => z.elim (fun z => k.new c (Same.free s1 z)) fun z => z) ((nt rfl).grow s1)⟩)
end
section
variable {P : Program} {w : World} {K : PySem.W.Frag} {mg : Str → Option Value} {base : Heap}
theorem jbv {c m qual : Str} {st : Stmt} {C f : Addr} {fd : FuncData} {N ps : List Str} {k : Nat} (fr : Bool) {g : Sl → Res Out} (Fu : Fun K m qual st f fd) (hC : PySem.W.nsIn K mainGlobals c = some (some (.ref C))) (cl : Cls K C) (me : Meth K C m f) (S : FnScope N ps (je st)) (hbi : Binds K fd ps [])
    (hb : ∀ (cdv : Value) (A : Around) (outer : List Env) (s : Shared) (H : Hp) (E : XK), Room k (A.deeper (envOfC qual (je st) s.heap.objs.size f cdv)) → DSs (cxOf CX0 P w K mg base N qual (je st) f cdv A outer s H E).nox (jD st) g) :
    AvM P w K mg base (k + 1) c m ps fr (runF fr N.length g) :=
  ⟨C, f, fd, uD Fu S hb fun ds d _ h => x9 h, hC, cl, me, hbi⟩
end
abbrev FO := D → List D → Res (D × D)
def spJ (K : PySem.W.Frag) (n : Nat) (F : FO) : Sp := fun vs H Q _ => ∃ (B : Addr → Prop) (ds : List D) (us : List V) (a : Addr) (d0 r d1 : D), vs = V.ref a :: us ∧ us.length = n ∧ Reps K (fun c => B c ∧ c ≠ a) H us ds ∧ Top K (fun c => B c ∧ c ≠ a) H a d0 ∧ F d0 ds = .ok (r, d1) ∧
  ∀ v H', (∀ c o, c ≠ a → H c = some o → H' c = some o) → Top K (fun c => (H c = none ∨ B c) ∧ c ≠ a) H' a d1 → Rep K (fun c => (H c = none ∨ B c) ∧ c ≠ a) H' v r → Q v H'
def xv (n : Nat) (d0 : D) (ds : List D) : Sl := .own d0 :: (ds.map .shr ++ List.replicate (n - ds.length - 1) .un)
theorem xk {n : Nat} {d0 : D} {ds : List D} {j : Nat} {s : Slot} (h : (xv n d0 ds)[j]? = some s) : (j = 0 ∧ s = .own d0) ∨ (∃ j' d, j = j' + 1 ∧ ds[j']? = some d ∧ s = .shr d) ∨ s = .un := by
  unfold xv at h
  cases j with
  | zero => simp at h; exact .inl ⟨rfl, h.symm⟩
  | succ j =>
    rw [List.getElem?_cons_succ] at h
    by_cases q : j < ds.length
    · rw [List.getElem?_append_left (by simpa using q), List.getElem?_map] at h
      cases e : ds[j]? with
      | none => rw [e] at h; cases h
      | some x => rw [e] at h; cases h; exact .inr (.inl ⟨j, x, rfl, e, rfl⟩)
    · rw [List.getElem?_append_right (by simpa using q), List.getElem?_replicate] at h
      split at h
      · cases h; exact .inr (.inr rfl)
      · cases h
theorem Yq {K : PySem.W.Frag} {B : Addr → Prop} {N : List Str} {us : List V} {ds : List D} {a : Addr} {d0 : D} {H : Hp} (r : Reps K (fun c => B c ∧ c ≠ a) H us ds) (t : Top K (fun c => B c ∧ c ≠ a) H a d0) (hN : ds.length + 1 ≤ N.length) :
    EnvOk K (fun c => H c = none ∨ c = a ∨ B c) (fun c => if c = a then none else H c) (xv N.length d0 ds) (start N (V.ref a :: us)) H ∧ At (start N (V.ref a :: us)) 0 a := by
  have hl := r.length
  have hat : At (start N (V.ref a :: us)) 0 a := by
    show (L2.start N (V.ref a :: us))[0]? = _
    unfold L2.start
    simp
  have hget : ∀ (j : Nat) (v : V), us[j]? = some v → (start N (V.ref a :: us))[j + 1]? = some (some v) := fun j v h => by
    have hj := (List.getElem?_eq_some_iff.mp h).1
    unfold L2.start
    rw [List.getElem?_append_left (by simp; omega), List.getElem?_map, List.getElem?_cons_succ, h]
    rfl
  have own1 : ∀ c, zM (xv N.length d0 ds) (start N (V.ref a :: us)) c → c = a := fun c ⟨j, d, h1, h2⟩ => by
    rcases xk h1 with ⟨rfl, _⟩ | ⟨_, _, _, _, z⟩ | z
    · rw [hat] at h2; cases h2; rfl
    · cases z
    · cases z
  have w : ∀ c, B c ∧ c ≠ a → Sf (fun c => H c = none ∨ c = a ∨ B c) (xv N.length d0 ds) (start N (V.ref a :: us)) c := fun c z => ⟨fun o => z.2 (own1 c o), .inr (.inr z.1)⟩
  refine ⟨⟨?_, fun c o e => ?_, fun c e => ?_, fun j d h => ?_, fun j d h => ?_, fun j j' d e b h1 h2 h3 h4 => ?_⟩, hat⟩
  · simp [L2.start, xv, hl]; omega
  · split at e
    · cases e
    · exact e
  · split at e
    · rename_i z; exact .inr (.inl z)
    · exact .inl e
  · rcases xk h with ⟨_, z⟩ | ⟨j', d', rfl, e, z⟩ | z
    · cases z
    · cases z
      obtain ⟨v, h1, h2⟩ := r.get e
      exact ⟨v, hget j' v h1, h2.weak w⟩
    · cases z
  · rcases xk h with ⟨rfl, z⟩ | ⟨j', d', _, e, z⟩ | z
    · cases z
      exact ⟨a, hat, if_pos rfl, t.stay (fun _ _ e _ => e) w fun _ e => e⟩
    · cases z
    · cases z
  · have real : ∀ (j : Nat) (d : D), (xv N.length d0 ds)[j]? = some (.own d) → j = 0 := fun j d h => by
      rcases xk h with ⟨z, _⟩ | ⟨_, _, _, _, z⟩ | z
      · exact z
      · cases z
      · cases z
    rw [real j d h1, real j' e h2]
def Y0 : Sl → Res D
  | .own d :: _ => .ok d
  | _ => .stuck
theorem YZ {env : Sl} {d : D} (h : Y0 env = .ok d) : env[0]? = some (.own d) := by
  unfold Y0 at h
  split at h
  · cases h; rfl
  · cases h
def runJ (N n : Nat) (g : Sl → Res OutO) : FO := fun d0 ds => must (ds.length = n) (g (xv N d0 ds) >>= fun o => match o with
  | .nx env => Y0 env >>= fun d => .ok (.non, d)
  | .rt r env => Y0 env >>= fun d => .ok (r, d))
section
variable {P : Program} {w : World} {K : PySem.W.Frag} {mg : Str → Option Value} {base : Heap}
theorem jbe {m qual : Str} {st : Stmt} {f : Addr} {fd : FuncData} {N ps : List Str} {k n : Nat} {g : Sl → Res OutO} (Fu : Fun K m qual st f fd) (S : FnScope N ps (je st)) (hn : ps.length = n + 1) (hN : n + 1 ≤ N.length)
    (hb : ∀ (cdv : Value) (A : Around) (outer : List Env) (s : Shared) (H : Hp) (E : XK), Room k (A.deeper (envOfC qual (je st) s.heap.objs.size f cdv)) → DSsO (cxOf CX0 P w K mg base N qual (je st) f cdv A outer s H E).nox 0 (jD st) g) :
    FnOk P w K mg base CX0 (k + 1) f fd ps (spJ K n (runJ N.length n g)) := by
  with_unfolding_all exact (by
  refine Fu.ok S (fun vs H Q E ⟨B, ds, us, a, d0, r, d1, ev, hl, _⟩ => by rw [ev, List.length_cons, hl, hn]) (fun cdv A outer s H vs Q E hr h => ?_)
  obtain ⟨B, ds, us, a, d0, r, d1, ev, hl, rs, t, eF, q⟩ := h
  refine ⟨_, hb cdv A outer s H E hr, ?_⟩
  obtain ⟨e0, eF⟩ := jB eF
  obtain ⟨o, e1, eF⟩ := jc eF
  subst ev
  obtain ⟨kk, hat⟩ := Yq (N := N) rs t (by omega)
  have fin : ∀ (env' : Sl) (σ' : L2.St) (H' : Hp) (v : V), EnvOk K (fun c => H c = none ∨ c = a ∨ B c) (fun c => if c = a then none else H c) env' σ' H' → At σ' 0 a → Y0 env' = .ok d1 → Rep K (Sf (fun c => H c = none ∨ c = a ∨ B c) env' σ') H' v r → Q v H' := fun env' σ' H' v k' a' e2 rv => by
    have hi := YZ e2
    obtain ⟨a2, h1, _, t2⟩ := k'.own 0 _ hi
    rw [a'] at h1; cases h1
    have ww : ∀ c, Sf (fun c => H c = none ∨ c = a ∨ B c) env' σ' c → (H c = none ∨ B c) ∧ c ≠ a := fun c z => by
      have hca : c ≠ a := by
        rintro rfl
        exact z.1 ⟨0, _, hi, a'⟩
      refine ⟨?_, hca⟩
      rcases z.2 with z | z | z
      · exact .inl z
      · exact absurd z hca
      · exact .inr z
    exact q v H' (fun c o hc e => k'.base c o (by rw [if_neg hc]; exact e)) (t2.stay (fun _ _ e _ => e) ww fun _ e => e) (rv.weak ww)
  refine ⟨_, _, _, o, a, kk, hat, e1, ?_⟩
  cases o with
  | nx env' =>
    obtain ⟨d, e2, e3⟩ := jc eF
    cases e3
    exact fun σ' H' k' a' f' => fin env' σ' H' .non k' a' e2 .non
  | rt r' env' =>
    obtain ⟨d, e2, e3⟩ := jc eF
    cases e3
    exact fun v σ' H' k' a' f' rv => fin env' σ' H' v k' a' e2 rv)
end
structure AvK (P : Program) (w : World) (K : PySem.W.Frag) (mg : Str → Option Value) (base : Heap) (k : Nat) (c : Str) (n : Nat) (F : FO) : Prop where
  ex : ∃ C f fd ps, FnOk P w K mg base CX0 k f fd ps (spJ K n F) ∧ PySem.W.nsIn K mainGlobals c = some (some (.ref C)) ∧ mg c = some (.ref C) ∧ Mk K C f ∧ Binds K fd ps []
def Yf (c : Str) (n : Nat) (F : FO) (g : Sl → Res (List D)) : Sl → Res D := fun env => g env >>= fun ds => must (ds.length = n) (F (.obj c [] []) ds >>= fun q => match q with
  | (.non, d) => .ok d
  | _ => .stuck)
section
variable {X : Cx} {k n : Nat} {c : Str} {F : FO} {e : Expr} {es : List Expr} {pos p : Pos} {g : Sl → Res (List D)}
theorem AvK.make (A : AvK X.prog X.w X.K X.mg X.base k c n F) (hr : Room (k + 1) X.A) (ha : DA X .s (e :: es) g) (hg : Gl X c := by rfl) (hdb : (c == ("__debug__" : Str)) = false := by decide)
    (he : starEach (e :: es) X.env = (false, eval e X.env) :: starEach es X.env := by exact jx rfl) (hpl : (backTo pos (starEach es X.env)).any (·.1) = false := by exact jR rfl) :
    DE X .t (.Call (.Name c p) (e :: es) [] pos) (Yf c n F g) := by
  obtain ⟨C, f, fd, ps, h1, h2, h3, h4, h5⟩ := A.ex
  with_unfolding_all exact (
  PE.imp (vX (E := fun _ _ _ => False) h4 h1 hr hg h3 h5 .nil Kh ha hdb he hpl) fun σ H Q ⟨G, H0, env, d, k, ef, q⟩ => by
    obtain ⟨ds, e1, ef⟩ := jc ef
    obtain ⟨hn, ef⟩ := jB ef
    obtain ⟨⟨r, d1⟩, e2, ef⟩ := jc ef
    cases r with
    | non =>
      cases ef
      refine ⟨G, H0, env, ds, k, e1, fun vs H1 s1 r1 x dx hx hdx ne => ?_⟩
      have S : Same H1 (upd (upd H1 dx (.own x)) x (.ins C dx [])) := fun b o eb => by
        rw [jJ (qf eb hx), jJ (qf eb hdx)]; exact eb
      have kx : Sf G env σ x := k.new x (Same.free s1 hx)
      have rr := r1.inDom.grow S
      show spJ X.K n F (V.ref x :: (vs ++ [])) _ _ (fun _ _ _ => False)
      rw [List.append_nil]
      refine ⟨Sf G env σ, ds, vs, x, _, .non, d, rfl, by rw [r1.length]; exact hn, rr.weak fun b z => ⟨z.1, by rintro rfl; exact z.2 hx⟩, .obj jA ⟨h2, rfl⟩ rfl .nil, e2, fun v H' hs t rv => ⟨rv.nonE, ?_⟩⟩
      have sH : Same H H' := fun b o eb => hs b o (qf (s1 b o eb) hx) (S b o (s1 b o eb))
      refine q _ H' sH (t.rep (fun b z => ⟨z.1.elim (fun z => k.new b (Same.free s1 (Same.free S z))) fun z => z, z.2⟩) kx) fun b eb o qb m => ?_
      cases eb
      rw [s1 _ _ qb] at hx; cases hx
    | _ => cases ef)
end
section
variable {P : Program} {w : World} {K : PySem.W.Frag} {mg : Str → Option Value} {base : Heap}
theorem jbw {c m qual : Str} {st : Stmt} {C f : Addr} {fd : FuncData} {N ps : List Str} {k n : Nat} {g : Sl → Res OutO} (Fu : Fun K m qual st f fd) (hC : PySem.W.nsIn K mainGlobals c = some (some (.ref C))) (hmg : mg c = some (.ref C)) (mk : Mk K C f) (S : FnScope N ps (je st)) (hbi : Binds K fd ps []) (hn : ps.length = n + 1) (hN : n + 1 ≤ N.length)
    (hb : ∀ (cdv : Value) (A : Around) (outer : List Env) (s : Shared) (H : Hp) (E : XK), Room k (A.deeper (envOfC qual (je st) s.heap.objs.size f cdv)) → DSsO (cxOf CX0 P w K mg base N qual (je st) f cdv A outer s H E).nox 0 (jD st) g) :
    AvK P w K mg base (k + 1) c n (runJ N.length n g) :=
  ⟨C, f, fd, ps, jbe Fu S hn hN hb, hC, hmg, mk, hbi⟩
end
end M
namespace M
open PySem PySem.Spec L2
open PyProof.Rows hiding St
section
variable {prog : Program} {w : World} {A : Around} {E : Value → Shared → Prop} {s : Shared}
structure SetI (h : Heap) (a : Addr) (es : Array (Int × Value)) (ep : Nat) (t : SetTable) : Prop where
  ex : ∃ o, h.get? a = some o ∧ o.ExactSet ∧ o.data = .set es ep t
  el : ∀ e ∈ es.toList, ∃ k tk, e.2 = .int k tk ∧ e.1 = hashInt k
  bd : es.size < scanBound
  ft : t.fits es.size = true
theorem SetI.of {a : Addr} {S : Int → Bool} {n : Nat} {h : Heap} (hS : h.SetOf (intKind prog w) a S n) : ∃ es ep t, SetI h a es ep t ∧ es.size = n ∧ (∀ k, S k = true ↔ ∃ e ∈ es.toList, (intKind prog w).is k e.2 = true) := by
  obtain ⟨o, es, ep, t, ho, hx, hd, hel, hm, hb, hf, hn⟩ := hS
  refine ⟨es, ep, t, ⟨⟨o, ho, hx, hd⟩, fun e he => ?_, hb, hf⟩, hn, hm⟩
  obtain ⟨⟨k, h1, h2⟩, _⟩ := hel e he
  obtain ⟨tk, h3⟩ := Value.isInt_shape h1
  exact ⟨k, tk, h3, h2⟩
theorem SetI.state {a : Addr} {es : Array (Int × Value)} {ep : Nat} {t : SetTable} (h : SetI s.heap a es ep t) {Q : (Array (Int × Value) × Nat × SetTable) → Shared → Prop} (hq : Q (es, ep, t) s) : wpAny (model prog w) A (setState a) Q E s := by
  obtain ⟨o, ho, _, hd⟩ := h.ex
  exact wpAny_setState_of ho hd h.ft hq
theorem yM {es : Array (Int × Value)} (hel : ∀ e ∈ es.toList, ∃ k tk, e.2 = .int k tk ∧ e.1 = hashInt k) {β : Type} {b0 : β} {f : Int × Value → β → Sem (ForInStep β)} {Q : β → Shared → Prop}
    (hf : ∀ h k tk, f (h, .int k tk) b0 = pure (.yield b0)) (hq : Q b0 s) : wpAny (model prog w) A (forIn es b0 f) Q E s := by
  refine MeetsSeq2.wpAny_forIn_array f (fun rest b s' => b = b0 ∧ s' = s ∧ ∀ e ∈ rest, e ∈ es.toList) Q ?_ ?_ es b0 ⟨rfl, rfl, fun _ h => h⟩
  · rintro ⟨h, x⟩ rest b s' ⟨rfl, rfl, hm⟩
    obtain ⟨k, tk, e1, e2⟩ := hel _ (hm _ List.mem_cons_self)
    dsimp only at e1
    subst e1
    rw [hf]
    exact wpAny_pure ⟨rfl, rfl, fun e he => hm e (List.mem_cons_of_mem _ he)⟩
  · rintro b s' ⟨rfl, rfl, _⟩; exact hq
theorem X3 {a b c : Addr} {e1 e2 e3 : Array (Int × Value)} {p1 p2 p3 : Nat} {t1 t2 t3 : SetTable} (h1 : SetI s.heap a e1 p1 t1) (h2 : SetI s.heap b e2 p2 t2) (h3 : SetI s.heap c e3 p3 t3) {Q : Bool → Shared → Prop} (hq : Q true s) :
    wpAny (model prog w) A (setsQuiet [a, b, c]) Q E s := by
  unfold setsQuiet setEntries
  simp only [List.forIn_cons, List.forIn_nil, bind_assoc, pure_bind]
  refine wpAny_bind (h1.state ?_)
  refine wpAny_bind (yM h1.el (fun _ _ _ => rfl) ?_)
  dsimp only
  simp only [pure_bind, bind_assoc]
  refine wpAny_bind (h2.state ?_)
  refine wpAny_bind (yM h2.el (fun _ _ _ => rfl) ?_)
  dsimp only
  simp only [pure_bind, bind_assoc]
  refine wpAny_bind (h3.state ?_)
  refine wpAny_bind (yM h3.el (fun _ _ _ => rfl) ?_)
  dsimp only
  simp only [pure_bind, bind_assoc]
  exact wpAny_pure hq
theorem Ke {α : Type} (next : Nat → Nat) : ∀ (fuel k : Nat) (left : List α) (out : Array α) (x : α), x ∈ (pickOrder.go next fuel k left out).toList → x ∈ left ∨ x ∈ out.toList
  | 0, _, _, out, x, h => .inr h
  | fuel + 1, k, left, out, x, h => by
    unfold pickOrder.go at h
    split at h
    · rename_i y e
      rcases Ke next fuel (k + 1) _ _ x h with z | z
      · exact .inl (List.mem_of_mem_eraseIdx z)
      · rw [Array.toList_push, List.mem_append] at z
        rcases z with z | z
        · exact .inr z
        · rw [List.mem_singleton] at z; subst z
          exact .inl (List.mem_of_getElem? e)
    · exact .inr h
theorem Ug {α : Type} {next : Nat → Nat} {xs : Array α} {x : α} (h : x ∈ (pickOrder next xs).toList) : x ∈ xs.toList := by
  rcases Ke next _ _ _ _ x h with z | z
  · exact z
  · simp at z
theorem QQ {a : Addr} {ea : Array (Int × Value)} {pa : Nat} {ta : SetTable} (hA : SetI s.heap a ea pa ta) (hc : w.params.followText "set-order" = true ∨ ((!ta.plain && decide (ea.size > 1)) = false ∧ (!ta.led && decide (ea.size > 1)) = false)) {Q : Array (Int × Value) → Shared → Prop}
    (h : ∀ ws : Array (Int × Value), (∀ e ∈ ws.toList, e ∈ ea.toList) → Q ws s) : wpAny (model prog w) A (setWalk a) Q E s := by
  unfold setWalk setsByText
  refine wpAny_bind (hA.state ?_)
  dsimp only
  simp only [bind_assoc, pure_bind]
  refine wpAny_bind (wpAny_askSetting ?_)
  dsimp only
  cases ht : (model prog w).w.params.followText "set-order" with
  | true =>
    simp only [if_true]
    refine wpAny_bind (wpAny_askSetting (wpAny_pure (h _ fun e he => Ug he)))
  | false =>
    simp only [Bool.false_eq_true, if_false]
    rcases hc with hc | ⟨h1, h2⟩
    · rw [show (model prog w).w.params.followText "set-order" = w.params.followText "set-order" from rfl, hc] at ht; cases ht
    · show wpAny _ _ (if (!ta.plain && decide (ea.size > 1)) = true then _ else _) _ _ _
      rw [h1]
      simp only [Bool.false_eq_true, if_false]
      show wpAny _ _ ((if (!ta.led && decide (ea.size > 1)) = true then unsupported "set:maker-not-led" else pure ()) >>= fun _ => pure ea) _ _ _
      rw [h2]
      simp only [Bool.false_eq_true, if_false, pure_bind]
      exact wpAny_pure (h _ fun _ z => z)
theorem SetI.keep {h h' : Heap} {a : Addr} {es : Array (Int × Value)} {ep : Nat} {t : SetTable} (x : SetI h a es ep t) (k : ∀ o, h.get? a = some o → h'.get? a = some o) : SetI h' a es ep t :=
  let ⟨o, h1, h2⟩ := x.ex
  ⟨⟨o, k o h1, h2⟩, x.el, x.bd, x.ft⟩
theorem yI {a o f : Addr} {ea eo : Array (Int × Value)} {pa po pf : Nat} {ta to_ tf : SetTable} (hA : SetI s.heap a ea pa ta) (hO : SetI s.heap o eo po to_) (hF : SetI s.heap f #[] pf tf) {Q : Array (Int × Value) → Shared → Prop}
    (h : ∀ (ws : Array (Int × Value)) (h' : Heap), (∀ e ∈ ws.toList, e ∈ ea.toList) → (∀ b ob, b ≠ f → s.heap.get? b = some ob → h'.get? b = some ob) → (∃ pf' tf', SetI h' f #[] pf' tf') → Q ws { s with heap := h' }) :
    wpAny (model prog w) A (setWalkUnseen a [o, f] (some f)) Q E s := by
  unfold setWalkUnseen setsByText
  refine wpAny_bind (hA.state ?_)
  dsimp only
  simp only [bind_assoc, pure_bind]
  refine wpAny_bind (wpAny_askSetting ?_)
  dsimp only
  have fin : ∀ ws : Array (Int × Value), (∀ e ∈ ws.toList, e ∈ ea.toList) → Q ws s := fun ws z => h ws s.heap z (fun _ _ _ e => e) ⟨_, _, hF⟩
  by_cases hc : ((model prog w).w.params.followText "set-order" || ta.led && ta.plain || decide (ea.size ≤ 1)) = true
  · rw [if_pos hc]
    refine QQ hA ?_ fun ws hw => fin ws hw
    simp only [Bool.or_eq_true, Bool.and_eq_true, decide_eq_true_eq] at hc
    rcases hc with (hc | ⟨h1, h2⟩) | hc
    · exact .inl hc
    · exact .inr ⟨by simp [h2], by simp [h1]⟩
    · have : ¬ (ea.size > 1) := by omega
      exact .inr ⟨by simp [this], by simp [this]⟩
  · rw [if_neg hc]
    refine wpAny_bind (X3 hA hO hF ?_)
    simp only [Bool.not_true, Bool.false_eq_true, if_false]
    refine wpAny_bind (wpAny_rule ?_)
    refine wpAny_bind (hF.state ?_)
    dsimp only
    split
    · obtain ⟨ob, ho, hx, hd⟩ := hF.ex
      refine wpAny_bind (wpAny_storeSet_of ho hd ?_ (by simp))
      refine wpAny_pure (h ea _ (fun _ z => z) (fun b ob hb e => Heap.get?_update_of_ne _ (Ne.symm hb) e) ?_)
      have hft : ({ tf with led := tf.led && ta.led, plain := tf.plain && ta.plain } : SetTable).fits (#[] : Array (Int × Value)).size = true := by
        have := hF.ft
        cases tf; exact this
      obtain ⟨g1, _⟩ := SetOf_store (knd := intKind prog w) (S' := fun _ => false) ho hx hd (es' := #[]) (t' := { tf with led := tf.led && ta.led, plain := tf.plain && ta.plain }) (fun e he => by simp at he) (fun k => by simp) (by decide) hft
      exact ⟨_, _, ⟨⟨_, g1, hx, rfl⟩, fun e he => by simp at he, by decide, hft⟩⟩
    · exact wpAny_pure (fin _ fun _ z => z)
theorem JM (k : Int) (tk : Tok) : (intKind prog w).is k (.int k tk) = true := by
  with_unfolding_all exact (beq_self_eq_true k)
theorem VO {a : Addr} (hT : s.TypeIs (.ref a) "set") {Q : Bool → Shared → Prop} (h : Q true s) : wpAny (model prog w) A (Builtin.Frozenset.isAnySet (.ref a)) Q E s := by
  unfold Builtin.Frozenset.isAnySet
  unfold orM
  refine wpAny_bind (wpAny_isInstance hT F.sub_set_set ?_)
  exact wpAny_pure h
theorem Ji {id : String} {a o : Addr} {SA SO : Int → Bool} {na no : Nat} (hA : s.heap.SetOf (intKind prog w) a SA na) (hO : s.heap.SetOf (intKind prog w) o SO no) (hs : ∀ k, SA k = true → SO k = true) (hn : ¬ na / 4 > no) {Q : Value → Shared → Prop}
    (h : ∀ (h' : Heap), (∀ b ob, b < s.heap.objs.size → s.heap.get? b = some ob → h'.get? b = some ob) → (∃ pf' tf', SetI h' s.heap.objs.size #[] pf' tf') → Q (.ref s.heap.objs.size) { s with heap := h' }) :
    wpAny (model prog w) A (Builtin.Frozenset.difference id a (.ref o)) Q E s := by
  have tA : s.TypeIs (.ref a) "set" := hA.typeIs
  have tO : s.TypeIs (.ref o) "set" := hO.typeIs
  obtain ⟨ea, pa, ta, iA, rfl, mA⟩ := SetI.of hA
  obtain ⟨eo, po, to_, iO, rfl, mO⟩ := SetI.of hO
  unfold Builtin.Frozenset.difference Builtin.Frozenset.sizeOf Builtin.Frozenset.addrOf setEntries Builtin.Frozenset.baseOf setEpoch
  dsimp only
  refine wpAny_bind (VO tO ?_)
  simp only [Bool.not_true, Bool.false_eq_true, if_false, pure_bind, bind_assoc, Bool.false_and, if_true]
  refine wpAny_bind (iO.state ?_)
  refine wpAny_bind (iA.state ?_)
  dsimp only
  rw [if_neg hn]
  refine wpAny_bind (wpAny_isInstance tA F.sub_set_set ?_)
  simp only [if_true]
  refine wpAny_bind (wpAny_newSet_of (knd := intKind prog w) fun led hS => ?_)
  simp only [pure_bind]
  obtain ⟨er, pr, tr, iR, hz, _⟩ := SetI.of hS
  have her : er = #[] := Array.eq_empty_of_size_eq_zero hz
  subst her
  have kp : ∀ b ob, s.heap.get? b = some ob → (s.heap.push { cls := .type "set", dict := none, data := .set #[] 0 (.fresh 0 0 led) }).get? b = some ob := fun b ob e => Heap.get?_push_of_some _ e
  have iA1 := iA.keep (kp a)
  have iO1 := iO.keep (kp o)
  have lA : a < s.heap.objs.size := let ⟨_, e, _⟩ := iA.ex; Heap.lt_size e
  have lO : o < s.heap.objs.size := let ⟨_, e, _⟩ := iO.ex; Heap.lt_size e
  refine wpAny_bind (iA1.state ?_)
  refine wpAny_bind (wpAny_holding ?_)
  refine wpAny_bind (yI iA1 iO1 iR fun ws h' hw hk ⟨pf', tf', iF⟩ => ?_)
  have iA2 := iA1.keep (h' := h') fun ob e => hk _ _ (Nat.ne_of_lt lA) e
  have hO2 : h'.SetOf (intKind prog w) o SO eo.size := by
    obtain ⟨ob, es, ep, t, ho, hx, hd, rest⟩ := hO
    exact ⟨ob, es, ep, t, hk _ _ (Nat.ne_of_lt lO) (kp _ _ ho), hx, hd, rest⟩
  have hQ := h h' (fun b ob hb e => hk b ob (Nat.ne_of_lt hb) (kp b ob e)) ⟨pf', tf', iF⟩
  refine wpAny_bind (MeetsSeq2.wpAny_forIn_array _ (fun rest b s' => s' = { s with heap := h' } ∧ ∀ e ∈ rest, e ∈ ea.toList) _ ?_ ?_ ws _ ⟨rfl, hw⟩)
  · rintro ⟨hh, x⟩ rest b s' ⟨rfl, hm⟩
    have hme := hm _ List.mem_cons_self
    obtain ⟨k, tk, e1, e2⟩ := iA.el _ hme
    dsimp only at e1 e2
    subst e1; subst e2
    refine wpAny_bind (wpAny_holding ?_)
    have hSO : SO k = true := hs k ((mA k).mpr ⟨_, hme, JM (prog := prog) (w := w) k tk⟩)
    refine wpAny_bind (wpAny_setFind_of (knd := intKind prog w) (k := k) (JM (prog := prog) (w := w) k tk) rfl hO2 fun r hr => ?_)
    rw [hr, hSO]
    simp only [pure_bind, Bool.not_true, Bool.false_eq_true, if_false]
    refine wpAny_pure ?_
    unfold Builtin.Frozenset.unchanged setEpoch
    simp only [bind_assoc, pure_bind]
    refine wpAny_bind (iA2.state ?_)
    dsimp only
    simp only [bne_self_eq_false, Bool.false_eq_true, if_false, pure_bind]
    exact wpAny_pure ⟨rfl, fun e he => hm e (List.mem_cons_of_mem _ he)⟩
  · rintro b s' ⟨rfl, _⟩
    exact wpAny_pure (wpAny_pure hQ)
theorem Qz : entryFor table "set.__sub__" = some Builtin.«frozenset.__sub__» :=
  entryFor_alias (id' := "frozenset.__sub__") (by kernel_rfl) rfl (by decide +kernel) (by kernel_rfl)
theorem VV {a o : Addr} {SA SO : Int → Bool} {na no : Nat} (hA : s.heap.SetOf (intKind prog w) a SA na) (hO : s.heap.SetOf (intKind prog w) o SO no) (hs : ∀ k, SA k = true → SO k = true) (hn : ¬ na / 4 > no) {Q : Value → Shared → Prop}
    (h : ∀ (h' : Heap), (∀ b ob, b < s.heap.objs.size → s.heap.get? b = some ob → h'.get? b = some ob) → (∃ pf' tf', SetI h' s.heap.objs.size #[] pf' tf') → Q (.ref s.heap.objs.size) { s with heap := h' }) :
    wpAny (model prog w) A (binaryOp .Sub (.ref a) (.ref o)) Q E s := by
  refine wpAny_binaryOp_same (op := .Sub) hA.typeIs hO.typeIs F.fills_set_sub F.slot_set_sub (wpAny_call_entry F.slot_set_sub hA.typeIs Qz ?_ (F.args_set_sub_2 _ _))
  show wpAny _ _ (do
    let (self, other) ← Builtin.Frozenset.slot1 "__sub__" ⟨[.ref a, .ref o], []⟩
    let (l, r) := (self, other)
    if !(← Builtin.Frozenset.isAnySet l <&&> Builtin.Frozenset.isAnySet r) then rule s!"frozenset.{"__sub__"}.declined"; return ← ret .notImplemented
    ret (← Builtin.Frozenset.difference s!"frozenset.{"__sub__"}" (← Builtin.Frozenset.addrOf l) r)) _ _ _
  unfold Builtin.Frozenset.slot1 slotArgs
  simp only [List.isEmpty_nil, Bool.not_true, Bool.false_eq_true, if_false, bind_assoc, List.length_cons, List.length_nil, bne_self_eq_false, pure_bind]
  unfold andM
  simp only [bind_assoc]
  refine wpAny_bind (VO hA.typeIs ?_)
  dsimp only [ToBool.toBool]
  refine wpAny_bind (VO hO.typeIs ?_)
  simp only [Bool.not_true, Bool.false_eq_true, if_false]
  unfold Builtin.Frozenset.addrOf
  simp only [pure_bind]
  refine wpAny_bind (Ji hA hO hs hn fun h' hk hi => ?_)
  exact wpAny_pure ⟨_, rfl, by simp, h h' hk hi⟩
end
theorem SetI.setOf {prog : Program} {w : World} {h : Heap} {a : Addr} {pf : Nat} {tf : SetTable} (x : SetI h a #[] pf tf) : h.SetOf (intKind prog w) a (fun _ => false) 0 := by
  obtain ⟨o, h1, h2, h3⟩ := x.ex
  exact ⟨o, #[], pf, tf, h1, h2, h3, fun e he => by simp at he, fun k => by simp, by decide, x.ft, rfl⟩
def dd (ns : List Int) : List Int := firstMet (fun i => ns.getD i 0) ns.length
theorem jbq (ns : List Int) (k : Int) : (dd ns).any (· == k) = ns.any (· == k) := by
  unfold dd
  rw [firstMet_any]
  congr 1
  apply List.ext_getElem
  · simp
  · intro i h1 h2
    simp [List.getElem?_eq_getElem h2]
section
variable {X : Cx}
theorem Xc : ∀ {is : List Int} {us : List Value}, Vals (is.map V.int) us → IntsAre us is
  | [], _, .nil => .nil
  | i :: is, _, .cons h t => by
    obtain ⟨k, rfl⟩ := h
    exact .cons i k (Xc t)
theorem ZF (hc : X.calm = true) : CallR X (.type "set") (fun xs H Q => ∃ (p : Addr) (is : List Int), xs = [.ref p] ∧ SqL X.K H p (is.map V.int) ∧ is.length + 1 < scanBound ∧ ∀ l, H l = none → Q (.ref l) (upd H l (.set (fun k => is.any (· == k)) (dd is).length))) := by
  intro pins s σ H xs us Q I r ⟨p, is, ex, hq, hz, q⟩
  subst ex
  obtain ⟨u, rfl, ru⟩ := yq r
  cases ru
  obtain ⟨its, rv, pl, _⟩ := I.list hq
  obtain ⟨v1, v2⟩ := WE rv
  refine call_set_list (ns := is) (I.ok.hd hc) pl.isList (by simpa using Xc rv) (by simp only [List.size_toArray]; rw [v1]; exact hz) fun h' tk hS hk => ?_
  have hl : H s.heap.objs.size = none := I.hok.fresh (Nat.le_refl _)
  have hS' : h'.SetOf (intKind X.prog X.w) s.heap.objs.size (fun k => is.any (· == k)) (dd is).length := by
    refine SetOf_congr hS (fun k => ?_) ?_
    · simp only [List.size_toArray, v1]; exact jbq is k
    · simp only [List.size_toArray, v1]; rfl
  exact ⟨.ref s.heap.objs.size, _, I.laid (t' := tk) (fun b o e => hk b o (Heap.lt_size e) e) (Nat.le_refl _) (show ObjOk X.prog X.w _ h' _ (.set _ _) from hS'), rfl, q _ hl⟩
theorem v9 : OpR X (binaryOp .Sub) (fun x y H Q => ∃ a b S n S' n', x = .ref a ∧ y = .ref b ∧ H a = some (.set S n) ∧ H b = some (.set S' n') ∧ (∀ k, S k = true → S' k = true) ∧ ¬ n / 4 > n' ∧ ∀ l, H l = none → Q (.ref l) (upd H l (.set (fun _ => false) 0))) := by
  intro pins s σ H x y v u Q I rx ry ⟨a, b, S, n, S', n', ex, ey, ha, hb, hs, hn, q⟩
  subst ex; subst ey
  cases rx; cases ry
  have hA : s.heap.SetOf (intKind X.prog X.w) a S n := I.hok a _ ha
  have hB : s.heap.SetOf (intKind X.prog X.w) b S' n' := I.hok b _ hb
  refine VV hA hB hs hn fun h' hk ⟨pf, tf, hi⟩ => ?_
  have hl : H s.heap.objs.size = none := I.hok.fresh (Nat.le_refl _)
  exact ⟨.ref s.heap.objs.size, _, I.laid (t' := s.toks) (fun b o e => hk b o (Heap.lt_size e) e) (Nat.le_refl _) (show ObjOk X.prog X.w _ h' _ (.set _ _) from hi.setOf), rfl, q _ hl⟩
theorem VG : CallR X (.builtin "len") (fun xs H Q => ∃ a S n, xs = [.ref a] ∧ H a = some (.set S n) ∧ Q (.int n) H) := by
  intro pins s σ H xs us Q I r ⟨a, S, n, ex, ha, q⟩
  subst ex
  obtain ⟨u, rfl, ru⟩ := yq r
  cases ru
  have hA : s.heap.SetOf (intKind X.prog X.w) a S n := I.hok a _ ha
  obtain ⟨o, es, ep, t, ho, hx, hd, hel, hm, hb, hf, hn⟩ := hA
  subst hn
  have h1 : scanBound = 4096 := rfl
  exact call_len_set ho hx hd hf (by rw [h1] at hb; omega) ⟨.int es.size, H, I.tok _, ⟨_, rfl⟩, q⟩
def subL (a b : D) : Res D := match a, b with
  | .lst x, .lst y => match y9 x, y9 y with
    | some u, some v => must (u.length + 1 < scanBound ∧ v.length + 1 < scanBound ∧ (∀ i ∈ u, i ∈ v) ∧ ¬ (dd u).length / 4 > (dd v).length) (.ok (.int 0))
    | _, _ => .stuck
  | _, _ => .stuck
theorem VW {a b d : D} (h : subL a b = .ok d) : ∃ u v : List Int, a = .lst (u.map D.int) ∧ b = .lst (v.map D.int) ∧ (u.length + 1 < scanBound ∧ v.length + 1 < scanBound ∧ (∀ i ∈ u, i ∈ v) ∧ ¬ (dd u).length / 4 > (dd v).length) ∧ d = .int 0 := by
  unfold subL at h
  split at h
  · rename_i x y
    split at h
    · rename_i u v e1 e2
      obtain ⟨h1, h2⟩ := jB h
      cases h2
      exact ⟨u, v, by rw [yc e1], by rw [yc e2], h1, rfl⟩
    · cases h
  · cases h
variable {l1 l2 : Lv} {e1 e2 : Expr} {f1 f2 : Sl → Res D} {p1 p2 p3 q1 q2 q3 pos : Pos}
theorem Vv (hc : X.calm = true) (h1 : DE X l1 e1 f1) (h2 : DE X l2 e2 f2) (hgl : Gl X "len") (hml : X.mg "len" = none) (hgs : Gl X "set") (hms : X.mg "set" = none)
    (he0 : starEach [.BinOp (.Call (.Name "set" p1) [e1] [] q1) .Sub (.Call (.Name "set" p2) [e2] [] q2) pos] X.env = (false, eval (.BinOp (.Call (.Name "set" p1) [e1] [] q1) .Sub (.Call (.Name "set" p2) [e2] [] q2) pos) X.env) :: starEach [] X.env := by exact jx rfl)
    (he1 : starEach [e1] X.env = (false, eval e1 X.env) :: starEach [] X.env := by exact jx rfl) (he2 : starEach [e2] X.env = (false, eval e2 X.env) :: starEach [] X.env := by exact jx rfl) :
    DE X .b (.Call (.Name "len" p3) [.BinOp (.Call (.Name "set" p1) [e1] [] q1) .Sub (.Call (.Name "set" p2) [e2] [] q2) pos] [] q3) (two f1 f2 subL) := by
 with_unfolding_all exact (
  PE.imp (yw VG hgl hml rfl (qA (vW v9 (xK (ZF hc) hgs hms rfl (qA h1 wN he1) (by decide) (by decide) he1 rfl) (xK (ZF hc) hgs hms rfl (qA h2 wN he2) (by decide) (by decide) he2 rfl)) wN he0) (by decide) (by decide) he0 rfl) fun σ H Q ⟨G, H0, env, d, k, ef, q⟩ => by
    obtain ⟨a, c1, ef⟩ := jc ef
    obtain ⟨b, c2, c3⟩ := jc ef
    obtain ⟨u, v, rfl, rfl, ⟨z1, z2, z3, z4⟩, rfl⟩ := VW c3
    refine ⟨G, H0, env, _, k, c1, fun x1 H1 s1 r1 _ => ?_⟩
    obtain ⟨p, xs, rfl, hp, _, rs⟩ := (r1.weak (A' := Any) Lv.weak_b).lstE
    have ex := yL rs
    subst ex
    refine ⟨p, u, rfl, .inl (.inl hp), z1, fun l hl => ?_⟩
    have S1 := Same.upd (o := HO.set (fun k => u.any (· == k)) (dd u).length) hl
    refine ⟨G, H0, env, _, (k.grow s1).grow S1, c2, fun x2 H2 s2 r2 _ => ?_⟩
    obtain ⟨p', xs, rfl, hp', _, rs'⟩ := (r2.weak (A' := Any) Lv.weak_b).lstE
    have ex := yL rs'
    subst ex
    refine ⟨p', v, rfl, .inl (.inl hp'), z2, fun l' hl' => ?_⟩
    have S2 := Same.upd (o := HO.set (fun k => v.any (· == k)) (dd v).length) hl'
    refine ⟨l, l', _, _, _, _, rfl, rfl, S2 _ _ (s2 _ _ jA), jA, fun k hk => ?_, z4, fun l2 hl2 => ?_⟩
    · obtain ⟨i, hi, e⟩ := List.any_eq_true.mp hk
      exact List.any_eq_true.mpr ⟨i, z3 i hi, e⟩
    · have S3 := Same.upd (o := HO.set (fun _ => false) 0) hl2
      exact ⟨l2, _, 0, rfl, jA, q _ _ (s1.trans (S1.trans (s2.trans (S2.trans S3)))) (.int 0) trivial⟩)
end
end M
namespace M
open PySem PySem.Spec L2
open PyProof.Rows hiding St
open PySem.SeqAt (EqAt RcAt RcNeAt)
section
variable {prog : Program} {w : World} {A : Around} {E : Value → Shared → Prop} {s : Shared}
theorem K7 {Q : Int → Shared → Prop} (h : Q 0xFCA86420 { s with toks := s.toks + 1 }) : wpAny (model prog w) A (pyHash .none) Q E s := by
  unfold pyHash
  have hv : [Value.none].any Value.onHeap = false := rfl
  refine wpAny_bind ?_
  rw [cRoomFor, if_neg (by rw [hv]; exact Bool.false_ne_true)]; refine wpAny_pure ?_
  refine wpAny_bind (wpAny_specialOf (typeIs_none s) F.slot_NoneType_hash.lookup ?_)
  show wpAny _ _ (if (some (Value.builtin "NoneType.__hash__") == some Value.none) = true then _ else _) Q E s
  rw [if_neg (by rw [beq_builtin_none]; exact Bool.false_ne_true)]
  refine wpAny_bind (wpAny_specialOf (typeIs_none s) F.slot_NoneType_hash.lookup ?_)
  show wpAny _ _ (callSpecialIfBoundUnlessNone? Value.none "__hash__" _ >>= _) Q E s
  refine wpAny_bind (wpAny_callSpecialIfBoundUnlessNone?_slot (typeIs_none s) F.slot_NoneType_hash
    (wpAny_call_entry F.slot_NoneType_hash (typeIs_none s) F.entry_NoneType_hash
      (show wpAny _ _ (do ret (← mkInt 0xFCA86420)) _ _ s from wpAny_ret_mkInt ?_) (F.args_NoneType_hash_1 _)))
  show wpAny _ _ (if (decide (-(2 : Int) ^ 63 ≤ 0xFCA86420) && decide ((0xFCA86420 : Int) < 2 ^ 63)) = true then _ else _) Q E _
  rw [if_pos (by decide)]
  exact wpAny_pure h
variable {K : Type} [DecidableEq K] {knd : HeapKind prog w K}
theorem YT {stored : List Value} {Q : Bool → Shared → Prop} (hst : ∀ v ∈ stored, ∃ k' b, v = .ref b ∧ knd.is s.heap k' b) (h : Q false s) : wpAny (model prog w) A (tableMayTell .none stored) Q E s := by
  unfold tableMayTell
  split
  · exact wpAny_pure h
  · refine wpAny_bind (m := eqIsQuiet 8 .none) (wpAny_pure ?_)
    simp only [Bool.not_true, Bool.false_eq_true, if_false]
    refine wpAny_bind ?_
    refine wpAny_forIn_list _ (fun rest r s' => s' = s ∧ r = (none, ()) ∧ ∀ v ∈ rest, ∃ k' b, v = .ref b ∧ knd.is s.heap k' b) _ ?_ ?_ _ _ ⟨rfl, rfl, hst⟩
    · rintro x rest r s' ⟨rfl, rfl, hr⟩
      obtain ⟨k', b, rfl, hb⟩ := hr x List.mem_cons_self
      refine wpAny_bind (knd.quiet hb ?_)
      simp only [Bool.not_true, Bool.false_eq_true, if_false]
      exact wpAny_pure ⟨rfl, rfl, fun v hv => hr v (List.mem_cons_of_mem _ hv)⟩
    · rintro r s' ⟨rfl, rfl, _⟩
      exact wpAny_pure h
theorem Vc {d : Addr} {o : Obj} {es ep} {xs : List (K × Addr × Value)} {hh : Int} {Q : Option Nat → Shared → Prop} (hne : ∀ k b, knd.is s.heap k b → EqAt A s (.ref b) .none false)
    (ho : s.heap.get? d = some o) (hd : o.data = .dict es ep) (he : es.toList = xs.map (entryOfKey knd)) (his : ∀ x ∈ xs, knd.is s.heap x.1 x.2.1) (hq : Q none s) :
    wpAny (model prog w) A (dictFind d .none hh) Q E s := by
  have hsz : es.size = xs.length := size_of_entries he
  have hmem : ∀ e ∈ es, ∃ x ∈ xs, e = entryOfKey knd x := by
    intro e hin
    have : e ∈ xs.map (entryOfKey knd) := he ▸ Array.mem_toList_iff.mpr hin
    obtain ⟨x, hx, rfl⟩ := List.mem_map.mp this
    exact ⟨x, hx, rfl⟩
  have hst : ∀ v ∈ (placesWithHash es.size (fun i => es[i]?.map (·.hash)) hh).filterMap (fun i => es[i]?.map (·.key)), ∃ k' b, v = .ref b ∧ knd.is s.heap k' b := by
    intro v hv
    obtain ⟨i, _, hi⟩ := List.mem_filterMap.mp hv
    cases hei : es[i]? with
    | none => rw [hei] at hi; cases hi
    | some e =>
      rw [hei] at hi
      obtain rfl : e.key = v := by simpa using hi
      obtain ⟨x, hx, rfl⟩ := hmem e (Array.mem_of_getElem? hei)
      exact ⟨x.1, x.2.1, rfl, his x hx⟩
  unfold dictFind
  try with_reducible refine wpAny_holding ?_
  refine wpAny_bind (wpAny_dictEntries ho hd ?_)
  dsimp only
  have step : ∀ (i : Nat) (e : DictEntry), es[i]? = some e → EqAt A s e.key .none false := fun i e hei => by
    obtain ⟨x, hx, rfl⟩ := hmem e (Array.mem_of_getElem? hei)
    exact hne _ _ (his x hx)
  by_cases hall : ((Value.none :: (placesWithHash es.size (fun i => es[i]?.map (·.hash)) hh).filterMap (fun i => es[i]?.map (·.key))).all carriedByValue) = true
  · rw [if_pos hall]
    unfold dictWalkPlain
    refine wpAny_bind ?_
    refine wpAny_forIn_list _ (fun rest r s' => s' = s ∧ r = (none, ())) _ ?_ ?_ _ _ ⟨rfl, rfl⟩
    · rintro i rest r s' ⟨rfl, rfl⟩
      cases hei : es[i]? with
      | none => exact wpAny_pure ⟨rfl, rfl⟩
      | some e =>
        dsimp only
        by_cases hx : (e.hash == hh) = true
        · rw [if_pos hx]
          refine wpAny_bind (wpAny_dictEpoch ho hd (wpAny_bind (step i e hei _ _ _ _ (wpAny_bind (wpAny_dictEpoch ho hd ?_)))))
          show wpAny _ _ (if (ep != ep) = true then _ else _) _ E _
          rw [if_neg (by simp)]
          simp only [Bool.false_eq_true, if_false]
          refine wpAny_bind (wpAny_rule ?_)
          exact wpAny_pure ⟨rfl, rfl⟩
        · rw [if_neg hx]; exact wpAny_pure ⟨rfl, rfl⟩
    · rintro r s' ⟨rfl, rfl⟩
      exact wpAny_pure hq
  · rw [if_neg hall]
    by_cases hone : (((placesWithHash es.size (fun i => es[i]?.map (·.hash)) hh).filterMap (fun i => es[i]?.map (·.key))) == [Value.none]) = true <;>
    (first | rw [if_pos hone] | rw [if_neg hone]) <;> (first | refine wpAny_bind (wpAny_pure ?_) | refine wpAny_bind (YT (knd := knd) hst ?_)) <;> (
      rw [if_neg (by simp)]
      refine wpAny_bind ?_
      refine wpAny_forIn_list _ (fun rest r s' => s' = s ∧ r = (none, none)) _ ?_ ?_ _ _ ⟨rfl, rfl⟩
      · rintro i rest r s' ⟨rfl, rfl⟩
        cases hei : es[i]? with
        | none => exact wpAny_pure ⟨rfl, rfl⟩
        | some e =>
          dsimp only
          by_cases hx : (e.hash == hh) = true
          · rw [if_pos hx]
            refine wpAny_bind (wpAny_dictEpoch ho hd (wpAny_bind (step i e hei _ _ _ _ (wpAny_bind (wpAny_dictEpoch ho hd ?_)))))
            show wpAny _ _ (if (ep != ep) = true then _ else _) _ E _
            rw [if_neg (by simp)]
            simp only [Bool.false_eq_true, if_false]
            refine wpAny_bind (wpAny_rule ?_)
            first | rw [if_neg (by simp)] | skip
            first
              | exact wpAny_pure ⟨rfl, rfl⟩
              | exact wpAny_bind (wpAny_pure (wpAny_pure ⟨rfl, rfl⟩))
          · rw [if_neg hx]; exact wpAny_pure ⟨rfl, rfl⟩
      · rintro r s' ⟨rfl, rfl⟩
        exact wpAny_pure hq)
theorem uv {d : Addr} {xs : List (List Key × Addr × Value)} {Q : Value → Shared → Prop} (hu : A.units + 1 < cLine) (hd : (d == sysModules) = false) (hm : s.heap.DictOfH (tupleKind (jI prog w)) d xs)
    (h : Q (.bool false) { s with toks := s.toks + 1 }) : wpAny (model prog w) A (compareOp .In .none (.ref d)) Q E s := by
  show wpAny _ _ (do return .bool (← contains (.ref d) .none)) Q E s
  refine wpAny_bind ?_
  unfold contains
  try with_reducible refine wpAny_holding ?_
  refine wpAny_bind (wpAny_specialOf hm.typeIs slot_dict_contains.lookup ?_)
  show wpAny _ _ (if (some (Value.builtin "dict.__contains__") == some Value.none) = true then _ else _) _ E s
  rw [if_neg (by rw [beq_builtin_none]; exact Bool.false_ne_true)]
  refine wpAny_bind (wpAny_callSpecialUnlessNone?_slot (name := Str.ofString "__contains__") hm.typeIs slot_dict_contains
    (wpAny_call_entry slot_dict_contains hm.typeIs entry_dict_contains ?_ (args_dict_contains _ _)))
  show wpAny _ _ (dictGet d .none >>= _) _ _ s
  obtain ⟨o, es, ep, ho, _, hd', he, his, hn⟩ := hm
  unfold dictGet
  refine wpAny_bind ?_
  try with_reducible refine wpAny_holding ?_
  refine wpAny_bind (K7 (wpAny_bind (Vc (knd := tupleKind (jI prog w)) (s := { s with toks := s.toks + 1 }) (xs := xs) (fun k b hk => ?_) ho hd' he his (wpAny_pure ?_))))
  · obtain ⟨o', items, n, ho', hc, hdd, _⟩ := (show IsTupleKey (jI prog w) _ k b from hk)
    exact EqAt.tuple_none ⟨o', ho', hc, n, hdd⟩ (by simpa [Around.in1] using hu)
  · show wpAny _ _ (Builtin.Dict.pendingKey? d .none >>= _) _ _ _
    exact wpAny_bind (wpAny_pendingKey_other hd (wpAny_pure ⟨_, rfl, wpAny_truthy_bool (wpAny_pure h)⟩))
end
section
variable {X : Cx} {K : PySem.W.Frag}
def rInT : R2 := fun x y H Q => ∃ a kvs, y = .ref a ∧ H a = some (.dT kvs) ∧ ((x = .non ∧ Q (.bl false) H) ∨ ∃ b k, x = .ref b ∧ H b = some (.tup (k.map kV)) ∧ Q (.bl (valV kvs k).isSome) H)
theorem kW (hu : X.A.units + 1 < cLine) : OpR X (compareOp .In) rInT := by
  intro pins s σ H x y v u Q I rx ry ⟨a, kvs, ey, ha, h⟩
  subst ey
  obtain rfl : u = Value.ref a := ry
  rcases h with ⟨ex, q⟩ | ⟨b, k, ex, hb, q⟩
  · subst ex
    obtain rfl : v = Value.none := rx
    obtain ⟨z, hd, xs, rel, dd⟩ := uL I.hok (.inl ha)
    exact uv hu hd dd ⟨.bl false, H, I.tok _, rfl, q⟩
  · subst ex
    exact d_in hu I (DGet.t ha hb) rx fun s' I' => ⟨.bl _, H, I', rfl, q⟩
def inT : D → D → Res D
  | kd, .dit ks _ => match kd with
    | .non => .ok (.bl false)
    | kd => match keyT kd with
      | some k => .ok (.bl (hasT ks k))
      | none => .stuck
  | _, _ => .stuck
theorem kX : OpS K rInT inT := by
  intro x y H a b d Q ra rb e q
  unfold inT at e
  split at e
  · obtain ⟨p, kvs, rfl, hp, _, rfl, r⟩ := rb.ditE
    split at e
    · cases e
      exact ⟨p, kvs, rfl, hp, .inl ⟨ra.nonE, q _ (xG _)⟩⟩
    · split at e
      · rename_i k hk
        cases e
        obtain ⟨b', rfl, hb⟩ := Ql ra hk
        refine ⟨p, kvs, rfl, hp, .inr ⟨b', k, rfl, hb, ?_⟩⟩
        rw [← JX, XH]
        exact q _ (xG _)
      · cases e
  · cases e
theorem Kz : MtM X "list.insert" (fun x vs H Q => ∃ l xs i y, x = .ref l ∧ vs = [.int i, y] ∧ H l = some (.lst xs) ∧ 0 ≤ i ∧ i < 2 ^ 63 ∧ xs.length < sizeLine ∧ Q .non (upd H l (.lst (xs.take i.toNat ++ y :: xs.drop i.toNat)))) := by
  intro pins s σ H x vs v us Q I rx rv ⟨l, xs, i, y, ex, ev, hH, h1, h2, hz, q⟩
  subst ex ev
  cases rx
  cases rv with
  | cons r1 t =>
    cases t with
    | cons r2 t =>
      cases t
      obtain ⟨t, rfl⟩ := r1
      obtain ⟨z, its, n, r, hl, e⟩ := I.lstM hH
      refine call_meets F.slot_list_insert ⟨_, e, rfl⟩ F.entry_list_insert (F.args_list_insert_3 _ _ _) (AutoSeq1.list_insert_list_int_val_1 l its.toArray n i t _ (by rw [fitsIndex_both (by omega) h2]; simp) (by rw [List.size_toArray]; omega)) ⟨e, ?_⟩
      refine ⟨.non, _, I.lset (its' := its.take i.toNat ++ _ :: its.drop i.toNat) hH e ?_ ((r.take _).append (.cons r2 (r.drop _))) ?_, rfl, q⟩
      · show (((its.toArray.extract 0 (if i < 0 then (i + (its.toArray.size : Int)).toNat else min i.toNat its.toArray.size)).push _ ++ its.toArray.extract (if i < 0 then (i + (its.toArray.size : Int)).toNat else min i.toNat its.toArray.size))) = _
        rw [if_neg (by omega)]
        apply Array.toList_inj.mp
        simp only [Array.toList_append, Array.toList_push, Array.toList_extract, List.size_toArray, List.extract_eq_drop_take, List.drop_zero, Nat.sub_zero]
        by_cases hi : i.toNat ≤ its.length
        · rw [Nat.min_eq_left hi]
          simp [List.take_of_length_le]
        · rw [Nat.min_eq_right (by omega)]
          simp [List.take_of_length_le, List.drop_of_length_le, show its.length ≤ i.toNat by omega]
      · simp only [List.length_append, List.length_cons, List.length_take, List.length_drop]
        omega
variable {e1 e2 : Expr} {f1 f2 : Sl → Res D} {l1 : Lv} {x : Str} {p apos cpos pos : Pos}
def yd (i : Nat) (f1 f2 : Sl → Res D) : Sl → Res Out := fun env => ownL i env >>= fun ds => f1 env >>= fun j => f2 env >>= fun d => match j with
  | .int k => must (0 ≤ k ∧ k < 2 ^ 63 ∧ ds.length < sizeLine) (.ok (.nx (env.set i (.own (.lst (ds.take k.toNat ++ d :: ds.drop k.toNat))))))
  | _ => .stuck
theorem Vr (i : Nat) (h1 : DE X l1 e1 f1) (h2 : DE X .s e2 f2) (hN : X.N[i]? = some x := by rfl) (hv : Vis X.env.scope x := by first | exact Or.inl rfl | exact Or.inr (Or.inl rfl) | exact Or.inr (Or.inr rfl))
    (hd : (x == ("__debug__" : Str)) = false := by decide) (hcd : (x == ("__classdict__" : Str)) = false := by decide)
    (hbase : attributeBase (.Name x p) "insert" X.env (eval (.Name x p) X.env) = eval (.Name x p) X.env := by rfl)
    (hfew : ((backTo cpos (starEach [e1, e2] X.env)).all (fun x => !x.1) && (backToKw cpos (keywordEach [] X.env)).all (fun x => x.1.isSome)
      && decide ([e1, e2].length + ([] : List Keyword).length + (if ([] : List Keyword).isEmpty then 0 else 1) < 30)) = true := by exact Je rfl rfl)
    (hline : (apos.endLine == cpos.line) = true := by rfl) (hs : starEach [e1, e2] X.env = (false, eval e1 X.env) :: starEach [e2] X.env := by exact jx rfl) (hplain : (backTo cpos (starEach [e2] X.env)).any (·.1) = false := by exact jR rfl)
    (hs2 : starEach [e2] X.env = (false, eval e2 X.env) :: starEach [] X.env := by exact jx rfl)
    (hsw : swapsWith (.Call (.Attribute (.Name x p) "insert" apos) [e1, e2] [] cpos) none pos.line X.env = pure false := by rfl) :
    DS X (.Expr (.Call (.Attribute (.Name x p) "insert" apos) [e1, e2] [] cpos) pos) (yd i f1 f2) := by
 with_unfolding_all exact (
  PS.imp (J6 (vZ PySem.F.plainAttrs_list PySem.F.slot_list_insert PySem.F.type_list_insert Kz (wf (i := i) hN hv hd hcd) (qA h1 (qA h2 wN hs2) hs) hbase hfew hline hs hplain) hsw) fun E σ H ⟨G, H0, env, o, k, ef, q⟩ => by
    obtain ⟨ds, c1, ef⟩ := jc ef
    obtain ⟨j, c2, ef⟩ := jc ef
    obtain ⟨d, c3, c4⟩ := jc ef
    cases j with
    | int kk =>
      obtain ⟨⟨z1, z2, z3⟩, c5⟩ := jB c4
      cases c5
      have hi := xn c1
      obtain ⟨a, xs, ha, hx, rs⟩ := wx k hi
      refine ⟨.ref a, ha, .inl ⟨rfl, xs, .of hx⟩, G, H0, env, _, k, c2, fun v1 H1 s1 r1 _ => ⟨G, H0, env, d, k.grow s1, c3, fun v2 H2 s2 r2 _ => ?_⟩⟩
      have hx2 := s2 _ _ (s1 _ _ hx)
      cases (r1.weak (A' := Any) Lv.weak_b).intE
      refine ⟨a, xs, kk, v2, rfl, rfl, hx2, z1, z2, by rw [rs.length]; exact z3, ?_⟩
      have rs2 := (rs.grow s1).grow s2
      have W := ((k.grow s1).grow s2).write hi ha hx2 (xs' := xs.take kk.toNat ++ v2 :: xs.drop kk.toNat) (ds' := ds.take kk.toNat ++ d :: ds.drop kk.toNat) ((rs2.take _).append (.cons r2 (rs2.drop _)))
      exact q σ _ W.1 ((W.2.grow s2).grow s1)
    | _ => cases c4)
end
end M
namespace M
open PySem PySem.Spec L2
open PyProof.Rows hiding St
section
variable {prog : Program} {w : World} {A : Around} {E : Value → Shared → Prop} {s : Shared}
theorem Zh : typeLookup (.type "list") "keys" = pure none := by rw [typeLookup_type, builtinLookup_eq_fast]; kernel_rfl
theorem KK {a : Addr} {o : Obj} {xs : Array Value} {k : Nat} {Q : Option Value → Shared → Prop} (ho : s.heap.get? a = some o) (hc : o.cls = .type "list") (hdd : o.dict = none) (hd : o.data = .seq xs k) (hA : A.handled = none)
    (h : ∀ h' tk, (∀ b ob, s.heap.get? b = some ob → h'.get? b = some ob) → Q none { s with heap := h', toks := tk }) : wpAny (model prog w) A (getAttr? (.ref a) "keys") Q E s := by
  obtain ⟨hp, g, d, tk, os⟩ := s
  obtain ⟨oc, od, odata, osl⟩ := o
  simp only at hc hdd hd
  subst hc hdd hd
  have hT : (⟨hp, g, d, tk, os⟩ : Shared).TypeIs (.ref a) "list" := ⟨_, ho, rfl⟩
  have hT' : (⟨hp, g, d, tk + 1, os⟩ : Shared).TypeIs (.ref a) "list" := ⟨_, ho, rfl⟩
  have f1 := sub_AttributeError
  have f3 := F.slot_list_getattribute.lookup
  have f4 := F.slot_list_getattribute.bind (.ref a)
  have f5 := am_list_getattr_none
  unfold getAttr? getAttrBy? getAttrBy
  repeat (any_goals (first | assumption | ((with_reducible show wpAny _ _ (call (Value.builtin "list.__getattribute__") _ _) _ _ _); refine call_meets F.slot_list_getattribute hT' am_entry_list_getattribute (F.args_list_getattribute_2 _ _) (meets_getattribute_miss_list a xs k osl "keys" _ Zh (by decide)) ⟨ho, hA, fun h' tk' e hx => ?_⟩) | wp_step))
  obtain ⟨t', u', he⟩ := hx.there
  show wpAny _ _ (getattributeRaised _ _ _ _ _ _ _) _ _ _
  unfold getattributeRaised
  repeat (any_goals (first | assumption | wp_step))
  exact h h' _ hx.keeps
theorem qR : entryFor table "dict.update.loop" = some Builtin.«dict.update.loop» := entryFor_of_tree (by kernel_rfl)
theorem jX : plainId "dict.update.loop" = true := by decide +kernel
theorem J8 {t : Addr} {o : Obj} {n : Nat} {its : Array Value} {Q : List Value → Shared → Prop} (ho : s.heap.get? t = some o) (hc : o.cls = .type "tuple") (hd : o.data = .seq its n) (h : Q its.toList s) : wpAny (model prog w) A (Builtin.Dict.pairItems (.ref t)) Q E s := by
  unfold Builtin.Dict.pairItems
  refine wpAny_bind (wpAny_typeOf (show s.TypeIs (.ref t) "tuple" from ⟨o, ho, hc⟩) ?_)
  rw [if_pos (by decide)]
  refine wpAny_bind (wpAny_seqItems ho hd ?_)
  exact wpAny_pure h
def ZI (pr : Nat → List Key × Addr × Value) : Nat → List (List Key × Addr × Value)
  | 0 => []
  | i + 1 => storedH (ZI pr i) (pr i).1 (pr i).2.1 (pr i).2.2
theorem ZU (xs : List (List Key × Addr × Value)) (k : List Key) (a : Addr) (v : Value) : (storedH xs k a v).length ≤ xs.length + 1 := by
  cases h : atKey xs k with
  | none => rw [storedH_new h]; simp
  | some p => rw [storedH_old h]; simp
theorem Jn (pr : Nat → List Key × Addr × Value) : ∀ i, (ZI pr i).length ≤ i
  | 0 => Nat.le_refl _
  | i + 1 => Nat.le_trans (ZU _ _ _ _) (Nat.succ_le_succ (Jn pr i))
theorem QN {xs : List (List Key × Addr × Value)} {k : List Key} {a : Addr} {v : Value} {N : Nat} (h : ∀ x ∈ xs, x.2.1 < N) (ha : a < N) : ∀ x ∈ storedH xs k a v, x.2.1 < N := by
  intro x hx
  cases q : atKey xs k with
  | none =>
    rw [storedH_new q] at hx
    rcases List.mem_append.mp hx with z | z
    · exact h x z
    · rw [List.mem_singleton] at z; subst z; exact ha
  | some p =>
    rw [storedH_old q] at hx
    obtain ⟨y, hy, rfl⟩ := List.mem_map.mp hx
    unfold putAt
    split
    · exact h y hy
    · exact h y hy
theorem yk {pr : Nat → List Key × Addr × Value} {N n : Nat} (h : ∀ i, i < n → (pr i).2.1 < N) : ∀ i, i ≤ n → ∀ x ∈ ZI pr i, x.2.1 < N
  | 0, _, x, hx => by cases hx
  | i + 1, hi, x, hx => QN (yk h i (by omega)) (h i (by omega)) x hx
variable {R : Result → Shared → Prop} {I : Addr} {fp wr : List Addr} {G : Array GenState → Array GenState → Prop} {n : Nat} {P : Nat → Value → Prop} {St : Nat → Shared → Prop}
theorem Yg (W : WalksS prog w A.in1 I fp wr G n P St) (d : Addr) (hdf : d ∉ fp) (pr : Nat → List Key × Addr × Value) (h0 : Heap) (hkey : ∀ i, i < n → IsTupleKey (jI prog w) h0 (pr i).1 (pr i).2.1)
    (hval : ∀ i v, P i v → ∃ t o m, v = .ref t ∧ h0.get? t = some o ∧ o.cls = .type "tuple" ∧ o.data = .seq #[.ref (pr i).2.1, (pr i).2.2] m)
    (hdw : h0.objs.size ≤ d) (hIw : ∀ b ∈ wr, h0.objs.size ≤ b) (hu : A.in1.units < cLine) (hn : n ≤ sizeLine) :
    ∀ (k i : Nat) (s : Shared), n - i = k → i ≤ n → St i s → s.heap.DictOfH (tupleKind (jI prog w)) d (ZI pr i) → (∀ b o, b < h0.objs.size → h0.get? b = some o → s.heap.get? b = some o) →
      (∀ s', Moved (d :: wr) G s s' → s'.heap.DictOfH (tupleKind (jI prog w)) d (ZI pr n) → R (.ok (.ret .none)) s') →
      codeAny (model prog w) A (.builtin "dict.update.loop" ⟨[.ref d, .ref I, rawInt i, .none], []⟩) R s := by
  have hSw : d ∉ wr := fun h => hdf (W.sub _ h)
  have hsub : ∀ b ∈ wr, b ∈ d :: wr := fun b hb => List.mem_cons_of_mem _ hb
  have hka : ∀ i, i < n → (pr i).2.1 < h0.objs.size := fun i hi => by
    obtain ⟨o', items, n', g1, g2⟩ := hkey i hi
    exact Heap.lt_size g1
  have dkeep : ∀ {s s' : Shared} {xs : List (List Key × Addr × Value)}, s.heap.DictOfH (tupleKind (jI prog w)) d xs → (∀ x ∈ xs, x.2.1 < h0.objs.size) → Moved wr G s s' → s'.heap.DictOfH (tupleKind (jI prog w)) d xs := fun hS hx hm => by
    obtain ⟨o, es, ep, ho, hc, hd, he, his, hnd⟩ := hS
    refine ⟨o, es, ep, hm.heap d _ hSw ho, hc, hd, he, fun x hxx => ?_, hnd⟩
    obtain ⟨o', items, n', g1, g2⟩ := (show IsTupleKey (jI prog w) _ x.1 x.2.1 from his x hxx)
    exact ⟨o', items, n', hm.heap _ _ (fun z => absurd (hIw _ z) (Nat.not_le_of_lt (hx x hxx))) g1, g2⟩
  intro k
  induction k with
  | zero =>
    intro i s hk hi hst hS hold hR
    have hin : i = n := by omega
    subst hin
    refine codeAny_builtin qR ?_
    rw [Around.under_plainId jX _]
    show wpAny _ A.in1 (pyNext (.ref I) >>= _) _ _ s
    refine wpAny_bind (W.done s _ _ hst fun s' hm => ?_)
    show wpAny _ A.in1 (Builtin.Dict.addKeywords d [] >>= _) _ _ s'
    refine wpAny_bind (wpAny_pure ?_)
    exact wpAny_pure (hR s' (hm.mono hsub) (dkeep hS (yk hka _ (Nat.le_refl _)) hm))
  | succ k ih =>
    intro i s hk hi hst hS hold hR
    have hlt : i < n := by omega
    refine codeAny_builtin qR ?_
    rw [Around.under_plainId jX _]
    show wpAny _ A.in1 (pyNext (.ref I) >>= _) _ _ s
    refine wpAny_bind (W.item i s _ _ hlt hst fun v s' hP hst' hm => ?_)
    obtain ⟨t, o, m, rfl, ht, hc, hd⟩ := hval i v hP
    have hold' : ∀ b o, b < h0.objs.size → h0.get? b = some o → s'.heap.get? b = some o := fun b o hb e => hm.heap b o (fun z => absurd (hIw _ z) (Nat.not_le_of_lt hb)) (hold b o hb e)
    have hS' := dkeep hS (yk hka _ hi) hm
    have ht' := hold' _ _ (Heap.lt_size ht) ht
    show wpAny _ A.in1 (holding [Value.ref t] _ >>= _) _ _ s'
    refine wpAny_bind (wpAny_holding ?_)
    refine wpAny_bind (wpAny_tryCatch (J8 ht' hc hd ?_))
    show wpAny _ A.in1 (holding [Value.ref (pr i).2.1, (pr i).2.2] (dictSet d (.ref (pr i).2.1) (pr i).2.2)) _ _ s'
    refine wpAny_holding ?_
    have hk' : (tupleKind (jI prog w)).is s'.heap (pr i).1 (pr i).2.1 := by
      obtain ⟨o', items, n', g1, g2⟩ := hkey i hlt
      exact ⟨o', items, n', hold' _ _ (Heap.lt_size g1) g1, g2⟩
    refine wpAny_dictSet_heap (knd := tupleKind (jI prog w)) hu hk' hS' (fun h' dd' hs => ?_) (Nat.le_trans (Jn pr i) (Nat.le_trans hi hn))
    refine wpAny_pure ⟨plainId_quiet jX _, ?_⟩
    have hrun := ih (i + 1) { s' with heap := h', toks := s'.toks + (tupleKind (jI prog w)).draws (pr i).1 } (by omega) hlt (W.frame _ s' _ _ hst' (Nat.le_add_right _ _) fun b hb o e => ?_) dd' (fun b o hb e => ?_) fun s'' hm'' hS'' => ?_
    · exact hrun
    · rw [hs.2 b (fun h : b = d => hdf (by rw [← h]; exact hb))]; exact e
    · rw [hs.2 b (fun h : b = d => absurd hdw (by rw [← h]; exact Nat.not_le_of_lt hb))]; exact hold' b o hb e
    · refine hR s'' (Moved.trans W.gtrans ((hm.mono hsub).then_heap (Nat.le_add_right _ _) fun b o hb e => ?_) hm'') hS''
      rw [hs.2 b (fun h : b = d => hb (by rw [h]; exact List.mem_cons_self))]; exact e
theorem Jm {l : Addr} {ol : Obj} {its : Array Value} {m : Nat} {Q : Value → Shared → Prop} (pr : Nat → List Key × Addr × Value) (hh : A.handled = none) (ho : s.heap.get? l = some ol) (hc : ol.cls = .type "list") (hdd : ol.dict = none) (hd : ol.data = .seq its m)
    (hkey : ∀ i, i < its.size → IsTupleKey (jI prog w) s.heap (pr i).1 (pr i).2.1)
    (hval : ∀ i v, its[i]? = some v → ∃ t o m, v = .ref t ∧ s.heap.get? t = some o ∧ o.cls = .type "tuple" ∧ o.data = .seq #[.ref (pr i).2.1, (pr i).2.2] m) (hu : A.units + 2 < cLine) (hn : its.size ≤ sizeLine)
    (h : ∀ h' tk, (∀ b o, s.heap.get? b = some o → h'.get? b = some o) → h'.DictOfH (tupleKind (jI prog w)) s.heap.objs.size (ZI pr its.size) → Q (.ref s.heap.objs.size) { s with heap := h', toks := tk }) :
    wpAny (model prog w) A (call (.type "dict") [.ref l]) Q E s := by
  refine callType_codes (Q₁ := fun obj s₁ => obj = .ref s.heap.objs.size ∧ s₁ = { s with heap := s.heap.push { cls := .type "dict", data := .dict #[] } }) F.kt_called_dict (F.kt_typeCall_dict_1 _) F.entry_dict_init (kt_code_dict_new _ ⟨rfl, rfl⟩) ?_
  rintro obj s₁ ⟨rfl, rfl⟩
  have kp : ∀ b o, s.heap.get? b = some o → (s.heap.push { cls := .type "dict", data := .dict #[] }).get? b = some o := fun b o e => Heap.get?_push_of_some _ e
  have hT : Shared.TypeIs { s with heap := s.heap.push { cls := .type "dict", data := .dict #[] } } (.ref s.heap.objs.size) "dict" := ⟨_, Heap.get?_push_size _ rfl, rfl⟩
  have hTl : Shared.TypeIs { s with heap := s.heap.push { cls := .type "dict", data := .dict #[] } } (.ref l) "list" := ⟨_, kp _ _ ho, hc⟩
  refine ⟨hT, F.args_dict_init_2 _ _, ?_⟩
  unfold Builtin.«dict.__init__»
  refine wpAny_bind ?_
  unfold Builtin.Dict.selfAndRest
  refine wpAny_bind (wpAny_notOrdered_dict hT ?_)
  show wpAny _ _ (pure (s.heap.objs.size, [Value.ref l])) _ _ _
  refine wpAny_pure ?_
  show wpAny _ _ (Builtin.Dict.updateFrom "dict.__init__" s.heap.objs.size (.ref l) [] .none) _ _ _
  unfold Builtin.Dict.updateFrom
  refine wpAny_bind (wpAny_typeOf hTl ?_)
  rw [if_pos (by decide)]
  refine wpAny_bind (KK (s := { s with heap := s.heap.push { cls := .type "dict", data := .dict #[] } }) (kp _ _ ho) hc hdd hd (by simp [hh]) fun h1 tk1 k1 => ?_)
  simp only [Option.isNone_none, if_true]
  refine wpAny_bind (wpAny_rule ?_)
  have hl1 : h1.IsList l its := ⟨_, k1 _ _ (kp _ _ ho), hc, m, hd⟩
  refine wpAny_bind (wpAny_pyIter_list (s := { s with heap := h1, toks := tk1 }) hl1 ?_)
  have hz1 : s.heap.objs.size < h1.objs.size := Heap.lt_size (k1 _ _ (Heap.get?_push_size _ rfl))
  have hlS : l < s.heap.objs.size := Heap.lt_size ho
  have hneI : l ≠ h1.objs.size := Nat.ne_of_lt (Nat.lt_trans hlS hz1)
  refine wpAny_pure ⟨plainId_quiet jX _, ?_⟩
  have hh3 : A.in1.in1.handled = none := by simp [hh]
  refine Yg ((Walks.list hh3 h1.objs.size l hneI its).toS) s.heap.objs.size (by simp only [List.mem_cons, List.not_mem_nil, or_false, not_or]; exact ⟨Nat.ne_of_lt hz1, Nat.ne_of_gt hlS⟩) pr s.heap hkey (fun i v hv => hval i v hv) (Nat.le_refl _) (fun b hb => by simp only [List.mem_singleton] at hb; subst hb; exact Nat.le_of_lt hz1) (by simpa [Around.in1] using hu) hn (its.size - 0) 0 _ (by omega) (Nat.zero_le _)
    ⟨⟨_, Heap.get?_push_size _ rfl, rfl, rfl⟩, hl1.push _⟩ ?hd0 (fun b o hb e => Heap.get?_push_of_some _ (k1 _ _ (kp _ _ e))) ?hR
  case hd0 =>
    exact ⟨_, #[], 0, Heap.get?_push_of_some _ (k1 _ _ (Heap.get?_push_size _ rfl)), ⟨rfl, rfl, rfl⟩, rfl, rfl, (fun x hx => by cases hx), List.nodup_nil⟩
  case hR =>
    intro s' hm hS'
    obtain ⟨h', g', d', tk', os'⟩ := s'
    have eg : g' = s.gens := hm.gens
    have ed : d' = s.drawn := hm.drawn
    have eo : os' = s.os := hm.os
    subst eg; subst ed; subst eo
    refine ⟨rfl, h h' tk' (fun b o e => ?_) hS'⟩
    have hb : b < s.heap.objs.size := Heap.lt_size e
    exact hm.heap b o (by simp only [List.mem_cons, List.mem_singleton, List.not_mem_nil, or_false, not_or]; exact ⟨Nat.ne_of_lt hb, Nat.ne_of_lt (Nat.lt_trans hb hz1)⟩) (Heap.get?_push_of_some _ (k1 _ _ (kp _ _ e)))
end
theorem ja9 {A : Around} {k : Nat} (hr : Room k A) : A.units + 2 < cLine := Nat.lt_of_le_of_lt (Nat.add_le_add_left (by decide : 2 ≤ 64) _) hr.units
section
variable {X : Cx} {K : PySem.W.Frag}
inductive Prs (H : Hp) : List V → List (List Key × V) → Prop where
  | nil : Prs H [] []
  | cons {t b : Addr} {k : List Key} {v : V} {r : List V} {ps : List (List Key × V)} : H t = some (.tup [.ref b, v]) → H b = some (.tup (k.map kV)) → Prs H r ps → Prs H (.ref t :: r) ((k, v) :: ps)
def yN (ps : List (List Key × V)) : List (List Key × V) := ps.foldl (fun kvs p => putK kvs p.1 p.2) []
theorem Kb {pins : List (Addr × Obj)} {σ : L2.St} {H : Hp} {s : Shared} (I : Inv X pins σ H s) : ∀ {ys : List V} {ps : List (List Key × V)} {its : List Value}, Prs H ys ps → Vals ys its →
    ∃ qs : List (List Key × Addr × Value), qs.length = its.length ∧ Paired (fun (p : List Key × V) (q : List Key × Addr × Value) => p.1 = q.1 ∧ H q.2.1 = some (.tup (p.1.map kV)) ∧ RelV p.2 q.2.2) ps qs ∧
      ∀ (i : Nat) (v : Value), its[i]? = some v → ∃ q, qs[i]? = some q ∧ ∃ t o m, v = .ref t ∧ s.heap.get? t = some o ∧ o.cls = .type "tuple" ∧ o.data = .seq #[.ref q.2.1, q.2.2] m
  | _, _, _, .nil, .nil => ⟨[], rfl, .nil, fun i v h => by simp at h⟩
  | _, _, _, .cons (t := t) (b := b) (k := k) (v := v) ht hb hr, .cons r1 rr => by
    obtain ⟨qs, h1, h2, h3⟩ := Kb I hr rr
    obtain ⟨its2, r2, ⟨o, e1, e2, m, e3⟩, _⟩ := I.tuple (.inl (.of ht))
    cases r2 with
    | cons ra r2 =>
      cases r2 with
      | cons rb r2 =>
        cases r2
        rename_i ua ub
        cases (show ua = Value.ref b from ra)
        cases r1
        refine ⟨(k, b, ub) :: qs, by simp [h1], .cons ⟨rfl, hb, rb⟩ h2, fun i v hv => ?_⟩
        cases i with
        | zero =>
          simp at hv
          subst hv
          exact ⟨_, rfl, t, o, m, rfl, e1, e2, e3⟩
        | succ i =>
          simp at hv
          obtain ⟨q, g1, g2⟩ := h3 i v hv
          exact ⟨q, by simpa using g1, g2⟩
theorem yb {α β : Type} {F : α → β → Prop} : ∀ {l₁ : List α} {l₂ : List β}, Paired F l₁ l₂ → ∀ (i : Nat) (y : β), l₂[i]? = some y → ∃ x, l₁[i]? = some x ∧ F x y
  | _, _, .nil, i, y, h => by simp at h
  | _, _, .cons r t, 0, y, h => by simp at h; subst h; exact ⟨_, rfl, r⟩
  | _, _, .cons r t, i + 1, y, h => by
    obtain ⟨x, h1, h2⟩ := yb t i y (by simpa using h)
    exact ⟨x, by simpa using h1, h2⟩
theorem XF {H : Hp} {ps : List (List Key × V)} {qs : List (List Key × Addr × Value)} (r : Paired (fun (p : List Key × V) (q : List Key × Addr × Value) => p.1 = q.1 ∧ H q.2.1 = some (.tup (p.1.map kV)) ∧ RelV p.2 q.2.2) ps qs) :
    ∀ i, i ≤ qs.length → KT H (yN (ps.take i)) (ZI (fun j => qs.getD j ([], 0, .none)) i)
  | 0, _ => .nil
  | i + 1, hi => by
    have ih := XF r i (by omega)
    obtain ⟨q, hq⟩ : ∃ q, qs[i]? = some q := ⟨qs[i]'(by omega), List.getElem?_eq_getElem _⟩
    obtain ⟨p, hp, ⟨e1, e2, e3⟩⟩ := yb r i q hq
    have hg : qs.getD i ([], 0, .none) = q := by simp [List.getD, hq]
    have ht : ps.take (i + 1) = ps.take i ++ [p] := by rw [List.take_add_one, hp]; rfl
    have hpa : yN (ps.take (i + 1)) = putK (yN (ps.take i)) p.1 p.2 := by unfold yN; rw [ht, List.foldl_append]; rfl
    rw [hpa]
    show KT H _ (storedH (ZI (fun j => qs.getD j ([], 0, .none)) i) (qs.getD i ([], 0, .none)).1 (qs.getD i ([], 0, .none)).2.1 (qs.getD i ([], 0, .none)).2.2)
    rw [hg, ← e1]
    exact ih.put p.1 e2 e3
theorem Yx (hc : X.calm = true) (hu : X.A.units + 2 < cLine) : CallR X (.type "dict") (fun xs H Q => ∃ p ys ps, xs = [.ref p] ∧ H p = some (.lst ys) ∧ Prs H ys ps ∧ ∀ l, H l = none → Q (.ref l) (upd H l (.dT (yN ps)))) := by
  intro pins s σ H xs us Q I r ⟨p, ys, ps, ex, hp, hps, q⟩
  subst ex
  obtain ⟨u, rfl, ru⟩ := yq r
  cases ru
  obtain ⟨its, rv, ⟨o, n, ho, hcl, hdd, hd⟩, hz⟩ := I.list (SqL.of hp)
  obtain ⟨qs, h1, h2, h3⟩ := Kb I hps rv
  have hsz : its.toArray.size = qs.length := by rw [List.size_toArray, h1]
  have hql : qs.length ≤ sizeLine := by rw [h1, ← rv.length]; exact hz
  refine Jm (fun j => qs.getD j ([], 0, .none)) (I.ok.hd hc) ho hcl hdd hd (fun i hi => ?_) (fun i v hv => ?_) hu (by rw [hsz]; exact hql) fun h' tk hk dd => ?_
  · obtain ⟨qq, hq⟩ : ∃ q, qs[i]? = some q := ⟨qs[i]'(by rw [hsz] at hi; exact hi), List.getElem?_eq_getElem _⟩
    obtain ⟨pp, hp', ⟨e1, e2, e3⟩⟩ := yb h2 i qq hq
    have hg : qs.getD i ([], 0, .none) = qq := by simp [List.getD, hq]
    show IsTupleKey _ _ (qs.getD i ([], 0, .none)).1 (qs.getD i ([], 0, .none)).2.1
    rw [hg, ← e1]
    exact W8 I.hok e2
  · obtain ⟨qq, hq, g⟩ := h3 i v (by rw [← hv]; simp)
    have hg : qs.getD i ([], 0, .none) = qq := by simp [List.getD, hq]
    show ∃ t o m, v = .ref t ∧ s.heap.get? t = some o ∧ o.cls = .type "tuple" ∧ o.data = .seq #[.ref (qs.getD i ([], 0, .none)).2.1, (qs.getD i ([], 0, .none)).2.2] m
    rw [hg]; exact g
  · have hl : H s.heap.objs.size = none := I.hok.fresh (Nat.le_refl _)
    rw [hsz] at dd
    have kt := XF h2 qs.length (Nat.le_refl _)
    have hpl : ps.length = qs.length := Paired.length h2
    rw [List.take_of_length_le (by omega)] at kt
    have kl := Paired.length kt
    have hbl := Jn (fun j => qs.getD j ([], 0, .none)) qs.length
    obtain ⟨qq, es, ep, hq, g2, g3, g4, _, g5⟩ := dd
    refine ⟨.ref s.heap.objs.size, _, I.laid (t' := tk) hk (Nat.le_refl _) (show ObjOk X.prog X.w _ h' _ (.dT (yN ps)) from ⟨by omega, beq_eq_false_iff_ne.mpr (Ne.symm (Nat.ne_of_lt I.big)), _, kt.keeps fun c ys ec => ?_, qq, es, ep, hq, g2, g3, g4, g5⟩), rfl, q _ hl⟩
    rw [jJ (qf ec hl)]; exact ec
def prsD : List D → Option (List (List Key × D))
  | [] => some []
  | .tup [kd, d] :: r => match keyT kd, prsD r with
    | some k, some q => some ((k, d) :: q)
    | _, _ => none
  | _ => none
theorem WU {A : Addr → Prop} {H : Hp} : ∀ {vs : List V} {ds : List D} {ps : List (List Key × D)}, Reps K A H vs ds → prsD ds = some ps → ∃ qs : List (List Key × V), Prs H vs qs ∧ qs.map (·.1) = ps.map (·.1) ∧ Reps K A H (qs.map (·.2)) (ps.map (·.2))
  | _, [], ps, .nil, h => by simp [prsD] at h; subst h; exact ⟨[], .nil, rfl, .nil⟩
  | _, d :: ds, ps, .cons r rs, h => by
    unfold prsD at h
    split at h
    · rename_i e; cases e
    · rename_i kd d' r' e
      cases e
      cases hk : keyT kd with
      | none => rw [hk] at h; cases h
      | some k =>
        cases hq : prsD ds with
        | none => rw [hk, hq] at h; cases h
        | some q =>
          rw [hk, hq] at h
          cases h
          obtain ⟨qs, g1, g2, g3⟩ := WU rs hq
          obtain ⟨t, xs, rfl, ht, rx⟩ := r.tupE
          obtain ⟨v1, v2, rfl, r1, r2⟩ := rx.two
          obtain ⟨b, rfl, hb⟩ := Ql r1 hk
          exact ⟨(k, v2) :: qs, .cons ht hb g1, by simp [g2], .cons r2 g3⟩
    · cases h
def Jt (q : List (List Key) × List D) (p : List Key × D) : List (List Key) × List D := (J4 q.1 p.1, J5 q.1 q.2 p.1 p.2)
def Zx : List D → Res D
  | [.lst ds] => match prsD ds with
    | some ps => .ok (.dit (ps.foldl Jt ([], [])).1 (ps.foldl Jt ([], [])).2)
    | none => .stuck
  | _ => .stuck
theorem JF {A : Addr → Prop} {H : Hp} : ∀ {qs : List (List Key × V)} {ps : List (List Key × D)} {kvs : List (List Key × V)} {q : List (List Key) × List D}, qs.map (·.1) = ps.map (·.1) → Reps K A H (qs.map (·.2)) (ps.map (·.2)) → kvs.map (·.1) = q.1 → Reps K A H (kvs.map (·.2)) q.2 →
    (qs.foldl (fun kvs p => putK kvs p.1 p.2) kvs).map (·.1) = (ps.foldl Jt q).1 ∧ Reps K A H ((qs.foldl (fun kvs p => putK kvs p.1 p.2) kvs).map (·.2)) (ps.foldl Jt q).2
  | [], [], kvs, q, _, _, h1, h2 => ⟨h1, h2⟩
  | [], _ :: _, _, _, h, _, _, _ => by cases h
  | _ :: _, [], _, _, h, _, _, _ => by cases h
  | (k, v) :: qs, (k', d) :: ps, kvs, q, h, .cons r rs, h1, h2 => by
    simp only [List.map_cons, List.cons.injEq] at h
    obtain ⟨rfl, h⟩ := h
    obtain ⟨p1, p2⟩ := WL k h2 r
    rw [h1] at p1 p2
    exact JF (qs := qs) (ps := ps) (kvs := putK kvs k v) (q := Jt q (k, d)) h rs p1 p2
theorem kH : QG K (fun xs H Q => ∃ p ys ps, xs = [.ref p] ∧ H p = some (.lst ys) ∧ Prs H ys ps ∧ ∀ l, H l = none → Q (.ref l) (upd H l (.dT (yN ps)))) Zx := by
  intro A xs H ds d Q r e q
  unfold Zx at e
  split at e
  · split at e
    · rename_i ps hps
      cases e
      obtain ⟨v, rfl, r1⟩ := r.one
      obtain ⟨p, ys, rfl, hp, _, ry⟩ := r1.lstE
      obtain ⟨qs, g1, g2, g3⟩ := WU ry.low hps
      obtain ⟨a1, a2⟩ := JF (kvs := []) (q := ([], [])) g2 g3 rfl .nil
      exact ⟨p, ys, qs, rfl, hp, g1, fun l hl => q _ _ (Same.upd hl) (.dit jA (.inl hl) a1 rfl ((a2.laid hl).weak fun c z => ⟨.inr z.1, z.2⟩)) (j4 (Same.refl H) hl)⟩
    · cases e
  · cases e
end
end M
namespace M
open PySem PySem.Spec L2
open PyProof.Rows hiding St
structure ZipAtL (h : Heap) (z TI TO i1 i2 l1 l2 : Addr) (k1 k2 : Nat) (f0 : Value) : Prop where
  hz : IsZip h z TI TO f0
  ti : IsPair h TI (.ref i1) (.ref i2)
  to : ∃ a b, IsPair h TO a b
  h1 : h.IsListIter i1 l1 k1
  h2 : h.IsListIter i2 l2 k2
def ItZL (K : PySem.W.Frag) (a1 a2 : Addr) (xs ys : List V) : It := ⟨fun i H => (SqL K H a1 xs ∧ SqL K H a2 ys) ∧ i < xs.length ∧ i < ys.length, fun i H v H' => ∃ p x y, H p = none ∧ xs[i]? = some x ∧ ys[i]? = some y ∧ v = .ref p ∧ H' = upd H p (.tup [x, y]), fun i H => (SqL K H a1 xs ∧ SqL K H a2 ys) ∧ (xs.length ≤ i ∨ ys.length ≤ i)⟩
theorem YL {P : Program} {w : World} {K : PySem.W.Frag} {elts : List Expr} {n : Nat} {pos : Pos} {z TI TO i1 i2 a1 a2 : Addr} (xs ys : List V) (D : ZipApart z TI TO i1 i2 a1 a2) :
    Turn P w K (.Tuple elts n pos) (ItZL K a1 a2 xs ys) [z, TI, TO, i1, i2] z (fun i h => ZipAtL h z TI TO i1 i2 a1 a2 i i .none) where
  mem := by simp
  obj := fun i h st b hb => by
    obtain ⟨hz, ti, ⟨x, y, to⟩, ⟨o1, e1, c1, d1⟩, o2, e2, c2, d2⟩ := st
    simp only [List.mem_cons, List.not_mem_nil, or_false] at hb
    rcases hb with rfl | rfl | rfl | rfl | rfl
    · exact ⟨_, hz, fun v q => by cases q⟩
    · exact ⟨_, ti, fun v q => by cases q⟩
    · exact ⟨_, to, fun v q => by cases q⟩
    · exact ⟨o1, e1, fun v q => by rw [d1] at q; cases q⟩
    · exact ⟨o2, e2, fun v q => by rw [d2] at q; cases q⟩
  keep := fun i h h' st k => by
    obtain ⟨hz, ti, ⟨x, y, to⟩, q1, q2⟩ := st
    exact ⟨k z (by simp) _ hz, k TI (by simp) _ ti, ⟨x, y, k TO (by simp) _ to⟩, q1.at fun o e => k i1 (by simp) o e, q2.at fun o e => k i2 (by simp) o e⟩
  item := by
    intro X hP hw hK hc i pins s σ H E I hf st hg
    subst hP hw hK
    obtain ⟨⟨hq1, hq2⟩, g1, g2⟩ := hg
    obtain ⟨its1, rv1, p1, _⟩ := I.list hq1
    obtain ⟨its2, rv2, p2, _⟩ := I.list hq2
    have hx : xs[i]? = some xs[i] := List.getElem?_eq_getElem g1
    have hy : ys[i]? = some ys[i] := List.getElem?_eq_getElem g2
    obtain ⟨u, hu, ru⟩ := rv1.get hx
    obtain ⟨v, hv, rv⟩ := rv2.get hy
    obtain ⟨za, zb, zto⟩ := st.to
    refine wpAny_pyNext_zip_item D st.hz st.ti zto st.h1 st.h2 p1.isList p2.isList (x := u) (y := v) (by simpa using hu) (by simpa using hv) fun h' a1' a2' a3' a4' hT _ hk => ?_
    have Z' : ZipAtL h' z TI TO i1 i2 a1 a2 (i + 1) (i + 1) (rawInt s.heap.objs.size) := ⟨a1', hk _ _ D.TIz D.TITO D.TIi1 D.TIi2 st.ti, ⟨_, _, a2'⟩, a3', a4'⟩
    refine ⟨_, rfl, wpAny_letOwnedTupleGo_zip Z'.hz fun h'' hz'' hs'' => ?_⟩
    have lt : ∀ {c o}, s.heap.get? c = some o → c < s.heap.objs.size := fun e => Heap.lt_size e
    have flt : ∀ c ∈ [z, TI, TO, i1, i2], c < s.heap.objs.size := fun c hc => by
      obtain ⟨hz, ti, ⟨_, _, to⟩, ⟨_, e1, _⟩, _, e2, _⟩ := st
      simp only [List.mem_cons, List.not_mem_nil, or_false] at hc
      rcases hc with rfl | rfl | rfl | rfl | rfl
      · exact lt hz
      · exact lt ti
      · exact lt to
      · exact lt e1
      · exact lt e2
    have hfr : H s.heap.objs.size = none := I.hok.fresh (Nat.le_refl _)
    have I1 : Inv X pins σ (upd H s.heap.objs.size (.tup [xs[i], ys[i]])) { s with heap := s.heap.push { cls := .type "tuple", data := .seq #[u, v] } } :=
      I.laid (t' := s.toks) (fun b o e => Heap.get?_push_of_some _ e) (Nat.le_refl _) ⟨Nat.le_trans (show 2 ≤ 20 by decide) (by decide), [u, v], .cons ru (.cons rv .nil), ⟨_, Heap.get?_push_size _ rfl, rfl, _, rfl⟩⟩
    have f1 : ∀ b ∈ [z, TI, TO, i1, i2], FpOk X pins (upd H s.heap.objs.size (.tup [xs[i], ys[i]])) b := fun b hb => ⟨by rw [jJ (Nat.ne_of_lt (flt b hb))]; exact (hf b hb).1, (hf b hb).2⟩
    have I2 := y7 (t' := s.toks) (h' := h'') I1 (fun b o hb eo => by
      have hbz : b ≠ z := fun e => hb (by simp [e])
      refine (hs''.2 b hbz).trans ?_
      by_cases hbs : b = s.heap.objs.size
      · subst hbs
        rw [Heap.get?_push_size _ rfl] at eo
        rw [← eo]; exact hT
      · have eo' : s.heap.get? b = some o := by
          rcases Heap.get?_push_cases eo with ⟨q, _⟩ | q
          · exact absurd q hbs
          · exact q
        exact hk b o hbz (fun e => hb (by simp [e])) (fun e => hb (by simp [e])) (fun e => hb (by simp [e])) eo') f1
    obtain ⟨_, ti', ⟨q1, q2, to'⟩, w1, w2⟩ := Z'
    exact ⟨.ref s.heap.objs.size, _, I2, rfl, ⟨_, _, _, hfr, hx, hy, rfl, rfl⟩, ⟨hz'', hs''.extBut _ _ D.TIz ti', ⟨q1, q2, hs''.extBut _ _ D.TOz to'⟩, w1.extBut hs''.extBut D.i1z, w2.extBut hs''.extBut D.i2z⟩, fun b hb => (f1 b hb).1⟩
  done := by
    intro X hP hw hK hc i pins s σ H E I hf st hg
    subst hP hw hK
    obtain ⟨⟨hq1, hq2⟩, g⟩ := hg
    obtain ⟨its1, rv1, p1, _⟩ := I.list hq1
    obtain ⟨its2, rv2, p2, _⟩ := I.list hq2
    have hl1 := rv1.length
    have hl2 := rv2.length
    obtain ⟨za, zb, zto⟩ := st.to
    refine wpAny_pyNext_zip_end (I.ok.hd hc) D st.hz st.ti zto st.h1 st.h2 p1.isList p2.isList (g.imp (fun g => by simp; omega) fun g => by simp; omega) fun h' hk => ⟨rfl, y7 (t' := s.toks) I (fun b o hb eo => hk b o (fun e => hb (by simp [e])) (fun e => hb (by simp [e])) (fun e => hb (by simp [e])) (fun e => hb (by simp [e])) eo) hf⟩
  self := fun _ _ _ _ _ st h => wpAny_pyIter_zip st.hz h
section
variable {X : Cx} {elts : List Expr} {n : Nat} {tpos p pos : Pos} {e1 e2 : Expr} {f1 f2 : Sl → Res D}
def YH (f1 f2 : Sl → Res D) : Sl → Res (List D) := fun env => f1 env >>= fun d => f2 env >>= fun e => match d, e with
  | .lst xs, .lst ys => .ok (zO xs ys)
  | _, _ => .stuck
theorem uP (hg : Gl X "zip") (hm : X.mg "zip" = none) (h1 : DE X .s e1 f1) (h2 : DE X .s e2 f2) (hs : starEach [e1, e2] X.env = (false, eval e1 X.env) :: starEach [e2] X.env := by exact jx rfl) (hs2 : starEach [e2] X.env = (false, eval e2 X.env) :: starEach [] X.env := by exact jx rfl)
    (hpl : (backTo pos (starEach [e2] X.env)).any (·.1) = false := by exact jR rfl) : DI X (.Tuple elts n tpos) (.Call (.Name "zip" p) [e1, e2] [] pos) (YH f1 f2) := by
  have hE1 : PE X e1 (tE X.K .s f1) := by with_unfolding_all exact h1
  have hE2 : PE X e2 (tE X.K .s f2) := by with_unfolding_all exact h2
  with_unfolding_all exact (show PI X (.Tuple elts n tpos) (.Call (.Name "zip" p) [e1, e2] [] pos) (tI X.K (YH f1 f2)) from by
    intro pins s σ H R I ⟨G, H0, env, ds, k, ef, q⟩
    obtain ⟨d1, c1, ef⟩ := jc ef
    obtain ⟨d2, c2, ef⟩ := jc ef
    have hA := qA hE1 (qA hE2 wN hs2) hs
    refine Call_ (y0 I hg hm VH (PyProof.Rows.callWith_type1 (thn (hA pos pins s σ H (fun vs H2 => ∃ v1 v2, vs = [v1, v2] ∧ Same H H2 ∧ Rep X.K (Sf G env σ) H2 v1 d1 ∧ Rep X.K (Sf G env σ) H2 v2 d2) I ⟨G, H0, env, d1, k, c1, fun v1 H1 s1 r1 _ => ⟨G, H0, env, d2, k.grow s1, c2, fun v2 H2 s2 r2 _ => ⟨v1, v2, rfl, s1.trans s2, r1.grow s2, r2⟩⟩⟩) fun us s1 ⟨vs, H1, I1, r1, v1, v2, ev, sm, rp1, rp2⟩ => ?_) hs hpl))
    subst ev
    obtain ⟨u1, u2, rfl, ru1, ru2⟩ := vA r1
    have k1 := k.grow sm
    split at ef
    · rename_i es1 es2
      cases ef
      obtain ⟨a1, xs, rfl, ha1, w1, rs1⟩ := rp1.lstE
      obtain ⟨a2, ys, rfl, ha2, w2, rs2⟩ := rp2.lstE
      cases ru1
      cases ru2
      obtain ⟨its1, rv1, p1, _⟩ := I1.list (.of ha1)
      obtain ⟨its2, rv2, p2, _⟩ := I1.list (.of ha2)
      have lt1 : a1 < s1.heap.objs.size := by obtain ⟨o, _, ho, _⟩ := p1; exact Heap.lt_size ho
      have lt2 : a2 < s1.heap.objs.size := by obtain ⟨o, _, ho, _⟩ := p2; exact Heap.lt_size ho
      refine call_zip_2 p1.isList p2.isList fun h' z1 z2 z3 z4 z5 _ hk => ?_
      have Z : ZipAtL h' (s1.heap.objs.size + 4) (s1.heap.objs.size + 2) (s1.heap.objs.size + 3) s1.heap.objs.size (s1.heap.objs.size + 1) a1 a2 0 0 .none := ⟨z1, z2, ⟨_, _, z3⟩, z4, z5⟩
      refine wpAny_pyIter_zip Z.hz ?_
      have I2 : Inv X pins σ H1 { s1 with heap := h' } := I1.kept (t' := s1.toks) hk
      refine ⟨s1.heap.objs.size + 4, [s1.heap.objs.size + 4, s1.heap.objs.size + 2, s1.heap.objs.size + 3, s1.heap.objs.size, s1.heap.objs.size + 1], _, _, H1, rfl, I2, YL xs ys (PyProof.Rows.zipApart_new lt1 lt2), Z, fun b hb => ?_, ?_⟩
      · have hb' : s1.heap.objs.size ≤ b := by
          simp only [List.mem_cons, List.not_mem_nil, or_false] at hb
          rcases hb with rfl | rfl | rfl | rfl | rfl <;> first | exact Nat.le_add_right _ _ | exact Nat.le_refl _
        exact I1.fpOk hb' (I1.hok.fresh hb')
      · refine q _ H1 (fun H => H a1 = some (.lst xs) ∧ H a2 = some (.lst ys)) sm (fun i H' pp => ?_) ⟨ha1, ha2⟩ fun env' σ' H' fr => ⟨fr.keep a1 _ ha1 fun ow => w1.1 ow, fr.keep a2 _ ha2 fun ow => w2.1 ow⟩
        have hl1 := rs1.length
        have hl2 := rs2.length
        have hq : SqL X.K H' a1 xs ∧ SqL X.K H' a2 ys := ⟨.of pp.1, .of pp.2⟩
        rw [JH]
        refine ⟨fun hi => ⟨hq, by omega, by omega⟩, fun d hd x H2 y => ?_, fun hi => ⟨hq, by omega⟩⟩
        obtain ⟨p, x', y', hp, hx', hy', rfl, rfl⟩ := y
        obtain ⟨dx, dy, hdx, hdy, rfl⟩ := JI _ _ _ _ hd
        obtain ⟨d', hd', rd⟩ := rs1.get' hx'
        obtain ⟨d'', hd'', rd'⟩ := rs2.get' hy'
        rw [hdx] at hd'; cases hd'
        rw [hdy] at hd''; cases hd''
        exact .inr ⟨p, _, _, hp, rfl, rfl, rfl, .cons (rd.weak fun _ z => z.1) (.cons (rd'.weak fun _ z => z.1) .nil)⟩
    · cases ef)
end
end M
namespace M
open PySem PySem.Spec L2
open PyProof.Rows hiding St
section
variable {X : Cx}
def dupL (i : Nat) : Sl → Res D := fun env => match env[i]? with
  | some (.own (.lst ds)) => .ok (.lst ds)
  | some (.shr (.lst ds)) => .ok (.lst ds)
  | _ => .stuck
theorem kq (i : Nat) {x : Str} {p p2 pos : Pos} (hg : Gl X "list") (hm : X.mg "list" = none) (hN : X.N[i]? = some x := by rfl) (hv : Vis X.env.scope x := by first | exact Or.inl rfl | exact Or.inr (Or.inl rfl) | exact Or.inr (Or.inr rfl)) (hd : (x == ("__debug__" : Str)) = false := by decide)
    (hcd : (x == ("__classdict__" : Str)) = false := by decide) (hs : starEach [.Name x p2] X.env = (false, eval (.Name x p2) X.env) :: starEach [] X.env := by exact jx rfl) : DE X .t (.Call (.Name "list" p) [.Name x p2] [] pos) (dupL i) := by
 with_unfolding_all exact (
  PE.imp (xK xc hg hm zy (qA (wf hN hv hd hcd) wN hs) (by decide) (by decide) hs (by exact jR rfl)) fun σ H Q ⟨G, H0, env, d, k, ef, q⟩ => by
    unfold dupL at ef
    split at ef
    · rename_i ds e
      cases ef
      obtain ⟨a, xs, ha, hx, rs⟩ := wx k e
      exact ⟨_, ha, a, xs, rfl, .inl (.of hx), fun l hl => q _ _ (Same.upd hl) (.lst jA (k.new l hl) (rs.laid hl)) (j4 (Same.refl H) hl)⟩
    · rename_i ds e
      cases ef
      obtain ⟨v, h1, h2⟩ := k.shr i _ e
      obtain ⟨a, xs, rfl, hx, _, rs⟩ := h2.lstE
      exact ⟨_, h1, a, xs, rfl, .inl (.of hx), fun l hl => q _ _ (Same.upd hl) (.lst jA (k.new l hl) (rs.low.laid hl)) (j4 (Same.refl H) hl)⟩
    · cases ef)
end
end M
namespace G
open PySem PySem.Spec L2 M
open PyProof.Rows hiding St
def top (i : Nat) : Stmt := PySem.Challenge.pw_endwise_k51_calls_told.main.body.getD i (.Pass ⟨0, 0, 0, 0⟩)
abbrev qr : Stmt := top 33
abbrev qH : Stmt := top 35
abbrev qI : Stmt := top 34
abbrev qX : Stmt := top 36
abbrev qF : Stmt := top 32
abbrev qt : Stmt := top 37
abbrev qY : Stmt := top 38
abbrev xl : Stmt := top 18
abbrev x6 : Stmt := top 20
abbrev JC : Stmt := top 19
abbrev qW : Stmt := top 22
abbrev qp : Stmt := top 17
abbrev zu : Stmt := top 16
abbrev zr : Stmt := top 11
abbrev zw : Stmt := top 13
abbrev we : Stmt := top 12
abbrev zt : Stmt := top 14
abbrev wc : Stmt := top 15
abbrev xm : Stmt := top 21
abbrev wd : Stmt := top 30
abbrev qV : Stmt := top 29
abbrev jO : Stmt := K0 (top 28) 0
abbrev qe : Stmt := K0 (top 28) 1
abbrev x5 : Stmt := top 23
abbrev x8 : Stmt := top 25
abbrev qG : Stmt := top 39
abbrev zx : Stmt := top 40
abbrev qJ : Stmt := top 41
abbrev J2 : Stmt := top 42
def zp : Sl → Res Out :=
  (seqO (qg 2 (two (two (cI 10) (cI 40) powI) (cI 121) addD))
  (retO (two (two (two (two (rdS 0) (rdS 2) modI) (cI 31415926535897932384626433832795) mulI) (two (two (two (two (rdS 1) (rdS 1) mulI) (two (cI 3) (rdS 1) mulI) addD) (cI 7) addD) (cI 2718281828459045235360287471) mulI) addD) (rdS 2) modI)))
def qP : List D → Res D := runF true 3 (zp)
def zQ : Sl → Res Out :=
  (seqO (qg 1 (cS "abcdefghijklmnopqrstuvwxyz"))
  (seqO (asgO (app (ja (rdS 0) (ja (cI 8) nil1)) zI) (g2 (gN 0) (gN 4)))
  (seqO (asgO (app (ja (rdS 0) (ja (two (rdS 4) (cI 1) addD) nil1)) zI) (g2 (gN 0) (gN 5)))
  (seqO (qg 2 (cS ""))
  (seqO (forO (rngF (ja (two (rdS 4) (cI 1) addD) nil1)) (gN 3) (seqO (asgO (app (ja (rdS 0) (ja (cI 26) nil1)) zI) (g2 (gN 0) (gN 6)))
    (qg 2 (two (rdS 2) (two (rdS 1) (rdS 6) ixD) addD))))
  (retO (qQ false 1 [2, 1, 5, 0] (rngF (ja (cI 5) nil1)) (gN 0) j8 (two (two (zB (rdS 1) Zc (wO (rdS 3)) slD) (two (rdS 2) (two (two (rdS 4) (two (cI 5) (rdS 0) mulI) addD) (cI 26) modI) ixD) addD) (zB (rdS 1) (wO (two (rdS 3) (cI 1) addD)) Zc slD) addD))))))))
def zV : List D → Res D := runF true 7 (zQ)
def zR : Sl → Res Out :=
  (seqO (qg 2 (two (two (two (rdS 0) (cI 69621) mulI) (two (two (rdS 1) (cI 1) addD) (cI 1000003) mulI) addD) (two (two (cI 10) (cI 30) powI) (cI 57) addD) modI))
  (retO (two (two (rdS 2) (rdS 2) mulI) (two (two (cI 10) (cI 30) powI) (cI 57) addD) modI)))
def jN : List D → Res D := runF true 3 (zR)
def q0 (f__law_term : List D → Res D) (f__law_mixed : List D → Res D) : Sl → Res Out :=
  (seqO (asgO (app (ja (rdS 0) (ja (cI 6) nil1)) zI) (g2 (gN 0) (gN 5)))
  (seqO (ifO (andB (asB (two (rdS 3) (lstF nil1) neR)) (orB (asB (two (rdS 5) (cI 0) eqR)) (andB (asB (two (rdS 2) (cI 0) eqR)) (asB (two (rdS 5) (cI 3) ltI))))) (retS (two (rdS 3) (two (rdS 0) (app (ja (rdS 3) nil1) lenD) modI) ixD)) nxO)
  (seqO (asgO (app (ja (rdS 0) (ja (cI 7) nil1)) zI) (g2 (gN 0) (gN 6)))
  (seqO (asgO (app (ja (rdS 0) (ja (cI 4) nil1)) zI) (g2 (gN 0) (gN 7)))
  (seqO (ifO (asB (two (rdS 2) (cI 0) eqR)) (qg 7 (cI 0)) nxO)
  (seqO (qg 4 (qQ false 1 [1, 3, 0, 2] (rngF (ja (rdS 7) nil1)) (gN 0) j8 (jo 4 f__law_term (ja (jo 2 f__law_mixed (ja (rdS 3) (ja (rdS 0) nil1))) (ja (rdS 1) (ja (two (rdS 4) (cI 1) subI) (ja (rdS 2) nil1)))))))
  (retO (app (ja (two (lstF (ja (two (rdS 1) (two (rdS 6) (cI 5) modI) ixD) nil1)) (rdS 4) addD) nil1) YO))))))))
def ql : Nat → List D → Res D
  | 0 => fun _ => .stuck
  | n + 1 => runF false 8 (q0 (ql n) jN)
def yp : Sl → Res Out :=
  (retO (toB (isiF "int" (rdS 0)) (notF (isiF "bool" (rdS 0))) true))
def jr : List D → Res D := runF true 1 (yp)
def qv (f__law_whole : List D → Res D) (f__law_blanks : List D → Res D) : Sl → Res Out :=
  (seqO (ifO (asB (jo 1 f__law_whole (ja (rdS 0) nil1))) (retO (lstF (ja (rdS 0) nil1))) nxO)
  (seqO (setO 1 (lstF nil1))
  (seqO (forO (itF (zB (rdS 0) (wO (cI 1)) Zc slD)) (gN 2) (qh 1 (jo 1 f__law_blanks (ja (rdS 2) nil1))))
  (retO (rdO 1)))))
def jH : Nat → List D → Res D
  | 0 => fun _ => .stuck
  | n + 1 => runF true 3 (qv jr (jH n))
def wE (f__law_term : List D → Res D) (f__law_whole : List D → Res D) (f__law_mixed : List D → Res D) (f__law_blanks : List D → Res D) : Sl → Res Out :=
  (seqO (qg 2 (lstF (ja (two (rdS 0) (cI 1000) modI) (ja (two (two (two (rdS 0) (cI 1) addD) (two (two (rdS 0) (cI 1000) divI) (cI 999) modI) addD) (cI 1000) modI) nil1))))
  (seqO (qg 3 (jo 4 f__law_term (ja (jo 2 f__law_mixed (ja (rdS 0) (ja (cI 1) nil1))) (ja (rdS 1) (ja (cI 2) (ja (rdS 2) nil1))))))
  (seqO (ifO (asB (jo 1 f__law_whole (ja (rdS 3) nil1))) (qg 3 (tupF (ja (two (rdS 1) (two (two (rdS 0) (two (cI 10) (cI 7) powI) divI) (cI 5) modI) ixD) (ja (rdS 3) nil1)))) nxO)
  (retO (tupF (ja (rdS 3) (ja (jo 4 f__law_term (ja (jo 2 f__law_mixed (ja (rdS 0) (ja (cI 2) nil1))) (ja (rdS 1) (ja (cI 3) (ja (jo 1 f__law_blanks (ja (rdS 3) nil1)) nil1))))) nil1)))))))
def qE : List D → Res D := runF true 4 (wE (ql 6) jr jN (jH 64))
def Xg : Sl → Res Out :=
  (retO (ifD (asB (isiF "tuple" (rdS 0))) (zB (rdS 0) (wO (cI 1)) Zc slD) (tupF nil1)))
def j3 : List D → Res D := runF true 1 (Xg)
def Jb (f_places : List D → Res D) (f_parts : List D → Res D) : Sl → Res Out :=
  (seqO (setO 1 (lstF (ja (rdS 0) nil1)))
  (seqO (forO (itF (jo 1 f_places (ja (rdS 0) nil1))) (gN 2) (qh 1 (jo 1 f_parts (ja (rdS 2) nil1))))
  (retO (rdO 1))))
def jK : Nat → List D → Res D
  | 0 => fun _ => .stuck
  | n + 1 => runF true 3 (Jb j3 (jK n))
def Xh : Sl → Res Out :=
  (retO (ifD (asB (isiF "tuple" (rdS 0))) (tupF (ja (two (rdS 0) (cI 0) ixD) (ja (two (app (ja (rdS 0) nil1) lenD) (cI 1) subI) nil1))) cN))
def qU : List D → Res D := runF true 1 (Xh)
def wD (f_parts : List D → Res D) (f_head : List D → Res D) : Sl → Res Out :=
  (seqO (setO 1 cDT)
  (seqO (forO (itF (rdS 0)) (gN 2) (forO (itF (jo 1 f_parts (ja (rdS 2) nil1))) (gN 3) (ifO (asB (isiF "tuple" (rdS 3))) (Zw 1 (jo 1 f_head (ja (rdS 3) nil1)) (cB true)) nxO)))
  (frzO 1 (retO (app (ja (rdS 1) nil1) yJ)))))
def zc : List D → Res D := runF true 4 (wD (jK 64) qU)
def zo (f_places : List D → Res D) : Sl → Res Out :=
  (seqO (setO 1 (lstF nil1))
  (seqO (forO (itF (rdS 0)) (gN 2) (qh 1 (jo 1 f_places (ja (rdS 2) nil1))))
  (retO (rdO 1))))
def qc : List D → Res D := runF true 3 (zo j3)
def xp (f_level_below : List D → Res D) : Sl → Res Out :=
  (seqO (qg 1 (lstF (ja (rdS 0) nil1)))
  (seqO (qg 2 (cI 0))
  (seqO (qg 3 (cI 0))
  (seqO (zk 2000 (truF (rdS 1)) (seqO (qg 2 (two (rdS 2) (cI 1) (augI fun i j => i + j)))
    (seqO (qg 3 (two (rdS 3) (app (ja (rdS 1) nil1) lenD) (augI fun i j => i + j)))
    (seqO (ifO (orB (asB (two (rdS 2) (cI 60) gtI)) (asB (two (rdS 3) (cI 1000) gtI))) (retO (cB true)) nxO)
    (qg 1 (jo 1 f_level_below (ja (rdS 1) nil1)))))))
  (retO (cB false))))))
def wq : List D → Res D := runF true 4 (xp qc)
def JR : Sl → Res Out :=
  (retO (toB (isiF "int" (rdS 0)) (notF (isiF "bool" (rdS 0))) true))
def ym : List D → Res D := runF true 1 (JR)
def xq (f_is_whole : List D → Res D) : Sl → Res Out :=
  (retO (toB (jo 1 f_is_whole (ja (rdS 0) nil1)) (Wv (cI 0) (rdS 0) (cI 999) leI leI) true))
def zA : List D → Res D := runF true 1 (xq ym)
def wW : Sl → Res Out :=
  (seqO (ifO (orB (notB (asB (isiF "str" (rdS 0)))) (notB (asB (Wv (cI 1) (app (ja (rdS 0) nil1) lenD) (cI 8) leI leI)))) (retO (cB false)) nxO)
  (retO (app (ja (qQ false 1 [] (itF (rdS 0)) (gN 0) j8 (two (rdS 0) (cS "abcdefghijklmnopqrstuvwxyz") inD)) nil1) allD)))
def xh : List D → Res D := runF true 1 (wW)
def wl (f_is_blank : List D → Res D) (f_is_name : List D → Res D) : Sl → Res Out :=
  (seqO (ifO (asB (isiF "tuple" (rdS 0))) (retO (toB (Wv (cI 1) (app (ja (rdS 0) nil1) lenD) (two (cI 9) (cI 1) addD) leI leI) (jo 1 f_is_name (ja (two (rdS 0) (cI 0) ixD) nil1)) true)) nxO)
  (retO (jo 1 f_is_blank (ja (rdS 0) nil1))))
def zz : List D → Res D := runF true 1 (wl zA xh)
def xO (f_is_great : List D → Res D) (f_is_piece : List D → Res D) (f_parts : List D → Res D) : Sl → Res Out :=
  (retO (toB (notF (jo 1 f_is_great (ja (rdS 0) nil1))) (app (ja (qQ false 1 [] (itF (jo 1 f_parts (ja (rdS 0) nil1))) (gN 0) j8 (jo 1 f_is_piece (ja (rdS 0) nil1))) nil1) allD) true))
def xf : List D → Res D := runF true 1 (xO wq zz (jK 64))
def yz (f_parts : List D → Res D) : Sl → Res Out :=
  (seqO (setO 1 cD)
  (seqO (forO (itF (jo 1 f_parts (ja (rdS 0) nil1))) (gN 2) (ifO (notB (asB (isiF "tuple" (rdS 2)))) (Vt 1 (rdS 2) (cB true)) nxO))
  (frzO 1 (retO (app (ja (rdS 1) nil1) UE)))))
def yF : List D → Res D := runF true 3 (yz (jK 64))
def xP (f_is_term : List D → Res D) (f_blanks : List D → Res D) : Sl → Res Out :=
  (seqO (ifO (orB (notB (asB (isiF "tuple" (rdS 0)))) (asB (two (app (ja (rdS 0) nil1) lenD) (cI 2) neR))) (retO (cB false)) nxO)
  (seqO (ifO (orB (notB (asB (jo 1 f_is_term (ja (two (rdS 0) (cI 0) ixD) nil1)))) (orB (notB (asB (jo 1 f_is_term (ja (two (rdS 0) (cI 1) ixD) nil1)))) (notB (asB (isiF "tuple" (two (rdS 0) (cI 0) ixD)))))) (retO (cB false)) nxO)
  (retO (two (two (jo 1 f_blanks (ja (two (rdS 0) (cI 1) ixD) nil1)) (jo 1 f_blanks (ja (two (rdS 0) (cI 0) ixD) nil1)) subL) (cI 0) eqR))))
def xg : List D → Res D := runF true 1 (xP xf yF)
def wC (f_is_rule : List D → Res D) : Sl → Res Out :=
  (seqO (ifO (orB (notB (asB (isiF "list" (rdS 0)))) (asB (two (app (ja (rdS 0) nil1) lenD) (cI 40) gtI))) (retO (cB false)) nxO)
  (retO (app (ja (qQ false 1 [] (itF (rdS 0)) (gN 0) j8 (jo 1 f_is_rule (ja (rdS 0) nil1))) nil1) allD)))
def qD : List D → Res D := runF true 1 (wC xg)
def jP (f_all_heads : List D → Res D) (f_are_rules : List D → Res D) : Sl → Res OutO :=
  (seqJ (ifJ (notB (asB (jo 1 f_are_rules (ja (rdS 1) nil1)))) kQ nxJ)
  (seqJ (VZ 0 "Rules" "listed" (app (ja (rdS 1) nil1) UF))
  (VZ 0 "Rules" "named" (jo 1 f_all_heads (ja (two (qQ false 2 [] (itF (rdS 1)) (g2 (gN 0) (gN 1)) j8 (rdS 0)) (qQ false 2 [] (itF (rdS 1)) (g2 (gN 0) (gN 1)) j8 (rdS 1)) addD) nil1)))))
def jQ : FO := runJ 2 1 (jP zc qD)
def zd : Sl → Res Out :=
  (retO (app (ja (fldF "Rules" "listed" (rdB 0)) nil1) UF))
def jM : List D → Res D := runF true 1 (zd)
def Qv (f_places : List D → Res D) (f_paths : List D → Res D) : Sl → Res Out :=
  (seqO (setO 1 (lstF (ja (tupF nil1) nil1)))
  (seqO (forO (UY (jo 1 f_places (ja (rdS 0) nil1))) (g2 (gN 2) (gN 3)) (qh 1 (qQ false 1 [2] (itF (jo 1 f_paths (ja (rdS 3) nil1))) (gN 0) j8 (two (tupF (ja (rdS 1) nil1)) (rdS 0) addD))))
  (retO (rdO 1))))
def qO : Nat → List D → Res D
  | 0 => fun _ => .stuck
  | n + 1 => runF true 4 (Qv j3 (qO n))
def Qw (f_Rules_o_told : List D → Res D) (f_paths : List D → Res D) (f_parts : List D → Res D) (f_head : List D → Res D) : Sl → Res Out :=
  (seqO (qg 1 (Qi "Rules" "told" 1 f_Rules_o_told (rdS 0) noA))
  (seqO (qg 2 (app (ja (qQ false 2 [] (itF (rdS 1)) (g2 (gN 0) (gN 1)) j8 (tupF (ja (jo 1 f_head (ja (rdS 0) nil1)) (ja (cB true) nil1)))) nil1) Zx))
  (seqO (setO 3 (lstF nil1))
  (seqO (forO (Yr (rdS 1)) (g2 (gN 4) (gN 5)) (forO (YH (jo 1 f_paths (ja (two (rdS 5) (cI 1) ixD) nil1)) (jo 1 f_parts (ja (two (rdS 5) (cI 1) ixD) nil1))) (g2 (gN 6) (gN 7)) (ifO (asB (two (jo 1 f_head (ja (rdS 7) nil1)) (rdS 2) inT)) (wI 3 (tupF (ja (rdS 4) (ja (rdS 6) nil1)))) nxO)))
  (retO (rdO 3))))))
def xi : List D → Res D := runF true 8 (Qw jM (qO 64) (jK 64) qU)
def zP (f__law_whole : List D → Res D) (f__law_parts : List D → Res D) : Sl → Res Out :=
  (seqO (setO 2 (lstF (ja (tupF (ja (rdS 1) (ja (rdS 0) nil1))) nil1)))
  (seqO (ifO (notB (asB (jo 1 f__law_whole (ja (rdS 0) nil1)))) (forO (rngF (ja (two (app (ja (rdS 0) nil1) lenD) (cI 1) subI) nil1)) (gN 3) (qh 2 (jo 2 f__law_parts (ja (two (rdS 0) (two (cI 1) (rdS 3) addE) ixD) (ja (two (rdS 1) (tupF (ja (rdS 3) nil1)) addE) nil1))))) nxO)
  (retO (rdO 2))))
def jU : Nat → List D → Res D
  | 0 => fun _ => .stuck
  | n + 1 => runF true 4 (zP jr (jU n))
def xr (f__law_parts : List D → Res D) (f__law_whole : List D → Res D) : Sl → Res Out :=
  (seqO (setO 1 cDT)
  (seqO (forO (itF (rdS 0)) (g2 (gN 3) (gN 4)) (Zw 1 (tupF (ja (two (rdS 3) (cI 0) ixD) (ja (app (ja (rdS 3) nil1) lenD) nil1))) (cB true)))
  (seqO (setO 2 (lstF nil1))
  (seqO (forO (Yr (rdS 0)) (g2 (gN 5) (gN 6)) (forO (itF (jo 2 f__law_parts (ja (two (rdS 6) (cI 1) ixD) (ja (tupF nil1) nil1)))) (g2 (gN 7) (gN 8)) (ifO (andB (notB (asB (jo 1 f__law_whole (ja (rdS 8) nil1)))) (asB (two (tupF (ja (two (rdS 8) (cI 0) ixD) (ja (app (ja (rdS 8) nil1) lenD) nil1))) (rdB 1) inT))) (wI 2 (tupF (ja (rdS 5) (ja (rdS 7) nil1)))) nxO)))
  (retO (rdO 2))))))
def qw : List D → Res D := runF true 9 (xr (jU 64) jr)
def zS (f__law_whole : List D → Res D) : Sl → Res Out :=
  (seqO (forO (itF (rdS 0)) (gN 1) (seqO (ifO (orB (notB (asB (isiF "tuple" (rdS 1)))) (orB (asB (two (app (ja (rdS 1) nil1) lenD) (cI 2) neR)) (notB (asB (jo 1 f__law_whole (ja (two (rdS 1) (cI 0) ixD) nil1)))))) (retO (cB false)) nxO)
    (ifO (orB (notB (asB (isiF "tuple" (two (rdS 1) (cI 1) ixD)))) (notB (asB (app (ja (qQ false 1 [] (itF (two (rdS 1) (cI 1) ixD)) (gN 0) j8 (jo 1 f__law_whole (ja (rdS 0) nil1))) nil1) allD)))) (retO (cB false)) nxO)))
  (retO (cB true)))
def qL : List D → Res D := runF true 2 (zS jr)
def US (f__law_spread : List D → Res D) (f__law_names : List D → Res D) (f__law_rule : List D → Res D) (f_Rules_o___init__ : FO) (f_calls : List D → Res D) (f__law_mixed : List D → Res D) (f__law_due : List D → Res D) (f__law_kinds : List D → Res D) (f_Rules_o_told : List D → Res D) : Sl → Res Out :=
  (seqO (qg 1 (jo 2 f__law_spread (ja (two (two (rdS 0) (lstF (ja (cI 0) nil1)) addS) (cI 0) ixD) (ja (cI 0) nil1))))
  (seqO (qg 2 (jo 1 f__law_names (ja (rdS 1) nil1)))
  (seqO (setO 3 (qQ false 1 [2, 1] (rngF (ja (two (two (rdS 1) (two (cI 10) (cI 20) powI) divW) (cI 6) modI) nil1)) (gN 0) j8 (jo 2 f__law_rule (ja (jo 2 f__law_mixed (ja (rdS 2) (ja (rdS 0) nil1))) (ja (rdS 1) nil1)))))
  (seqO (forO (Yr (two (lstF (ja (cI 0) nil1)) (zB (rdS 0) (wO (cI 1)) (wO (cI 11)) slS) addD)) (g2 (gN 4) (gN 5)) (seqO (qg 6 (jo 2 f__law_spread (ja (rdS 5) (ja (two (rdS 4) (cI 1) addD) nil1))))
    (seqO (ifO (asB (two (rdS 4) (cI 0) gtI)) (wI 3 (jo 2 f__law_rule (ja (rdS 6) (ja (rdS 2) nil1)))) nxO)
    (seqO (ifO (andB (asB (two (two (two (rdS 6) (cI 7) divW) (cI 3) modI) (cI 0) eqR)) (asB (two (rdB 3) (lstF nil1) neR))) (yd 3 (two (two (rdS 6) (cI 21) divW) (app (ja (rdB 3) nil1) lenD) modI) (two (rdB 3) (two (two (rdS 6) (cI 1000) divW) (app (ja (rdB 3) nil1) lenD) modI) ixD)) nxO)
    (seqO (qg 7 (Yf "Rules" 1 f_Rules_o___init__ (ja (dupL 3) nil1)))
    (seqO (setO 8 (jo 1 f_calls (ja (rdS 7) nil1)))
    (seqO (ifO (orB (notB (asB (isiF "list" (rdB 8)))) (orB (asB (two (rdB 8) (jo 1 f__law_due (ja (rdB 3) nil1)) neR)) (notB (asB (jo 1 f__law_kinds (ja (rdB 8) nil1)))))) (retO (cB false)) nxO)
    (seqO (VD 8)
    (ifO (orB (asB (two (jo 1 f_calls (ja (rdS 7) nil1)) (jo 1 f__law_due (ja (rdB 3) nil1)) neR)) (asB (two (Qi "Rules" "told" 1 f_Rules_o_told (rdS 7) noA) (rdB 3) neR))) (retO (cB false)) nxO)))))))))
  (retO (cB true))))))
def F_law : List D → Res D := runF true 9 (US qP zV qE jQ xi jN qw qL jM)
end G
namespace G
open PySem PySem.Spec L2 M
open PyProof.Rows hiding St
structure Gm (jq jf jg jl jh jk jj : Tok) (K : PySem.W.Frag) (mg : Str → Option Value) : Prop where
  b_isinstance : mg "isinstance" = none
  b_bool : mg "bool" = none
  b_int : mg "int" = none
  b_all : mg "all" = none
  b_len : mg "len" = none
  b_tuple : mg "tuple" = none
  b_list : mg "list" = none
  b_sorted : mg "sorted" = none
  b_set : mg "set" = none
  b_range : mg "range" = none
  b_divmod : mg "divmod" = none
  b_str : mg "str" = none
  b_enumerate : mg "enumerate" = none
  b_zip : mg "zip" = none
  b_dict : mg "dict" = none
  c_LETTERS : mg "LETTERS" = some (.str "abcdefghijklmnopqrstuvwxyz" jq)
  c_MOST_LETTERS : mg "MOST_LETTERS" = some (.int 8 jf)
  c_MOST_PLACES : mg "MOST_PLACES" = some (.int 9 jg)
  c_MOST_BLANK : mg "MOST_BLANK" = some (.int 999 jl)
  c_MOST_LEVELS : mg "MOST_LEVELS" = some (.int 60 jh)
  c_MOST_PARTS : mg "MOST_PARTS" = some (.int 1000 jk)
  c_MOST_RULES : mg "MOST_RULES" = some (.int 40 jj)
  f_Rules_listed : FldN K "Rules" "listed"
  f_Rules_named : FldN K "Rules" "named"
theorem sc__law_spread : FnScope ["_law_cell", "_law_k", "_law_big"] ["_law_cell", "_law_k"] (je qr) := ⟨rfl, rfl, rfl, by decide +kernel, rfl, by decide +kernel, by decide +kernel⟩
theorem sc__law_names : FnScope ["_law_number", "_law_letters", "_law_base", "_law_k", "_law_size", "_law_at", "_law_sign"] ["_law_number"] (je qH) := ⟨rfl, rfl, rfl, by decide +kernel, rfl, by decide +kernel, by decide +kernel⟩
theorem sc__law_mixed : FnScope ["_law_number", "_law_k", "_law_mixed_here"] ["_law_number", "_law_k"] (je qI) := ⟨rfl, rfl, rfl, by decide +kernel, rfl, by decide +kernel, by decide +kernel⟩
theorem sc__law_term : FnScope ["_law_number", "_law_names_here", "_law_deep", "_law_free", "_law_places", "_law_kind", "_law_which", "_law_count"] ["_law_number", "_law_names_here", "_law_deep", "_law_free"] (je qX) := ⟨rfl, rfl, rfl, by decide +kernel, rfl, by decide +kernel, by decide +kernel⟩
theorem J1 : FnScope ["_law_found"] ["_law_found"] (je qF) := ⟨rfl, rfl, rfl, by decide +kernel, rfl, by decide +kernel, by decide +kernel⟩
theorem sc__law_blanks : FnScope ["_law_term_here", "_law_found", "_law_place"] ["_law_term_here"] (je qt) := ⟨rfl, rfl, rfl, by decide +kernel, rfl, by decide +kernel, by decide +kernel⟩
theorem sc__law_rule : FnScope ["_law_number", "_law_names_here", "_law_free", "_law_left"] ["_law_number", "_law_names_here"] (je qY) := ⟨rfl, rfl, rfl, by decide +kernel, rfl, by decide +kernel, by decide +kernel⟩
theorem Y3 : FnScope ["term"] ["term"] (je xl) := ⟨rfl, rfl, rfl, by decide +kernel, rfl, by decide +kernel, by decide +kernel⟩
theorem sc_parts : FnScope ["term", "found", "place"] ["term"] (je x6) := ⟨rfl, rfl, rfl, by decide +kernel, rfl, by decide +kernel, by decide +kernel⟩
theorem vI : FnScope ["term"] ["term"] (je JC) := ⟨rfl, rfl, rfl, by decide +kernel, rfl, by decide +kernel, by decide +kernel⟩
theorem sc_all_heads : FnScope ["terms", "met", "term", "found"] ["terms"] (je qW) := ⟨rfl, rfl, rfl, by decide +kernel, rfl, by decide +kernel, by decide +kernel⟩
theorem sc_level_below : FnScope ["row", "below", "thing"] ["row"] (je qp) := ⟨rfl, rfl, rfl, by decide +kernel, rfl, by decide +kernel, by decide +kernel⟩
theorem sc_is_great : FnScope ["thing", "row", "depth", "counted"] ["thing"] (je zu) := ⟨rfl, rfl, rfl, by decide +kernel, rfl, by decide +kernel, by decide +kernel⟩
theorem ZX : FnScope ["thing"] ["thing"] (je zr) := ⟨rfl, rfl, rfl, by decide +kernel, rfl, by decide +kernel, by decide +kernel⟩
theorem ZZ : FnScope ["thing"] ["thing"] (je zw) := ⟨rfl, rfl, rfl, by decide +kernel, rfl, by decide +kernel, by decide +kernel⟩
theorem X2 : FnScope ["thing"] ["thing"] (je we) := ⟨rfl, rfl, rfl, by decide +kernel, rfl, by decide +kernel, by decide +kernel⟩
theorem ZY : FnScope ["thing"] ["thing"] (je zt) := ⟨rfl, rfl, rfl, by decide +kernel, rfl, by decide +kernel, by decide +kernel⟩
theorem X0 : FnScope ["thing"] ["thing"] (je wc) := ⟨rfl, rfl, rfl, by decide +kernel, rfl, by decide +kernel, by decide +kernel⟩
theorem sc_blanks : FnScope ["term", "met", "found"] ["term"] (je xm) := ⟨rfl, rfl, rfl, by decide +kernel, rfl, by decide +kernel, by decide +kernel⟩
theorem X1 : FnScope ["thing"] ["thing"] (je wd) := ⟨rfl, rfl, rfl, by decide +kernel, rfl, by decide +kernel, by decide +kernel⟩
theorem QR : FnScope ["thing"] ["thing"] (je qV) := ⟨rfl, rfl, rfl, by decide +kernel, rfl, by decide +kernel, by decide +kernel⟩
theorem xx : FnScope ["self", "rules"] ["self", "rules"] (je jO) := ⟨rfl, rfl, rfl, by decide +kernel, rfl, by decide +kernel, by decide +kernel⟩
theorem yK : FnScope ["self"] ["self"] (je qe) := ⟨rfl, rfl, rfl, by decide +kernel, rfl, by decide +kernel, by decide +kernel⟩
theorem sc_paths : FnScope ["term", "found", "number", "place"] ["term"] (je x5) := ⟨rfl, rfl, rfl, by decide +kernel, rfl, by decide +kernel, by decide +kernel⟩
theorem sc_calls : FnScope ["rules", "listed", "made", "found", "number", "rule", "path", "there"] ["rules"] (je x8) := ⟨rfl, rfl, rfl, by decide +kernel, rfl, by decide +kernel, by decide +kernel⟩
theorem sc__law_parts : FnScope ["_law_term_here", "_law_path", "_law_found", "_law_k"] ["_law_term_here", "_law_path"] (je qG) := ⟨rfl, rfl, rfl, by decide +kernel, rfl, by decide +kernel, by decide +kernel⟩
theorem sc__law_due : FnScope ["_law_some", "_law_made", "_law_due_here", "_law_left", "_law_right", "_law_number", "_law_rule_here", "_law_path", "_law_piece"] ["_law_some"] (je zx) := ⟨rfl, rfl, rfl, by decide +kernel, rfl, by decide +kernel, by decide +kernel⟩
theorem sc__law_kinds : FnScope ["_law_found", "_law_thing"] ["_law_found"] (je qJ) := ⟨rfl, rfl, rfl, by decide +kernel, rfl, by decide +kernel, by decide +kernel⟩
theorem sc_law : FnScope ["_law_script", "_law_lead", "_law_names_here", "_law_some", "_law_k", "_law_cell", "_law_number", "_law_rules", "_law_found"] ["_law_script"] (je J2) := ⟨rfl, rfl, rfl, by decide +kernel, rfl, by decide +kernel, by decide +kernel⟩
section
variable {P : Program} {w : World} {K : PySem.W.Frag} {mg : Str → Option Value} {base : Heap} {f : Addr} {fd : FuncData} {k : Nat} {jq jf jg jl jh jk jj : Tok}
theorem Jv (T : Gm jq jf jg jl jh jk jj K mg) (Fu : Fun K "_law_spread" "_law_spread" qr f fd) (hmg : mg "_law_spread" = some (.ref f)) (hbi : Binds K fd ["_law_cell", "_law_k"] []) :
    Av P w K mg base (k + 1) "_law_spread" ["_law_cell", "_law_k"] true (runF true 3 (zp)) :=
  zh true Fu hmg sc__law_spread hbi fun cdv A outer s H E hr =>
    (jm (by exact (qa 2 sc__law_spread.nd (DE.s (j7 jS qj (qi (l := .s) Q4 Za (jn (l := .b)) (jn (l := .b))) (jn (l := .s))))))
  (by exact (jp (jT (qi (l := .t) zC zD (DE.b (j7 jS qj (qi (l := .s) wU yo (qi (l := .b) zC zD (DE.b (dv 0)) (DE.b (dv 2))) (jn (l := .b))) (qi (l := .s) wU yo (DE.b (j7 jS qj (DE.s (j7 jS qj (qi (l := .s) wU yo (DE.b (dv 1)) (DE.b (dv 1))) (qi (l := .s) wU yo (jn (l := .b)) (DE.b (dv 1))))) (jn (l := .s)))) (jn (l := .b))))) (DE.b (dv 2)))))))
theorem Qc (T : Gm jq jf jg jl jh jk jj K mg) (Fu : Fun K "_law_names" "_law_names" qH f fd) (hmg : mg "_law_names" = some (.ref f)) (hbi : Binds K fd ["_law_number"] []) :
    Av P w K mg base (k + 1) "_law_names" ["_law_number"] true (runF true 7 (zQ)) :=
  zh true Fu hmg sc__law_names hbi fun cdv A outer s H E hr =>
    (jm (by exact (qa 1 sc__law_names.nd (vt (l := .s))))
  (by exact (jm (by exact (JS (DE.s (wH q9 wp rfl T.b_divmod qK (jb (dv 0) (jb (jn (l := .s)) ji)))) (zm rfl (ju 0 sc__law_names.nd) (ju 4 sc__law_names.nd))))
  (by exact (jm (by exact (JS (DE.s (wH q9 wp rfl T.b_divmod qK (jb (dv 0) (jb (by exact (DE.s (j7 jS qj (dv 4) (jn (l := .s))))) ji)))) (zm rfl (ju 0 sc__law_names.nd) (ju 5 sc__law_names.nd))))
  (by exact (jm (by exact (qa 2 sc__law_names.nd (vt (l := .s))))
  (by exact (jm (by exact (zl PassesOwn.never rfl (w9 rfl T.b_range (jb (by exact (DE.b (j7 jS qj (dv 4) (jn (l := .s))))) ji)) (ju 3 sc__law_names.nd) (jm (by exact (JS (DE.s (wH q9 wp rfl T.b_divmod qK (jb (dv 0) (jb (jn (l := .s)) ji)))) (zm rfl (ju 0 sc__law_names.nd) (ju 6 sc__law_names.nd))))
    (by exact (jp (qa 2 sc__law_names.nd (DE.s (j7 jS qj (dv 2) (zN (dv 1) (DE.b (dv 6)))))))))))
  (by exact (jp (jT (wG false ["_law_k", "_law_base", "_law_letters", "_law_at", "_law_number", "."] 1 [2, 1, 5, 0] (zK rfl rfl (show (["_law_k", "_law_base", "_law_letters", "_law_at", "_law_number", "."] : List Str).Nodup by decide +kernel) (by intro p hp; simp only [List.mem_cons, List.not_mem_nil, or_false] at hp; rcases hp with rfl | rfl | rfl | rfl <;> rfl) rfl) rfl (w9 rfl T.b_range (jb (jn (l := .b)) ji)) (fun C s₂ H₂ fp => ⟨(ju 0 (show (["_law_k", "_law_base", "_law_letters", "_law_at", "_law_number", "."] : List Str).Nodup by decide +kernel)), zH, (DE.s (j7 jS qj (DE.s (j7 jS qj (DE.s (yE (dv 1) QB (yi (DE.b (dv 3))))) (zN (dv 2) (qi (l := .b) zC zD (DE.b (j7 jS qj (dv 4) (qi (l := .s) wU yo (jn (l := .b)) (DE.b (dv 0))))) (jn (l := .b)))))) (DE.s (yE (dv 1) (yi (DE.b (j7 jS qj (dv 3) (jn (l := .s))))) QB))))⟩))))))))))))))
theorem Qd (T : Gm jq jf jg jl jh jk jj K mg) (Fu : Fun K "_law_mixed" "_law_mixed" qI f fd) (hmg : mg "_law_mixed" = some (.ref f)) (hbi : Binds K fd ["_law_number", "_law_k"] []) :
    Av P w K mg base (k + 1) "_law_mixed" ["_law_number", "_law_k"] true (runF true 3 (zR)) :=
  zh true Fu hmg sc__law_mixed hbi fun cdv A outer s H E hr =>
    (jm (by exact (qa 2 sc__law_mixed.nd (qi (l := .s) zC zD (DE.b (j7 jS qj (qi (l := .s) wU yo (DE.b (dv 0)) (jn (l := .b))) (qi (l := .s) wU yo (DE.b (j7 jS qj (dv 1) (jn (l := .s)))) (jn (l := .b))))) (DE.b (j7 jS qj (qi (l := .s) Q4 Za (jn (l := .b)) (jn (l := .b))) (jn (l := .s)))))))
  (by exact (jp (jT (qi (l := .t) zC zD (qi (l := .b) wU yo (DE.b (dv 2)) (DE.b (dv 2))) (DE.b (j7 jS qj (qi (l := .s) Q4 Za (jn (l := .b)) (jn (l := .b))) (jn (l := .s)))))))))
theorem Q8 {f__law_term : List D → Res D} {f__law_mixed : List D → Res D} (T : Gm jq jf jg jl jh jk jj K mg) (Fu : Fun K "_law_term" "_law_term" qX f fd) (hmg : mg "_law_term" = some (.ref f)) (hbi : Binds K fd ["_law_number", "_law_names_here", "_law_deep", "_law_free"] []) (wK : Av P w K mg base k "_law_term" ["_law_number", "_law_names_here", "_law_deep", "_law_free"] false f__law_term) (qM : Av P w K mg base k "_law_mixed" ["_law_number", "_law_k"] true f__law_mixed) :
    Av P w K mg base (k + 1) "_law_term" ["_law_number", "_law_names_here", "_law_deep", "_law_free"] false (runF false 8 (q0 f__law_term f__law_mixed)) :=
  zh false Fu hmg sc__law_term hbi fun cdv A outer s H E hr =>
    (jm (by exact (JS (DE.s (wH q9 wp rfl T.b_divmod qK (jb (dv 0) (jb (jn (l := .s)) ji)))) (zm rfl (ju 0 sc__law_term.nd) (ju 5 sc__law_term.nd))))
  (by exact (jm (by exact (zY (DW.dt (Xq (qS (yT (Room.u200 hr)) Wf (DE.b (dv 3)) (DE.b (zJ ji))) (QA (DW.dt (yh (qS (Q5 (Room.u200 hr)) Kw (DE.b (dv 5)) (jn (l := .b))) (xw (DW.dt (Xq (qS (Q5 (Room.u200 hr)) Kw (DE.b (dv 2)) (jn (l := .b))) (QA (qS jbQ jbR (DE.b (dv 5)) (jn (l := .b)))))))))))) (jp (uM (zN (dv 3) (qi (l := .b) zC zD (DE.b (dv 0)) (jZ (l' := .b) j6 wo rfl T.b_len PySem.boot_len (jb (DE.b (dv 3)) ji)))))) j0))
  (by exact (jm (by exact (JS (DE.s (wH q9 wp rfl T.b_divmod qK (jb (dv 0) (jb (jn (l := .s)) ji)))) (zm rfl (ju 0 sc__law_term.nd) (ju 6 sc__law_term.nd))))
  (by exact (jm (by exact (JS (DE.s (wH q9 wp rfl T.b_divmod qK (jb (dv 0) (jb (jn (l := .s)) ji)))) (zm rfl (ju 0 sc__law_term.nd) (ju 7 sc__law_term.nd))))
  (by exact (jm (by exact (zY (qS (Q5 (Room.u200 hr)) Kw (DE.b (dv 2)) (jn (l := .b))) (jp (qa 7 sc__law_term.nd (jn (l := .s)))) j0))
  (by exact (jm (by exact (kh 4 sc__law_term.nd false ["_law_k", "_law_names_here", "_law_free", "_law_number", "_law_deep", "."] 1 [1, 3, 0, 2] (zK rfl rfl (show (["_law_k", "_law_names_here", "_law_free", "_law_number", "_law_deep", "."] : List Str).Nodup by decide +kernel) (by intro p hp; simp only [List.mem_cons, List.not_mem_nil, or_false] at hp; rcases hp with rfl | rfl | rfl | rfl <;> rfl) rfl) rfl (w9 rfl T.b_range (jb (DE.b (dv 7)) ji)) (fun C s₂ H₂ fp => ⟨(ju 0 (show (["_law_k", "_law_names_here", "_law_free", "_law_number", "_law_deep", "."] : List Str).Nodup by decide +kernel)), zH, (by exact Av.call wK hr (jb (by exact (DE.s (by exact Av.callT qM hr (jb (dv 3) (jb (dv 0) ji))))) (jb (dv 1) (jb (by exact (qi (l := .s) Kn Ku (DE.b (dv 4)) (jn (l := .b)))) (jb (dv 2) ji)))))⟩)))
  (by exact (jp (jT (xa QE kF rfl T.b_tuple PyProof.Rows.boot_tuple (jb (by exact (DE.s (j7 jS qj (DE.s (zJ (jb (by exact (zN (dv 1) (qi (l := .b) zC zD (DE.b (dv 6)) (jn (l := .b))))) ji))) (dv 4)))) ji))))))))))))))))
theorem Qa (T : Gm jq jf jg jl jh jk jj K mg) (Fu : Fun K "_law_whole" "_law_whole" qF f fd) (hmg : mg "_law_whole" = some (.ref f)) (hbi : Binds K fd ["_law_found"] []) :
    Av P w K mg base (k + 1) "_law_whole" ["_law_found"] true (runF true 1 (yp)) :=
  zh true Fu hmg J1 hbi fun cdv A outer s H E hr =>
    (jp (jT (ZA (zn (l' := .b) "int" "int" Xa (DE.b (dv 0)) rfl T.b_isinstance rfl T.b_int PyProof.Rows.boot_int) (Zy (Vx (l := .t) (zn (l' := .b) "bool" "bool" Zl (DE.b (dv 0)) rfl T.b_isinstance rfl T.b_bool PyProof.Rows.boot_bool))))))
theorem Jw {f__law_whole : List D → Res D} {f__law_blanks : List D → Res D} (T : Gm jq jf jg jl jh jk jj K mg) (Fu : Fun K "_law_blanks" "_law_blanks" qt f fd) (hmg : mg "_law_blanks" = some (.ref f)) (hbi : Binds K fd ["_law_term_here"] []) (jV : Av P w K mg base k "_law_whole" ["_law_found"] true f__law_whole) (wL : Av P w K mg base k "_law_blanks" ["_law_term_here"] true f__law_blanks) :
    Av P w K mg base (k + 1) "_law_blanks" ["_law_term_here"] true (runF true 3 (qv f__law_whole f__law_blanks)) :=
  zh true Fu hmg sc__law_blanks hbi fun cdv A outer s H E hr =>
    (jm (by exact (zY (qx (DE.b (by exact Av.callT jV hr (jb (dv 0) ji)))) (jp (jT (zJ (jb (dv 0) ji)))) j0))
  (by exact (jm (by exact (w4 1 sc__law_blanks.nd (zJ ji)))
  (by exact (jm (by exact (zl PassesOwn.never rfl (zg (DE.s (yE (dv 0) (yi (jn (l := .b))) QB))) (ju 2 sc__law_blanks.nd) (jp (w5 1 (DE.s (by exact Av.callT wL hr (jb (dv 2) ji)))))))
  (by exact (jp (xC 1))))))))
theorem Q9 {f__law_term : List D → Res D} {f__law_whole : List D → Res D} {f__law_mixed : List D → Res D} {f__law_blanks : List D → Res D} (T : Gm jq jf jg jl jh jk jj K mg) (Fu : Fun K "_law_rule" "_law_rule" qY f fd) (hmg : mg "_law_rule" = some (.ref f)) (hbi : Binds K fd ["_law_number", "_law_names_here"] []) (wK : Av P w K mg base k "_law_term" ["_law_number", "_law_names_here", "_law_deep", "_law_free"] false f__law_term) (jV : Av P w K mg base k "_law_whole" ["_law_found"] true f__law_whole) (qM : Av P w K mg base k "_law_mixed" ["_law_number", "_law_k"] true f__law_mixed) (wL : Av P w K mg base k "_law_blanks" ["_law_term_here"] true f__law_blanks) :
    Av P w K mg base (k + 1) "_law_rule" ["_law_number", "_law_names_here"] true (runF true 4 (wE f__law_term f__law_whole f__law_mixed f__law_blanks)) :=
  zh true Fu hmg sc__law_rule hbi fun cdv A outer s H E hr =>
    (jm (by exact (qa 2 sc__law_rule.nd (DE.s (zJ (jb (by exact (qi (l := .s) zC zD (DE.b (dv 0)) (jn (l := .b)))) (jb (by exact (qi (l := .s) zC zD (DE.b (j7 jS qj (DE.s (j7 jS qj (dv 0) (jn (l := .s)))) (qi (l := .s) zC zD (qi (l := .b) Kp Kv (DE.b (dv 0)) (jn (l := .b))) (jn (l := .b))))) (jn (l := .b)))) ji))))))
  (by exact (jm (by exact (qa 3 sc__law_rule.nd (by exact Av.call wK hr (jb (by exact (DE.s (by exact Av.callT qM hr (jb (dv 0) (jb (jn (l := .s)) ji))))) (jb (dv 1) (jb (jn (l := .s)) (jb (dv 2) ji)))))))
  (by exact (jm (by exact (zY (qx (DE.b (by exact Av.callT jV hr (jb (dv 3) ji)))) (jp (qa 3 sc__law_rule.nd (DE.s (zU (jb (by exact (zN (dv 1) (qi (l := .b) zC zD (qi (l := .b) Kp Kv (DE.b (dv 0)) (qi (l := .b) Q4 Za (jn (l := .b)) (jn (l := .b)))) (jn (l := .b))))) (jb (dv 3) ji)))))) j0))
  (by exact (jp (jT (zU (jb (dv 3) (jb (by exact (by exact Av.call wK hr (jb (by exact (DE.s (by exact Av.callT qM hr (jb (dv 0) (jb (jn (l := .s)) ji))))) (jb (dv 1) (jb (jn (l := .s)) (jb (by exact (DE.s (by exact Av.callT wL hr (jb (dv 3) ji)))) ji)))))) ji)))))))))))
theorem Kr (T : Gm jq jf jg jl jh jk jj K mg) (Fu : Fun K "places" "places" xl f fd) (hmg : mg "places" = some (.ref f)) (hbi : Binds K fd ["term"] []) :
    Av P w K mg base (k + 1) "places" ["term"] true (runF true 1 (Xg)) :=
  zh true Fu hmg Y3 hbi fun cdv A outer s H E hr =>
    (jp (jT (vv (qx (zn (l' := .b) "tuple" "tuple" qu (DE.b (dv 0)) rfl T.b_isinstance rfl T.b_tuple PyProof.Rows.boot_tuple)) (yE (dv 0) (yi (jn (l := .b))) QB) (zU ji))))
theorem Uw {f_places : List D → Res D} {f_parts : List D → Res D} (T : Gm jq jf jg jl jh jk jj K mg) (Fu : Fun K "parts" "parts" x6 f fd) (hmg : mg "parts" = some (.ref f)) (hbi : Binds K fd ["term"] []) (xX : Av P w K mg base k "places" ["term"] true f_places) (wJ : Av P w K mg base k "parts" ["term"] true f_parts) :
    Av P w K mg base (k + 1) "parts" ["term"] true (runF true 3 (Jb f_places f_parts)) :=
  zh true Fu hmg sc_parts hbi fun cdv A outer s H E hr =>
    (jm (by exact (w4 1 sc_parts.nd (zJ (jb (dv 0) ji))))
  (by exact (jm (by exact (zl PassesOwn.never rfl (zg (DE.s (by exact Av.callT xX hr (jb (dv 0) ji)))) (ju 2 sc_parts.nd) (jp (w5 1 (DE.s (by exact Av.callT wJ hr (jb (dv 2) ji)))))))
  (by exact (jp (xC 1))))))
theorem uf (T : Gm jq jf jg jl jh jk jj K mg) (Fu : Fun K "head" "head" JC f fd) (hmg : mg "head" = some (.ref f)) (hbi : Binds K fd ["term"] []) :
    Av P w K mg base (k + 1) "head" ["term"] true (runF true 1 (Xh)) :=
  zh true Fu hmg vI hbi fun cdv A outer s H E hr =>
    (jp (jT (vv (qx (zn (l' := .b) "tuple" "tuple" qu (DE.b (dv 0)) rfl T.b_isinstance rfl T.b_tuple PyProof.Rows.boot_tuple)) (zU (jb (by exact (zN (dv 0) (jn (l := .b)))) (jb (by exact (qi (l := .s) Kn Ku (jZ (l' := .b) j6 wo rfl T.b_len PySem.boot_len (jb (DE.b (dv 0)) ji)) (jn (l := .b)))) ji))) (jbn (l := .t)))))
theorem Q7 {f_parts : List D → Res D} {f_head : List D → Res D} (T : Gm jq jf jg jl jh jk jj K mg) (Fu : Fun K "all_heads" "all_heads" qW f fd) (hmg : mg "all_heads" = some (.ref f)) (hbi : Binds K fd ["terms"] []) (wJ : Av P w K mg base k "parts" ["term"] true f_parts) (XM : Av P w K mg base k "head" ["term"] true f_head) :
    Av P w K mg base (k + 1) "all_heads" ["terms"] true (runF true 4 (wD f_parts f_head)) :=
  zh true Fu hmg sc_all_heads hbi fun cdv A outer s H E hr =>
    (jm (by exact (w4 1 sc_all_heads.nd Zz))
  (by exact (jm (by exact (zl PassesOwn.never rfl (zg (dv 0)) (ju 2 sc_all_heads.nd) (jp (zl PassesOwn.never rfl (zg (DE.s (by exact Av.callT wJ hr (jb (dv 2) ji)))) (ju 3 sc_all_heads.nd) (jp (zY (qx (zn (l' := .b) "tuple" "tuple" qu (DE.b (dv 3)) rfl T.b_isinstance rfl T.b_tuple PyProof.Rows.boot_tuple)) (jp (Xt 1 (K2 hr) (DE.b (by exact Av.callT XM hr (jb (dv 3) ji))) (xu (l := .s)))) j0))))))
  (by exact (jp (vn 1 (jT (wH (ZE rfl) Yu rfl T.b_sorted ZJ (jb (dv 1) ji)))))))))
theorem Ju {f_places : List D → Res D} (T : Gm jq jf jg jl jh jk jj K mg) (Fu : Fun K "level_below" "level_below" qp f fd) (hmg : mg "level_below" = some (.ref f)) (hbi : Binds K fd ["row"] []) (xX : Av P w K mg base k "places" ["term"] true f_places) :
    Av P w K mg base (k + 1) "level_below" ["row"] true (runF true 3 (zo f_places)) :=
  zh true Fu hmg sc_level_below hbi fun cdv A outer s H E hr =>
    (jm (by exact (w4 1 sc_level_below.nd (zJ ji)))
  (by exact (jm (by exact (zl PassesOwn.never rfl (zg (dv 0)) (ju 2 sc_level_below.nd) (jp (w5 1 (DE.s (by exact Av.callT xX hr (jb (dv 2) ji)))))))
  (by exact (jp (xC 1))))))
theorem Wc {f_level_below : List D → Res D} (T : Gm jq jf jg jl jh jk jj K mg) (Fu : Fun K "is_great" "is_great" zu f fd) (hmg : mg "is_great" = some (.ref f)) (hbi : Binds K fd ["thing"] []) (QH : Av P w K mg base k "level_below" ["row"] true f_level_below) :
    Av P w K mg base (k + 1) "is_great" ["thing"] true (runF true 4 (xp f_level_below)) :=
  zh true Fu hmg sc_is_great hbi fun cdv A outer s H E hr =>
    (jm (by exact (qa 1 sc_is_great.nd (DE.s (zJ (jb (dv 0) ji)))))
  (by exact (jm (by exact (qa 2 sc_is_great.nd (jn (l := .s))))
  (by exact (jm (by exact (qa 3 sc_is_great.nd (jn (l := .s))))
  (by exact (jm (by exact (kg 2000 PassesOwn.never (jbi (DE.b (dv 1))) (jm (by exact (vo 2 sc_is_great.nd (jn (l := .b)) vh))
    (by exact (jm (by exact (vo 3 sc_is_great.nd (jZ (l' := .b) j6 wo rfl T.b_len PySem.boot_len (jb (DE.b (dv 1)) ji)) vh))
    (by exact (jm (by exact (zY (DW.dt (yh (qS Ut Uy (DE.b (dv 2)) (yj (l := .b) rfl T.c_MOST_LEVELS)) (xw (qS Ut Uy (DE.b (dv 3)) (yj (l := .b) rfl T.c_MOST_PARTS))))) (jp (jT (xu (l := .t)))) j0))
    (by exact (jp (qa 1 sc_is_great.nd (DE.s (by exact Av.callT QH hr (jb (dv 1) ji)))))))))))))
  (by exact (jp (jT (xu (l := .t))))))))))))
theorem Wa (T : Gm jq jf jg jl jh jk jj K mg) (Fu : Fun K "is_whole" "is_whole" zr f fd) (hmg : mg "is_whole" = some (.ref f)) (hbi : Binds K fd ["thing"] []) :
    Av P w K mg base (k + 1) "is_whole" ["thing"] true (runF true 1 (JR)) :=
  zh true Fu hmg ZX hbi fun cdv A outer s H E hr =>
    (jp (jT (ZA (zn (l' := .b) "int" "int" Xa (DE.b (dv 0)) rfl T.b_isinstance rfl T.b_int PyProof.Rows.boot_int) (Zy (Vx (l := .t) (zn (l' := .b) "bool" "bool" Zl (DE.b (dv 0)) rfl T.b_isinstance rfl T.b_bool PyProof.Rows.boot_bool))))))
theorem Wd {f_is_whole : List D → Res D} (T : Gm jq jf jg jl jh jk jj K mg) (Fu : Fun K "is_blank" "is_blank" zw f fd) (hmg : mg "is_blank" = some (.ref f)) (hbi : Binds K fd ["thing"] []) (YD : Av P w K mg base k "is_whole" ["thing"] true f_is_whole) :
    Av P w K mg base (k + 1) "is_blank" ["thing"] true (runF true 1 (xq f_is_whole)) :=
  zh true Fu hmg ZZ hbi fun cdv A outer s H E hr =>
    (jp (jT (ZA (DE.b (by exact Av.callT YD hr (jb (dv 0) ji))) (Zy (Xv (l := .t) X5 X9 X5 X9 (jn (l := .b)) (DE.b (dv 0)) (yj (l := .b) rfl T.c_MOST_BLANK))))))
theorem X8 (T : Gm jq jf jg jl jh jk jj K mg) (Fu : Fun K "is_name" "is_name" we f fd) (hmg : mg "is_name" = some (.ref f)) (hbi : Binds K fd ["thing"] []) :
    Av P w K mg base (k + 1) "is_name" ["thing"] true (runF true 1 (wW)) :=
  zh true Fu hmg X2 hbi fun cdv A outer s H E hr =>
    (jm (by exact (zY (DW.dt (yh (zf (qx (zn (l' := .b) "str" "str" UK (DE.b (dv 0)) rfl T.b_isinstance rfl T.b_str PyProof.Rows.boot_str))) (xw (zf (ke X5 X9 X5 X9 (jn (l := .b)) (jZ (l' := .b) j6 wo rfl T.b_len PySem.boot_len (jb (DE.b (dv 0)) ji)) (yj (l := .b) rfl T.c_MOST_LETTERS)))))) (jp (jT (xu (l := .t)))) j0))
  (by exact (jp (jT (jZ (l' := .t) (xV rfl) XB rfl T.b_all PyProof.Rows.boot_all (jb (by exact (DE.b (wG false ["sign", "."] 1 [] (zK rfl rfl (show (["sign", "."] : List Str).Nodup by decide +kernel) (by intro p hp; cases hp) rfl) rfl (zg (dv 0)) (fun C s₂ H₂ fp => ⟨(ju 0 (show (["sign", "."] : List Str).Nodup by decide +kernel)), zH, (vw (l := .s) Ko jaS (DE.b (dv 0)) (uQ (l := .b) rfl T.c_LETTERS))⟩)))) ji))))))
theorem Wb {f_is_blank : List D → Res D} {f_is_name : List D → Res D} (T : Gm jq jf jg jl jh jk jj K mg) (Fu : Fun K "is_piece" "is_piece" zt f fd) (hmg : mg "is_piece" = some (.ref f)) (hbi : Binds K fd ["thing"] []) (YG : Av P w K mg base k "is_blank" ["thing"] true f_is_blank) (VS : Av P w K mg base k "is_name" ["thing"] true f_is_name) :
    Av P w K mg base (k + 1) "is_piece" ["thing"] true (runF true 1 (wl f_is_blank f_is_name)) :=
  zh true Fu hmg ZY hbi fun cdv A outer s H E hr =>
    (jm (by exact (zY (qx (zn (l' := .b) "tuple" "tuple" qu (DE.b (dv 0)) rfl T.b_isinstance rfl T.b_tuple PyProof.Rows.boot_tuple)) (jp (jT (ZA (Xv (l := .b) X5 X9 X5 X9 (jn (l := .b)) (jZ (l' := .b) j6 wo rfl T.b_len PySem.boot_len (jb (DE.b (dv 0)) ji)) (DE.b (j7 jS qj (yj (l := .s) rfl T.c_MOST_PLACES) (jn (l := .s))))) (Zy (by exact Av.callT VS hr (jb (by exact (zN (dv 0) (jn (l := .b)))) ji)))))) j0))
  (by exact (jp (jT (by exact Av.callT YG hr (jb (dv 0) ji))))))
theorem X6 {f_is_great : List D → Res D} {f_is_piece : List D → Res D} {f_parts : List D → Res D} (T : Gm jq jf jg jl jh jk jj K mg) (Fu : Fun K "is_term" "is_term" wc f fd) (hmg : mg "is_term" = some (.ref f)) (hbi : Binds K fd ["thing"] []) (YF : Av P w K mg base k "is_great" ["thing"] true f_is_great) (YE : Av P w K mg base k "is_piece" ["thing"] true f_is_piece) (wJ : Av P w K mg base k "parts" ["term"] true f_parts) :
    Av P w K mg base (k + 1) "is_term" ["thing"] true (runF true 1 (xO f_is_great f_is_piece f_parts)) :=
  zh true Fu hmg X0 hbi fun cdv A outer s H E hr =>
    (jp (jT (ZA (Vx (l := .b) (DE.b (by exact Av.callT YF hr (jb (dv 0) ji)))) (Zy (jZ (l' := .t) (xV rfl) XB rfl T.b_all PyProof.Rows.boot_all (jb (by exact (DE.b (wG false ["found", "."] 1 [] (zK rfl rfl (show (["found", "."] : List Str).Nodup by decide +kernel) (by intro p hp; cases hp) rfl) rfl (zg (DE.s (by exact Av.callT wJ hr (jb (dv 0) ji)))) (fun C s₂ H₂ fp => ⟨(ju 0 (show (["found", "."] : List Str).Nodup by decide +kernel)), zH, (DE.s (by exact Av.callT YE hr (jb (dv 0) ji)))⟩)))) ji))))))
theorem Ks {f_parts : List D → Res D} (T : Gm jq jf jg jl jh jk jj K mg) (Fu : Fun K "blanks" "blanks" xm f fd) (hmg : mg "blanks" = some (.ref f)) (hbi : Binds K fd ["term"] []) (wJ : Av P w K mg base k "parts" ["term"] true f_parts) :
    Av P w K mg base (k + 1) "blanks" ["term"] true (runF true 3 (yz f_parts)) :=
  zh true Fu hmg sc_blanks hbi fun cdv A outer s H E hr =>
    (jm (by exact (w4 1 sc_blanks.nd kr))
  (by exact (jm (by exact (zl PassesOwn.never rfl (zg (DE.s (by exact Av.callT wJ hr (jb (dv 0) ji)))) (ju 2 sc_blanks.nd) (jp (zY (zf (qx (zn (l' := .b) "tuple" "tuple" qu (DE.b (dv 2)) rfl T.b_isinstance rfl T.b_tuple PyProof.Rows.boot_tuple))) (jp (uN 1 (K2 hr) (DE.b (dv 2)) (xu (l := .s)))) j0))))
  (by exact (jp (vn 1 (jT (xa (Yv rfl) kG rfl T.b_list zy (jb (dv 1) ji)))))))))
theorem X7 {f_is_term : List D → Res D} {f_blanks : List D → Res D} (T : Gm jq jf jg jl jh jk jj K mg) (Fu : Fun K "is_rule" "is_rule" wd f fd) (hmg : mg "is_rule" = some (.ref f)) (hbi : Binds K fd ["thing"] []) (ZQ : Av P w K mg base k "is_term" ["thing"] true f_is_term) (XN : Av P w K mg base k "blanks" ["term"] true f_blanks) :
    Av P w K mg base (k + 1) "is_rule" ["thing"] true (runF true 1 (xP f_is_term f_blanks)) :=
  zh true Fu hmg X1 hbi fun cdv A outer s H E hr =>
    (jm (by exact (zY (DW.dt (yh (zf (qx (zn (l' := .b) "tuple" "tuple" qu (DE.b (dv 0)) rfl T.b_isinstance rfl T.b_tuple PyProof.Rows.boot_tuple))) (xw (qS (yT (Room.u200 hr)) Wf (jZ (l' := .b) j6 wo rfl T.b_len PySem.boot_len (jb (DE.b (dv 0)) ji)) (jn (l := .b)))))) (jp (jT (xu (l := .t)))) j0))
  (by exact (jm (by exact (zY (DW.dt (yh (zf (qx (DE.b (by exact Av.callT ZQ hr (jb (by exact (zN (dv 0) (jn (l := .b)))) ji))))) (yh (zf (qx (DE.b (by exact Av.callT ZQ hr (jb (by exact (zN (dv 0) (jn (l := .b)))) ji))))) (xw (zf (qx (zn (l' := .b) "tuple" "tuple" qu (DE.b (zN (dv 0) (jn (l := .b)))) rfl T.b_isinstance rfl T.b_tuple PyProof.Rows.boot_tuple))))))) (jp (jT (xu (l := .t)))) j0))
  (by exact (jp (jT (vw (l := .t) (Q5 (Room.u200 hr)) Kw (Vv rfl (by exact (DE.b (by exact Av.callT XN hr (jb (by exact (zN (dv 0) (jn (l := .b)))) ji)))) (by exact (DE.b (by exact Av.callT XN hr (jb (by exact (zN (dv 0) (jn (l := .b)))) ji)))) rfl T.b_len rfl T.b_set) (jn (l := .b)))))))))
theorem Q6 {f_is_rule : List D → Res D} (T : Gm jq jf jg jl jh jk jj K mg) (Fu : Fun K "are_rules" "are_rules" qV f fd) (hmg : mg "are_rules" = some (.ref f)) (hbi : Binds K fd ["thing"] []) (VR : Av P w K mg base k "is_rule" ["thing"] true f_is_rule) :
    Av P w K mg base (k + 1) "are_rules" ["thing"] true (runF true 1 (wC f_is_rule)) :=
  zh true Fu hmg QR hbi fun cdv A outer s H E hr =>
    (jm (by exact (zY (DW.dt (yh (zf (qx (zn (l' := .b) "list" "list" Zk (DE.b (dv 0)) rfl T.b_isinstance rfl T.b_list zy))) (xw (qS Ut Uy (jZ (l' := .b) j6 wo rfl T.b_len PySem.boot_len (jb (DE.b (dv 0)) ji)) (yj (l := .b) rfl T.c_MOST_RULES))))) (jp (jT (xu (l := .t)))) j0))
  (by exact (jp (jT (jZ (l' := .t) (xV rfl) XB rfl T.b_all PyProof.Rows.boot_all (jb (by exact (DE.b (wG false ["rule", "."] 1 [] (zK rfl rfl (show (["rule", "."] : List Str).Nodup by decide +kernel) (by intro p hp; cases hp) rfl) rfl (zg (dv 0)) (fun C s₂ H₂ fp => ⟨(ju 0 (show (["rule", "."] : List Str).Nodup by decide +kernel)), zH, (DE.s (by exact Av.callT VR hr (jb (dv 0) ji)))⟩)))) ji))))))
theorem xy {f_all_heads : List D → Res D} {f_are_rules : List D → Res D} {C : Addr} (T : Gm jq jf jg jl jh jk jj K mg) (Fu : Fun K "__init__" "Rules.__init__" jO f fd) (hC : PySem.W.nsIn K mainGlobals "Rules" = some (some (.ref C))) (hmg : mg "Rules" = some (.ref C)) (mk : Mk K C f) (hbi : Binds K fd ["self", "rules"] []) (WD : Av P w K mg base k "all_heads" ["terms"] true f_all_heads) (WC : Av P w K mg base k "are_rules" ["thing"] true f_are_rules) :
    AvK P w K mg base (k + 1) "Rules" 1 (runJ 2 1 (jP f_all_heads f_are_rules)) :=
  jbw Fu hC hmg mk xx hbi rfl (by decide) fun cdv A outer s H E hr =>
    (Zv (by exact (jbj (zf (qx (DE.b (by exact Av.callT WC hr (jb (dv 1) ji))))) (Xr Vq) kf))
  (by exact (Zv (by exact (Xs (i := 0) T.f_Rules_listed (by exact (DE.s (xa xc VE rfl T.b_list zy (jb (dv 1) ji))))))
  (by exact (Xr (Xs (i := 0) T.f_Rules_named (by exact (DE.s (by exact Av.callT WD hr (jb (by exact (DE.s (j7 jS qj (DE.s (wG false ["left", "right", "."] 2 [] (zK rfl rfl (show (["left", "right", "."] : List Str).Nodup by decide +kernel) (by intro p hp; cases hp) rfl) rfl (zg (dv 1)) (fun C s₂ H₂ fp => ⟨(zm rfl (ju 0 (show (["left", "right", "."] : List Str).Nodup by decide +kernel)) (ju 1 (show (["left", "right", "."] : List Str).Nodup by decide +kernel))), zH, (dv 0)⟩))) (DE.s (wG false ["left", "right", "."] 2 [] (zK rfl rfl (show (["left", "right", "."] : List Str).Nodup by decide +kernel) (by intro p hp; cases hp) rfl) rfl (zg (dv 1)) (fun C s₂ H₂ fp => ⟨(zm rfl (ju 0 (show (["left", "right", "."] : List Str).Nodup by decide +kernel)) (ju 1 (show (["left", "right", "."] : List Str).Nodup by decide +kernel))), zH, (dv 1)⟩)))))) ji))))))))))
theorem yU {C : Addr} (T : Gm jq jf jg jl jh jk jj K mg) (Fu : Fun K "told" "Rules.told" qe f fd) (hC : PySem.W.nsIn K mainGlobals "Rules" = some (some (.ref C))) (cl : Cls K C) (me : Meth K C "told" f) (hbi : Binds K fd ["self"] []) :
    AvM P w K mg base (k + 1) "Rules" "told" ["self"] true (runF true 1 (zd)) :=
  jbv true Fu hC cl me yK hbi fun cdv A outer s H E hr =>
    (jp (jT (xa xc VE rfl T.b_list zy (jb (by exact (uR 0 T.f_Rules_listed)) ji))))
theorem Uv {f_places : List D → Res D} {f_paths : List D → Res D} (T : Gm jq jf jg jl jh jk jj K mg) (Fu : Fun K "paths" "paths" x5 f fd) (hmg : mg "paths" = some (.ref f)) (hbi : Binds K fd ["term"] []) (xX : Av P w K mg base k "places" ["term"] true f_places) (WB : Av P w K mg base k "paths" ["term"] true f_paths) :
    Av P w K mg base (k + 1) "paths" ["term"] true (runF true 4 (Qv f_places f_paths)) :=
  zh true Fu hmg sc_paths hbi fun cdv A outer s H E hr =>
    (jm (by exact (w4 1 sc_paths.nd (zJ (jb (DE.s (zU ji)) ji))))
  (by exact (jm (by exact (zl PassesOwn.never rfl (ko rfl T.b_enumerate (by exact (DE.s (by exact Av.callT xX hr (jb (dv 0) ji))))) (zm rfl (ju 2 sc_paths.nd) (ju 3 sc_paths.nd)) (jp (w5 1 (DE.s (wG false ["rest", "number", "."] 1 [2] (zK rfl rfl (show (["rest", "number", "."] : List Str).Nodup by decide +kernel) (by intro p hp; simp only [List.mem_cons, List.not_mem_nil, or_false] at hp; rcases hp with rfl <;> rfl) rfl) rfl (zg (DE.s (by exact Av.callT WB hr (jb (dv 3) ji)))) (fun C s₂ H₂ fp => ⟨(ju 0 (show (["rest", "number", "."] : List Str).Nodup by decide +kernel)), zH, (DE.s (j7 jS qj (DE.s (zU (jb (dv 1) ji))) (dv 0)))⟩)))))))
  (by exact (jp (xC 1))))))
theorem Ux {f_Rules_o_told : List D → Res D} {f_paths : List D → Res D} {f_parts : List D → Res D} {f_head : List D → Res D} (T : Gm jq jf jg jl jh jk jj K mg) (Fu : Fun K "calls" "calls" x8 f fd) (hmg : mg "calls" = some (.ref f)) (hbi : Binds K fd ["rules"] []) (zZ : AvM P w K mg base k "Rules" "told" ["self"] true f_Rules_o_told) (WB : Av P w K mg base k "paths" ["term"] true f_paths) (wJ : Av P w K mg base k "parts" ["term"] true f_parts) (XM : Av P w K mg base k "head" ["term"] true f_head) :
    Av P w K mg base (k + 1) "calls" ["rules"] true (runF true 8 (Qw f_Rules_o_told f_paths f_parts f_head)) :=
  zh true Fu hmg sc_calls hbi fun cdv A outer s H E hr =>
    (jm (by exact (qa 1 sc_calls.nd (DE.s (by exact AvM.call0T zZ hr (dv 0)))))
  (by exact (jm (by exact (qa 2 sc_calls.nd (DE.s (xa (Yx rfl (ja9 hr)) kH rfl T.b_dict Yy (jb (by exact (DE.s (wG false ["left", "right", "."] 2 [] (zK rfl rfl (show (["left", "right", "."] : List Str).Nodup by decide +kernel) (by intro p hp; cases hp) rfl) rfl (zg (dv 1)) (fun C s₂ H₂ fp => ⟨(zm rfl (ju 0 (show (["left", "right", "."] : List Str).Nodup by decide +kernel)) (ju 1 (show (["left", "right", "."] : List Str).Nodup by decide +kernel))), zH, (DE.s (zU (jb (by exact (DE.s (by exact Av.callT XM hr (jb (dv 0) ji)))) (jb (xu (l := .s)) ji))))⟩)))) ji)))))
  (by exact (jm (by exact (w4 3 sc_calls.nd (zJ ji)))
  (by exact (jm (by exact (zl PassesOwn.never rfl (Ws rfl T.b_enumerate (dv 1)) (zm rfl (ju 4 sc_calls.nd) (ju 5 sc_calls.nd)) (jp (zl PassesOwn.never rfl (uP rfl T.b_zip (by exact (DE.s (by exact Av.callT WB hr (jb (by exact (zN (dv 5) (jn (l := .b)))) ji)))) (by exact (DE.s (by exact Av.callT wJ hr (jb (by exact (zN (dv 5) (jn (l := .b)))) ji))))) (zm rfl (ju 6 sc_calls.nd) (ju 7 sc_calls.nd)) (jp (zY (qS (kW (K2 hr)) kX (DE.b (by exact Av.callT XM hr (jb (dv 7) ji))) (DE.b (dv 2))) (jp (Jh 3 (DE.s (zU (jb (dv 4) (jb (dv 6) ji)))))) j0))))))
  (by exact (jp (xC 3))))))))))
theorem Qb {f__law_whole : List D → Res D} {f__law_parts : List D → Res D} (T : Gm jq jf jg jl jh jk jj K mg) (Fu : Fun K "_law_parts" "_law_parts" qG f fd) (hmg : mg "_law_parts" = some (.ref f)) (hbi : Binds K fd ["_law_term_here", "_law_path"] []) (jV : Av P w K mg base k "_law_whole" ["_law_found"] true f__law_whole) (xj : Av P w K mg base k "_law_parts" ["_law_term_here", "_law_path"] true f__law_parts) :
    Av P w K mg base (k + 1) "_law_parts" ["_law_term_here", "_law_path"] true (runF true 4 (zP f__law_whole f__law_parts)) :=
  zh true Fu hmg sc__law_parts hbi fun cdv A outer s H E hr =>
    (jm (by exact (w4 2 sc__law_parts.nd (zJ (jb (by exact (DE.s (zU (jb (dv 1) (jb (dv 0) ji))))) ji))))
  (by exact (jm (by exact (zY (zf (qx (DE.b (by exact Av.callT jV hr (jb (dv 0) ji))))) (jp (zl PassesOwn.never rfl (w9 rfl T.b_range (jb (by exact (qi (l := .b) Kn Ku (jZ (l' := .b) j6 wo rfl T.b_len PySem.boot_len (jb (DE.b (dv 0)) ji)) (jn (l := .b)))) ji)) (ju 3 sc__law_parts.nd) (jp (w5 2 (DE.s (by exact Av.callT xj hr (jb (by exact (zN (dv 0) (DE.b (j7 Kq Kx (jn (l := .s)) (dv 3))))) (jb (by exact (DE.s (j7 Kq Kx (dv 1) (DE.s (zU (jb (dv 3) ji)))))) ji)))))))) j0))
  (by exact (jp (xC 2))))))
theorem We {f__law_parts : List D → Res D} {f__law_whole : List D → Res D} (T : Gm jq jf jg jl jh jk jj K mg) (Fu : Fun K "_law_due" "_law_due" zx f fd) (hmg : mg "_law_due" = some (.ref f)) (hbi : Binds K fd ["_law_some"] []) (xj : Av P w K mg base k "_law_parts" ["_law_term_here", "_law_path"] true f__law_parts) (jV : Av P w K mg base k "_law_whole" ["_law_found"] true f__law_whole) :
    Av P w K mg base (k + 1) "_law_due" ["_law_some"] true (runF true 9 (xr f__law_parts f__law_whole)) :=
  zh true Fu hmg sc__law_due hbi fun cdv A outer s H E hr =>
    (jm (by exact (w4 1 sc__law_due.nd Zz))
  (by exact (jm (by exact (zl PassesOwn.never rfl (zg (dv 0)) (zm rfl (ju 3 sc__law_due.nd) (ju 4 sc__law_due.nd)) (jp (Xt 1 (K2 hr) (DE.b (zU (jb (by exact (zN (dv 3) (jn (l := .b)))) (jb (by exact (jZ (l' := .s) j6 wo rfl T.b_len PySem.boot_len (jb (DE.b (dv 3)) ji))) ji)))) (xu (l := .s))))))
  (by exact (jm (by exact (w4 2 sc__law_due.nd (zJ ji)))
  (by exact (jm (by exact (zl PassesOwn.never rfl (Ws rfl T.b_enumerate (dv 0)) (zm rfl (ju 5 sc__law_due.nd) (ju 6 sc__law_due.nd)) (jp (zl PassesOwn.never rfl (zg (DE.s (by exact Av.callT xj hr (jb (by exact (zN (dv 6) (jn (l := .b)))) (jb (DE.s (zU ji)) ji))))) (zm rfl (ju 7 sc__law_due.nd) (ju 8 sc__law_due.nd)) (jp (zY (DW.dt (Xq (zf (qx (DE.b (by exact Av.callT jV hr (jb (dv 8) ji))))) (QA (qS (kW (K2 hr)) kX (DE.b (zU (jb (by exact (zN (dv 8) (jn (l := .b)))) (jb (by exact (jZ (l' := .s) j6 wo rfl T.b_len PySem.boot_len (jb (DE.b (dv 8)) ji))) ji)))) (db 1))))) (jp (Jh 2 (DE.s (zU (jb (dv 5) (jb (dv 7) ji)))))) j0))))))
  (by exact (jp (xC 2))))))))))
theorem Qe {f__law_whole : List D → Res D} (T : Gm jq jf jg jl jh jk jj K mg) (Fu : Fun K "_law_kinds" "_law_kinds" qJ f fd) (hmg : mg "_law_kinds" = some (.ref f)) (hbi : Binds K fd ["_law_found"] []) (jV : Av P w K mg base k "_law_whole" ["_law_found"] true f__law_whole) :
    Av P w K mg base (k + 1) "_law_kinds" ["_law_found"] true (runF true 2 (zS f__law_whole)) :=
  zh true Fu hmg sc__law_kinds hbi fun cdv A outer s H E hr =>
    (jm (by exact (zl PassesOwn.never rfl (zg (dv 0)) (ju 1 sc__law_kinds.nd) (jm (by exact (zY (DW.dt (yh (zf (qx (zn (l' := .b) "tuple" "tuple" qu (DE.b (dv 1)) rfl T.b_isinstance rfl T.b_tuple PyProof.Rows.boot_tuple))) (yh (qS (yT (Room.u200 hr)) Wf (jZ (l' := .b) j6 wo rfl T.b_len PySem.boot_len (jb (DE.b (dv 1)) ji)) (jn (l := .b))) (xw (zf (qx (DE.b (by exact Av.callT jV hr (jb (by exact (zN (dv 1) (jn (l := .b)))) ji))))))))) (jp (jT (xu (l := .t)))) j0))
    (by exact (jp (zY (DW.dt (yh (zf (qx (zn (l' := .b) "tuple" "tuple" qu (DE.b (zN (dv 1) (jn (l := .b)))) rfl T.b_isinstance rfl T.b_tuple PyProof.Rows.boot_tuple))) (xw (zf (qx (jZ (l' := .b) (xV rfl) XB rfl T.b_all PyProof.Rows.boot_all (jb (by exact (DE.b (wG false ["_law_k", "."] 1 [] (zK rfl rfl (show (["_law_k", "."] : List Str).Nodup by decide +kernel) (by intro p hp; cases hp) rfl) rfl (zg (zN (dv 1) (jn (l := .b)))) (fun C s₂ H₂ fp => ⟨(ju 0 (show (["_law_k", "."] : List Str).Nodup by decide +kernel)), zH, (DE.s (by exact Av.callT jV hr (jb (dv 0) ji)))⟩)))) ji))))))) (jp (jT (xu (l := .t)))) j0))))))
  (by exact (jp (jT (xu (l := .t))))))
theorem jaQ {f__law_spread : List D → Res D} {f__law_names : List D → Res D} {f__law_rule : List D → Res D} {f_Rules_o___init__ : FO} {f_calls : List D → Res D} {f__law_mixed : List D → Res D} {f__law_due : List D → Res D} {f__law_kinds : List D → Res D} {f_Rules_o_told : List D → Res D} (T : Gm jq jf jg jl jh jk jj K mg) (Fu : Fun K "law" "law" J2 f fd) (xY : Av P w K mg base k "_law_spread" ["_law_cell", "_law_k"] true f__law_spread) (ZR : Av P w K mg base k "_law_names" ["_law_number"] true f__law_names) (Jr : Av P w K mg base k "_law_rule" ["_law_number", "_law_names_here"] true f__law_rule) {zF : Nat} (xZ : AvK P w K mg base zF "Rules" 1 f_Rules_o___init__) (xz : zF + 1 ≤ k) (VT : Av P w K mg base k "calls" ["rules"] true f_calls) (qM : Av P w K mg base k "_law_mixed" ["_law_number", "_law_k"] true f__law_mixed) (JU : Av P w K mg base k "_law_due" ["_law_some"] true f__law_due) (ZS : Av P w K mg base k "_law_kinds" ["_law_found"] true f__law_kinds) (zZ : AvM P w K mg base k "Rules" "told" ["self"] true f_Rules_o_told) :
    FnOk P w K mg base CX0 (k + 1) f fd ["_law_script"] (spF K true 1 (runF true 9 (US f__law_spread f__law_names f__law_rule f_Rules_o___init__ f_calls f__law_mixed f__law_due f__law_kinds f_Rules_o_told))) :=
  Yp true Fu sc_law fun cdv A outer s H E hr =>
    (jm (by exact (qa 1 sc_law.nd (DE.s (by exact Av.callT xY hr (jb (by exact (zN (DE.s (j7 ud uh (dv 0) (DE.s (zJ (jb (jn (l := .s)) ji))))) (jn (l := .b)))) (jb (jn (l := .s)) ji))))))
  (by exact (jm (by exact (qa 2 sc_law.nd (DE.s (by exact Av.callT ZR hr (jb (dv 1) ji)))))
  (by exact (jm (by exact (uO 3 sc_law.nd false ["_law_k", "_law_names_here", "_law_lead", "."] 1 [2, 1] (zK rfl rfl (show (["_law_k", "_law_names_here", "_law_lead", "."] : List Str).Nodup by decide +kernel) (by intro p hp; simp only [List.mem_cons, List.not_mem_nil, or_false] at hp; rcases hp with rfl | rfl <;> rfl) rfl) rfl (w9 rfl T.b_range (jb (by exact (qi (l := .b) zC zD (qi (l := .b) yx yy (DE.b (dv 1)) (qi (l := .b) Q4 Za (jn (l := .b)) (jn (l := .b)))) (jn (l := .b)))) ji)) (fun C s₂ H₂ fp => ⟨(ju 0 (show (["_law_k", "_law_names_here", "_law_lead", "."] : List Str).Nodup by decide +kernel)), zH, (DE.s (by exact Av.callT Jr hr (jb (by exact (DE.s (by exact Av.callT qM hr (jb (dv 2) (jb (dv 0) ji))))) (jb (dv 1) ji))))⟩)))
  (by exact (jm (by exact (zl PassesOwn.never rfl (Ws rfl T.b_enumerate (by exact (DE.s (j7 jS qj (DE.s (zJ (jb (jn (l := .s)) ji))) (DE.s (Vw (dv 0) (yi (jn (l := .b))) (yi (jn (l := .b))))))))) (zm rfl (ju 4 sc_law.nd) (ju 5 sc_law.nd)) (jm (by exact (qa 6 sc_law.nd (DE.s (by exact Av.callT xY hr (jb (dv 5) (jb (by exact (DE.s (j7 jS qj (dv 4) (jn (l := .s))))) ji))))))
    (by exact (jm (by exact (zY (qS Ut Uy (DE.b (dv 4)) (jn (l := .b))) (jp (Jh 3 (DE.s (by exact Av.callT Jr hr (jb (dv 6) (jb (dv 2) ji)))))) j0))
    (by exact (jm (by exact (zY (DW.dt (Xq (qS (Q5 (Room.u200 hr)) Kw (qi (l := .b) zC zD (qi (l := .b) yx yy (DE.b (dv 6)) (jn (l := .b))) (jn (l := .b))) (jn (l := .b))) (QA (qS (yT (Room.u200 hr)) Wf (db 3) (DE.b (zJ ji)))))) (jp (Vr 3 (by exact (qi (l := .b) zC zD (qi (l := .b) yx yy (DE.b (dv 6)) (jn (l := .b))) (jZ (l' := .b) j6 wo rfl T.b_len PySem.boot_len (jb (db 3) ji)))) (by exact (jbo 3 (qi (l := .b) zC zD (qi (l := .b) yx yy (DE.b (dv 6)) (jn (l := .b))) (jZ (l' := .b) j6 wo rfl T.b_len PySem.boot_len (jb (db 3) ji))))))) j0))
    (by exact (jm (by exact (qa 7 sc_law.nd (DE.s (by exact AvK.make xZ (hr.mono xz) (by exact (jb (by exact (DE.s (kq 3 rfl T.b_list))) ji))))))
    (by exact (jm (by exact (w4 8 sc_law.nd (by exact Av.callT VT hr (jb (dv 7) ji))))
    (by exact (jm (by exact (zY (DW.dt (yh (zf (qx (zn (l' := .b) "list" "list" Zk (db 8) rfl T.b_isinstance rfl T.b_list zy))) (yh (qS (yT (Room.u200 hr)) Wf (db 8) (by exact Av.callA JU hr (jb (db 3) ji))) (xw (zf (qx (by exact Av.callA ZS hr (jb (db 8) ji)))))))) (jp (jT (xu (l := .t)))) j0))
    (by exact (jm (by exact (ki 8))
    (by exact (jp (zY (DW.dt (yh (qS (yT (Room.u200 hr)) Wf (DE.b (by exact Av.callT VT hr (jb (dv 7) ji))) (by exact Av.callA JU hr (jb (db 3) ji))) (xw (qS (yT (Room.u200 hr)) Wf (DE.b (by exact AvM.call0T zZ hr (dv 7))) (db 3))))) (jp (jT (xu (l := .t)))) j0))))))))))))))))))
  (by exact (jp (jT (xu (l := .t))))))))))))
end
end G
namespace G
open PySem PySem.Spec L2 M
open PyProof.Rows hiding St
theorem all_mk {l : PySem.W.OpenLaw} {w : World} {K : PySem.W.Frag} {h : Heap} {mg : Str → Option Value} {fa p0 p1 p2 p3 p4 p5 p6 p7 p8 p9 p10 p11 p12 p13 p14 p15 p16 p17 p18 p19 p20 p21 p22 p23 p24 p25 p26 p27 p28 : Addr} (KX : K.In h) (G : h.Ns mainGlobals mg) (hfa : mg "law" = some (.ref fa))
    {od0 an0 od1 an1 od2 an2 od3 an3 od4 an4 od5 an5 od6 an6 od7 an7 od8 an8 od9 an9 od10 an10 od11 an11 od12 an12 od13 an13 od14 an14 od15 an15 od16 an16 od17 an17 od18 an18 od19 an19 od20 an20 od21 an21 od22 an22 od23 an23 od24 an24 od25 an25 od26 an26 od27 an27 od28 an28 : Option Addr} {sl0 sl1 sl2 sl3 sl4 sl5 sl6 sl7 sl8 sl9 sl10 sl11 sl12 sl13 sl14 sl15 sl16 sl17 sl18 sl19 sl20 sl21 sl22 sl23 sl24 sl25 sl26 sl27 sl28 : Array (Option Value)} {oc0 kV0 dc0 pm0 cd0 ct0 oc1 kV1 dc1 pm1 cd1 ct1 oc2 kV2 dc2 pm2 cd2 ct2 oc3 kV3 dc3 pm3 cd3 ct3 oc4 kV4 dc4 pm4 cd4 ct4 oc5 kV5 dc5 pm5 cd5 ct5 oc6 kV6 dc6 pm6 cd6 ct6 oc7 kV7 dc7 pm7 cd7 ct7 oc8 kV8 dc8 pm8 cd8 ct8 oc9 kV9 dc9 pm9 cd9 ct9 oc10 kV10 dc10 pm10 cd10 ct10 oc11 kV11 dc11 pm11 cd11 ct11 oc12 kV12 dc12 pm12 cd12 ct12 oc13 kV13 dc13 pm13 cd13 ct13 oc14 kV14 dc14 pm14 cd14 ct14 oc15 kV15 dc15 pm15 cd15 ct15 oc16 kV16 dc16 pm16 cd16 ct16 oc17 kV17 dc17 pm17 cd17 ct17 oc18 kV18 dc18 pm18 cd18 ct18 oc19 kV19 dc19 pm19 cd19 ct19 oc20 kV20 dc20 pm20 cd20 ct20 oc21 kV21 dc21 pm21 cd21 ct21 oc22 kV22 dc22 pm22 cd22 ct22 oc23 kV23 dc23 pm23 cd23 ct23 oc24 kV24 dc24 pm24 cd24 ct24 oc25 kV25 dc25 pm25 cd25 ct25 oc26 kV26 dc26 pm26 cd26 ct26 oc27 kV27 dc27 pm27 cd27 ct27 oc28 kV28 dc28 pm28 cd28 ct28 : Value} {jq jf jg jl jh jk jj : Tok} {a_Rules : Addr}
    (a0 : PySem.W.nsIn K mainGlobals "_law_spread" = some (some (.ref p0))) (l0 : K.lookup p0 = some ⟨oc0, od0, .func (PySem.W.fnOf "_law_spread" "_law_spread" (jF qr) (jD qr) (je qr) .none kV0 dc0 pm0 an0 cd0 ct0), sl0⟩) (c0 : PySem.W.codeIn K cd0 "_law_spread" = true) (k0 : PySem.W.keepIn K (.ref p0) = true)
    (a1 : PySem.W.nsIn K mainGlobals "_law_names" = some (some (.ref p1))) (l1 : K.lookup p1 = some ⟨oc1, od1, .func (PySem.W.fnOf "_law_names" "_law_names" (jF qH) (jD qH) (je qH) .none kV1 dc1 pm1 an1 cd1 ct1), sl1⟩) (c1 : PySem.W.codeIn K cd1 "_law_names" = true) (k1 : PySem.W.keepIn K (.ref p1) = true)
    (a2 : PySem.W.nsIn K mainGlobals "_law_mixed" = some (some (.ref p2))) (l2 : K.lookup p2 = some ⟨oc2, od2, .func (PySem.W.fnOf "_law_mixed" "_law_mixed" (jF qI) (jD qI) (je qI) .none kV2 dc2 pm2 an2 cd2 ct2), sl2⟩) (c2 : PySem.W.codeIn K cd2 "_law_mixed" = true) (k2 : PySem.W.keepIn K (.ref p2) = true)
    (a3 : PySem.W.nsIn K mainGlobals "_law_term" = some (some (.ref p3))) (l3 : K.lookup p3 = some ⟨oc3, od3, .func (PySem.W.fnOf "_law_term" "_law_term" (jF qX) (jD qX) (je qX) .none kV3 dc3 pm3 an3 cd3 ct3), sl3⟩) (c3 : PySem.W.codeIn K cd3 "_law_term" = true) (k3 : PySem.W.keepIn K (.ref p3) = true)
    (a4 : PySem.W.nsIn K mainGlobals "_law_whole" = some (some (.ref p4))) (l4 : K.lookup p4 = some ⟨oc4, od4, .func (PySem.W.fnOf "_law_whole" "_law_whole" (jF qF) (jD qF) (je qF) .none kV4 dc4 pm4 an4 cd4 ct4), sl4⟩) (c4 : PySem.W.codeIn K cd4 "_law_whole" = true) (k4 : PySem.W.keepIn K (.ref p4) = true)
    (a5 : PySem.W.nsIn K mainGlobals "_law_blanks" = some (some (.ref p5))) (l5 : K.lookup p5 = some ⟨oc5, od5, .func (PySem.W.fnOf "_law_blanks" "_law_blanks" (jF qt) (jD qt) (je qt) .none kV5 dc5 pm5 an5 cd5 ct5), sl5⟩) (c5 : PySem.W.codeIn K cd5 "_law_blanks" = true) (k5 : PySem.W.keepIn K (.ref p5) = true)
    (a6 : PySem.W.nsIn K mainGlobals "_law_rule" = some (some (.ref p6))) (l6 : K.lookup p6 = some ⟨oc6, od6, .func (PySem.W.fnOf "_law_rule" "_law_rule" (jF qY) (jD qY) (je qY) .none kV6 dc6 pm6 an6 cd6 ct6), sl6⟩) (c6 : PySem.W.codeIn K cd6 "_law_rule" = true) (k6 : PySem.W.keepIn K (.ref p6) = true)
    (a7 : PySem.W.nsIn K mainGlobals "places" = some (some (.ref p7))) (l7 : K.lookup p7 = some ⟨oc7, od7, .func (PySem.W.fnOf "places" "places" (jF xl) (jD xl) (je xl) .none kV7 dc7 pm7 an7 cd7 ct7), sl7⟩) (c7 : PySem.W.codeIn K cd7 "places" = true) (k7 : PySem.W.keepIn K (.ref p7) = true)
    (a8 : PySem.W.nsIn K mainGlobals "parts" = some (some (.ref p8))) (l8 : K.lookup p8 = some ⟨oc8, od8, .func (PySem.W.fnOf "parts" "parts" (jF x6) (jD x6) (je x6) .none kV8 dc8 pm8 an8 cd8 ct8), sl8⟩) (c8 : PySem.W.codeIn K cd8 "parts" = true) (k8 : PySem.W.keepIn K (.ref p8) = true)
    (a9 : PySem.W.nsIn K mainGlobals "head" = some (some (.ref p9))) (l9 : K.lookup p9 = some ⟨oc9, od9, .func (PySem.W.fnOf "head" "head" (jF JC) (jD JC) (je JC) .none kV9 dc9 pm9 an9 cd9 ct9), sl9⟩) (c9 : PySem.W.codeIn K cd9 "head" = true) (k9 : PySem.W.keepIn K (.ref p9) = true)
    (a10 : PySem.W.nsIn K mainGlobals "all_heads" = some (some (.ref p10))) (l10 : K.lookup p10 = some ⟨oc10, od10, .func (PySem.W.fnOf "all_heads" "all_heads" (jF qW) (jD qW) (je qW) .none kV10 dc10 pm10 an10 cd10 ct10), sl10⟩) (c10 : PySem.W.codeIn K cd10 "all_heads" = true) (k10 : PySem.W.keepIn K (.ref p10) = true)
    (a11 : PySem.W.nsIn K mainGlobals "level_below" = some (some (.ref p11))) (l11 : K.lookup p11 = some ⟨oc11, od11, .func (PySem.W.fnOf "level_below" "level_below" (jF qp) (jD qp) (je qp) .none kV11 dc11 pm11 an11 cd11 ct11), sl11⟩) (c11 : PySem.W.codeIn K cd11 "level_below" = true) (k11 : PySem.W.keepIn K (.ref p11) = true)
    (a12 : PySem.W.nsIn K mainGlobals "is_great" = some (some (.ref p12))) (l12 : K.lookup p12 = some ⟨oc12, od12, .func (PySem.W.fnOf "is_great" "is_great" (jF zu) (jD zu) (je zu) .none kV12 dc12 pm12 an12 cd12 ct12), sl12⟩) (c12 : PySem.W.codeIn K cd12 "is_great" = true) (k12 : PySem.W.keepIn K (.ref p12) = true)
    (a13 : PySem.W.nsIn K mainGlobals "is_whole" = some (some (.ref p13))) (l13 : K.lookup p13 = some ⟨oc13, od13, .func (PySem.W.fnOf "is_whole" "is_whole" (jF zr) (jD zr) (je zr) .none kV13 dc13 pm13 an13 cd13 ct13), sl13⟩) (c13 : PySem.W.codeIn K cd13 "is_whole" = true) (k13 : PySem.W.keepIn K (.ref p13) = true)
    (a14 : PySem.W.nsIn K mainGlobals "is_blank" = some (some (.ref p14))) (l14 : K.lookup p14 = some ⟨oc14, od14, .func (PySem.W.fnOf "is_blank" "is_blank" (jF zw) (jD zw) (je zw) .none kV14 dc14 pm14 an14 cd14 ct14), sl14⟩) (c14 : PySem.W.codeIn K cd14 "is_blank" = true) (k14 : PySem.W.keepIn K (.ref p14) = true)
    (a15 : PySem.W.nsIn K mainGlobals "is_name" = some (some (.ref p15))) (l15 : K.lookup p15 = some ⟨oc15, od15, .func (PySem.W.fnOf "is_name" "is_name" (jF we) (jD we) (je we) .none kV15 dc15 pm15 an15 cd15 ct15), sl15⟩) (c15 : PySem.W.codeIn K cd15 "is_name" = true) (k15 : PySem.W.keepIn K (.ref p15) = true)
    (a16 : PySem.W.nsIn K mainGlobals "is_piece" = some (some (.ref p16))) (l16 : K.lookup p16 = some ⟨oc16, od16, .func (PySem.W.fnOf "is_piece" "is_piece" (jF zt) (jD zt) (je zt) .none kV16 dc16 pm16 an16 cd16 ct16), sl16⟩) (c16 : PySem.W.codeIn K cd16 "is_piece" = true) (k16 : PySem.W.keepIn K (.ref p16) = true)
    (a17 : PySem.W.nsIn K mainGlobals "is_term" = some (some (.ref p17))) (l17 : K.lookup p17 = some ⟨oc17, od17, .func (PySem.W.fnOf "is_term" "is_term" (jF wc) (jD wc) (je wc) .none kV17 dc17 pm17 an17 cd17 ct17), sl17⟩) (c17 : PySem.W.codeIn K cd17 "is_term" = true) (k17 : PySem.W.keepIn K (.ref p17) = true)
    (a18 : PySem.W.nsIn K mainGlobals "blanks" = some (some (.ref p18))) (l18 : K.lookup p18 = some ⟨oc18, od18, .func (PySem.W.fnOf "blanks" "blanks" (jF xm) (jD xm) (je xm) .none kV18 dc18 pm18 an18 cd18 ct18), sl18⟩) (c18 : PySem.W.codeIn K cd18 "blanks" = true) (k18 : PySem.W.keepIn K (.ref p18) = true)
    (a19 : PySem.W.nsIn K mainGlobals "is_rule" = some (some (.ref p19))) (l19 : K.lookup p19 = some ⟨oc19, od19, .func (PySem.W.fnOf "is_rule" "is_rule" (jF wd) (jD wd) (je wd) .none kV19 dc19 pm19 an19 cd19 ct19), sl19⟩) (c19 : PySem.W.codeIn K cd19 "is_rule" = true) (k19 : PySem.W.keepIn K (.ref p19) = true)
    (a20 : PySem.W.nsIn K mainGlobals "are_rules" = some (some (.ref p20))) (l20 : K.lookup p20 = some ⟨oc20, od20, .func (PySem.W.fnOf "are_rules" "are_rules" (jF qV) (jD qV) (je qV) .none kV20 dc20 pm20 an20 cd20 ct20), sl20⟩) (c20 : PySem.W.codeIn K cd20 "are_rules" = true) (k20 : PySem.W.keepIn K (.ref p20) = true)
    (a21 : PySem.W.findIn K (.ref a_Rules) "__init__" = some (some (.ref p21))) (i21 : PySem.W.isFn K (.ref p21) = true) (l21 : K.lookup p21 = some ⟨oc21, od21, .func (PySem.W.fnOf "__init__" "Rules.__init__" (jF jO) (jD jO) (je jO) .none kV21 dc21 pm21 an21 cd21 ct21), sl21⟩) (c21 : PySem.W.codeIn K cd21 "Rules.__init__" = true) (k21 : PySem.W.keepIn K (.ref p21) = true)
    (a22 : PySem.W.findIn K (.ref a_Rules) "told" = some (some (.ref p22))) (i22 : PySem.W.isFn K (.ref p22) = true) (l22 : K.lookup p22 = some ⟨oc22, od22, .func (PySem.W.fnOf "told" "Rules.told" (jF qe) (jD qe) (je qe) .none kV22 dc22 pm22 an22 cd22 ct22), sl22⟩) (c22 : PySem.W.codeIn K cd22 "Rules.told" = true) (k22 : PySem.W.keepIn K (.ref p22) = true)
    (a23 : PySem.W.nsIn K mainGlobals "paths" = some (some (.ref p23))) (l23 : K.lookup p23 = some ⟨oc23, od23, .func (PySem.W.fnOf "paths" "paths" (jF x5) (jD x5) (je x5) .none kV23 dc23 pm23 an23 cd23 ct23), sl23⟩) (c23 : PySem.W.codeIn K cd23 "paths" = true) (k23 : PySem.W.keepIn K (.ref p23) = true)
    (a24 : PySem.W.nsIn K mainGlobals "calls" = some (some (.ref p24))) (l24 : K.lookup p24 = some ⟨oc24, od24, .func (PySem.W.fnOf "calls" "calls" (jF x8) (jD x8) (je x8) .none kV24 dc24 pm24 an24 cd24 ct24), sl24⟩) (c24 : PySem.W.codeIn K cd24 "calls" = true) (k24 : PySem.W.keepIn K (.ref p24) = true)
    (a25 : PySem.W.nsIn K mainGlobals "_law_parts" = some (some (.ref p25))) (l25 : K.lookup p25 = some ⟨oc25, od25, .func (PySem.W.fnOf "_law_parts" "_law_parts" (jF qG) (jD qG) (je qG) .none kV25 dc25 pm25 an25 cd25 ct25), sl25⟩) (c25 : PySem.W.codeIn K cd25 "_law_parts" = true) (k25 : PySem.W.keepIn K (.ref p25) = true)
    (a26 : PySem.W.nsIn K mainGlobals "_law_due" = some (some (.ref p26))) (l26 : K.lookup p26 = some ⟨oc26, od26, .func (PySem.W.fnOf "_law_due" "_law_due" (jF zx) (jD zx) (je zx) .none kV26 dc26 pm26 an26 cd26 ct26), sl26⟩) (c26 : PySem.W.codeIn K cd26 "_law_due" = true) (k26 : PySem.W.keepIn K (.ref p26) = true)
    (a27 : PySem.W.nsIn K mainGlobals "_law_kinds" = some (some (.ref p27))) (l27 : K.lookup p27 = some ⟨oc27, od27, .func (PySem.W.fnOf "_law_kinds" "_law_kinds" (jF qJ) (jD qJ) (je qJ) .none kV27 dc27 pm27 an27 cd27 ct27), sl27⟩) (c27 : PySem.W.codeIn K cd27 "_law_kinds" = true) (k27 : PySem.W.keepIn K (.ref p27) = true)
    (a28 : PySem.W.nsIn K mainGlobals "law" = some (some (.ref p28))) (l28 : K.lookup p28 = some ⟨oc28, od28, .func (PySem.W.fnOf "law" "law" (jF J2) (jD J2) (je J2) .none kV28 dc28 pm28 an28 cd28 ct28), sl28⟩) (c28 : PySem.W.codeIn K cd28 "law" = true) (k28 : PySem.W.keepIn K (.ref p28) = true)
    (z0 : PySem.W.nsIn K mainGlobals "isinstance" = some none)
    (z1 : PySem.W.nsIn K mainGlobals "bool" = some none)
    (z2 : PySem.W.nsIn K mainGlobals "int" = some none)
    (z3 : PySem.W.nsIn K mainGlobals "all" = some none)
    (z4 : PySem.W.nsIn K mainGlobals "len" = some none)
    (z5 : PySem.W.nsIn K mainGlobals "tuple" = some none)
    (z6 : PySem.W.nsIn K mainGlobals "list" = some none)
    (z7 : PySem.W.nsIn K mainGlobals "sorted" = some none)
    (z8 : PySem.W.nsIn K mainGlobals "set" = some none)
    (z9 : PySem.W.nsIn K mainGlobals "range" = some none)
    (z10 : PySem.W.nsIn K mainGlobals "divmod" = some none)
    (z11 : PySem.W.nsIn K mainGlobals "str" = some none)
    (z12 : PySem.W.nsIn K mainGlobals "enumerate" = some none)
    (z13 : PySem.W.nsIn K mainGlobals "zip" = some none)
    (z14 : PySem.W.nsIn K mainGlobals "dict" = some none)
    (yG : PySem.W.nsIn K mainGlobals "LETTERS" = some (some (.str "abcdefghijklmnopqrstuvwxyz" jq)))
    (zW : PySem.W.nsIn K mainGlobals "MOST_LETTERS" = some (some (.int 8 jf)))
    (wt : PySem.W.nsIn K mainGlobals "MOST_PLACES" = some (some (.int 9 jg)))
    (wR : PySem.W.nsIn K mainGlobals "MOST_BLANK" = some (some (.int 999 jl)))
    (wu : PySem.W.nsIn K mainGlobals "MOST_LEVELS" = some (some (.int 60 jh)))
    (wQ : PySem.W.nsIn K mainGlobals "MOST_PARTS" = some (some (.int 1000 jk)))
    (wP : PySem.W.nsIn K mainGlobals "MOST_RULES" = some (some (.int 40 jj)))
    (wF : PySem.W.nsIn K mainGlobals "Rules" = some (some (.ref a_Rules))) (xJ : PySem.W.plainGet K a_Rules Str.empty = true) (xN : PySem.W.hasDictIn K a_Rules = true) (xI : PySem.W.plainOver K a_Rules = true) (xH : PySem.W.findIn K (.ref a_Rules) "__setattr__" = some (some (.builtin "object.__setattr__")))
    (zE : PySem.W.findIn K (.ref a_Rules) "listed" = some none)
    (zX : PySem.W.findIn K (.ref a_Rules) "named" = some none)
    (Qh : PySem.W.makesIn K a_Rules = true) (Qm : PySem.W.keepIn K (.ref a_Rules) = true)
    : ∃ fd : FuncData, (∀ (s : Shared) (v : Value), BindsTo s fd ⟨[v], []⟩ [("_law_script", v)]) ∧ ∀ base : Heap, K.In base → base.Ns mainGlobals mg → FnOk l.prog w K mg base CX0 71 fa fd ["_law_script"] (spF K true 1 F_law) := by
  have e := hfa.symm.trans (PySem.W.mg_of KX G a28)
  cases e
  have T : Gm jq jf jg jl jh jk jj K mg := ⟨PySem.W.mg_none_of KX G z0, PySem.W.mg_none_of KX G z1, PySem.W.mg_none_of KX G z2, PySem.W.mg_none_of KX G z3, PySem.W.mg_none_of KX G z4, PySem.W.mg_none_of KX G z5, PySem.W.mg_none_of KX G z6, PySem.W.mg_none_of KX G z7, PySem.W.mg_none_of KX G z8, PySem.W.mg_none_of KX G z9, PySem.W.mg_none_of KX G z10, PySem.W.mg_none_of KX G z11, PySem.W.mg_none_of KX G z12, PySem.W.mg_none_of KX G z13, PySem.W.mg_none_of KX G z14, PySem.W.mg_of KX G yG, PySem.W.mg_of KX G zW, PySem.W.mg_of KX G wt, PySem.W.mg_of KX G wR, PySem.W.mg_of KX G wu, PySem.W.mg_of KX G wQ, PySem.W.mg_of KX G wP, ⟨a_Rules, wF, ⟨xJ, xN, xI, xH⟩, zE⟩, ⟨a_Rules, wF, ⟨xJ, xN, xI, xH⟩, zX⟩⟩
  have U0 := jY (st := qr) l0 c0 k0
  have b0 := U0.binds (ps := ["_law_cell", "_law_k"]) fun _ _ _ _ _ _ us hl => match us, hl with | [_, _], _ => rfl
  have U1 := jY (st := qH) l1 c1 k1
  have b1 := U1.binds (ps := ["_law_number"]) fun _ _ _ _ _ _ us hl => match us, hl with | [_], _ => rfl
  have U2 := jY (st := qI) l2 c2 k2
  have b2 := U2.binds (ps := ["_law_number", "_law_k"]) fun _ _ _ _ _ _ us hl => match us, hl with | [_, _], _ => rfl
  have U3 := jY (st := qX) l3 c3 k3
  have b3 := U3.binds (ps := ["_law_number", "_law_names_here", "_law_deep", "_law_free"]) fun _ _ _ _ _ _ us hl => match us, hl with | [_, _, _, _], _ => rfl
  have U4 := jY (st := qF) l4 c4 k4
  have b4 := U4.binds (ps := ["_law_found"]) fun _ _ _ _ _ _ us hl => match us, hl with | [_], _ => rfl
  have U5 := jY (st := qt) l5 c5 k5
  have b5 := U5.binds (ps := ["_law_term_here"]) fun _ _ _ _ _ _ us hl => match us, hl with | [_], _ => rfl
  have U6 := jY (st := qY) l6 c6 k6
  have b6 := U6.binds (ps := ["_law_number", "_law_names_here"]) fun _ _ _ _ _ _ us hl => match us, hl with | [_, _], _ => rfl
  have U7 := jY (st := xl) l7 c7 k7
  have b7 := U7.binds (ps := ["term"]) fun _ _ _ _ _ _ us hl => match us, hl with | [_], _ => rfl
  have U8 := jY (st := x6) l8 c8 k8
  have b8 := U8.binds (ps := ["term"]) fun _ _ _ _ _ _ us hl => match us, hl with | [_], _ => rfl
  have U9 := jY (st := JC) l9 c9 k9
  have b9 := U9.binds (ps := ["term"]) fun _ _ _ _ _ _ us hl => match us, hl with | [_], _ => rfl
  have U10 := jY (st := qW) l10 c10 k10
  have b10 := U10.binds (ps := ["terms"]) fun _ _ _ _ _ _ us hl => match us, hl with | [_], _ => rfl
  have U11 := jY (st := qp) l11 c11 k11
  have b11 := U11.binds (ps := ["row"]) fun _ _ _ _ _ _ us hl => match us, hl with | [_], _ => rfl
  have U12 := jY (st := zu) l12 c12 k12
  have b12 := U12.binds (ps := ["thing"]) fun _ _ _ _ _ _ us hl => match us, hl with | [_], _ => rfl
  have U13 := jY (st := zr) l13 c13 k13
  have b13 := U13.binds (ps := ["thing"]) fun _ _ _ _ _ _ us hl => match us, hl with | [_], _ => rfl
  have U14 := jY (st := zw) l14 c14 k14
  have b14 := U14.binds (ps := ["thing"]) fun _ _ _ _ _ _ us hl => match us, hl with | [_], _ => rfl
  have U15 := jY (st := we) l15 c15 k15
  have b15 := U15.binds (ps := ["thing"]) fun _ _ _ _ _ _ us hl => match us, hl with | [_], _ => rfl
  have U16 := jY (st := zt) l16 c16 k16
  have b16 := U16.binds (ps := ["thing"]) fun _ _ _ _ _ _ us hl => match us, hl with | [_], _ => rfl
  have U17 := jY (st := wc) l17 c17 k17
  have b17 := U17.binds (ps := ["thing"]) fun _ _ _ _ _ _ us hl => match us, hl with | [_], _ => rfl
  have U18 := jY (st := xm) l18 c18 k18
  have b18 := U18.binds (ps := ["term"]) fun _ _ _ _ _ _ us hl => match us, hl with | [_], _ => rfl
  have U19 := jY (st := wd) l19 c19 k19
  have b19 := U19.binds (ps := ["thing"]) fun _ _ _ _ _ _ us hl => match us, hl with | [_], _ => rfl
  have U20 := jY (st := qV) l20 c20 k20
  have b20 := U20.binds (ps := ["thing"]) fun _ _ _ _ _ _ us hl => match us, hl with | [_], _ => rfl
  have U21 := jY (st := jO) l21 c21 k21
  have b21 := U21.binds (ps := ["self", "rules"]) fun _ _ _ _ _ _ us hl => match us, hl with | [_, _], _ => rfl
  have U22 := jY (st := qe) l22 c22 k22
  have b22 := U22.binds (ps := ["self"]) fun _ _ _ _ _ _ us hl => match us, hl with | [_], _ => rfl
  have U23 := jY (st := x5) l23 c23 k23
  have b23 := U23.binds (ps := ["term"]) fun _ _ _ _ _ _ us hl => match us, hl with | [_], _ => rfl
  have U24 := jY (st := x8) l24 c24 k24
  have b24 := U24.binds (ps := ["rules"]) fun _ _ _ _ _ _ us hl => match us, hl with | [_], _ => rfl
  have U25 := jY (st := qG) l25 c25 k25
  have b25 := U25.binds (ps := ["_law_term_here", "_law_path"]) fun _ _ _ _ _ _ us hl => match us, hl with | [_, _], _ => rfl
  have U26 := jY (st := zx) l26 c26 k26
  have b26 := U26.binds (ps := ["_law_some"]) fun _ _ _ _ _ _ us hl => match us, hl with | [_], _ => rfl
  have U27 := jY (st := qJ) l27 c27 k27
  have b27 := U27.binds (ps := ["_law_found"]) fun _ _ _ _ _ _ us hl => match us, hl with | [_], _ => rfl
  have U28 := jY (st := J2) l28 c28 k28
  have b28 := U28.binds (ps := ["_law_script"]) fun _ _ _ _ _ _ us hl => match us, hl with | [_], _ => rfl
  refine ⟨PySem.W.fnOf "law" "law" (jF J2) (jD J2) (je J2) .none kV28 dc28 pm28 an28 cd28 ct28, fun s v => .of_eq rfl, fun base _ _ => ?_⟩
  have V0 : Av l.prog w K mg base 1 "_law_spread" ["_law_cell", "_law_k"] true qP := Jv (k := 0) T U0 (PySem.W.mg_of KX G a0) b0
  have V1 : Av l.prog w K mg base 1 "_law_names" ["_law_number"] true zV := Qc (k := 0) T U1 (PySem.W.mg_of KX G a1) b1
  have V2 : Av l.prog w K mg base 1 "_law_mixed" ["_law_number", "_law_k"] true jN := Qd (k := 0) T U2 (PySem.W.mg_of KX G a2) b2
  have V3 : ∀ n, Av l.prog w K mg base (1 + n) "_law_term" ["_law_number", "_law_names_here", "_law_deep", "_law_free"] false (ql n) := by
    intro n
    induction n with
    | zero => exact Jp false U3 (PySem.W.mg_of KX G a3) b3
    | succ n ih => exact Q8 (k := 1 + n) T U3 (PySem.W.mg_of KX G a3) b3 ih (V2.mono (by omega))
  have V4 : Av l.prog w K mg base 1 "_law_whole" ["_law_found"] true jr := Qa (k := 0) T U4 (PySem.W.mg_of KX G a4) b4
  have V5 : ∀ n, Av l.prog w K mg base (1 + n) "_law_blanks" ["_law_term_here"] true (jH n) := by
    intro n
    induction n with
    | zero => exact Jp true U5 (PySem.W.mg_of KX G a5) b5
    | succ n ih => exact Jw (k := 1 + n) T U5 (PySem.W.mg_of KX G a5) b5 (V4.mono (by omega)) ih
  have V6 : Av l.prog w K mg base 66 "_law_rule" ["_law_number", "_law_names_here"] true qE := Q9 (k := 65) T U6 (PySem.W.mg_of KX G a6) b6 ((V3 6).mono (by decide)) (V4.mono (by decide)) (V2.mono (by decide)) ((V5 64).mono (by decide))
  have V7 : Av l.prog w K mg base 1 "places" ["term"] true j3 := Kr (k := 0) T U7 (PySem.W.mg_of KX G a7) b7
  have V8 : ∀ n, Av l.prog w K mg base (1 + n) "parts" ["term"] true (jK n) := by
    intro n
    induction n with
    | zero => exact Jp true U8 (PySem.W.mg_of KX G a8) b8
    | succ n ih => exact Uw (k := 1 + n) T U8 (PySem.W.mg_of KX G a8) b8 (V7.mono (by omega)) ih
  have V9 : Av l.prog w K mg base 1 "head" ["term"] true qU := uf (k := 0) T U9 (PySem.W.mg_of KX G a9) b9
  have V10 : Av l.prog w K mg base 66 "all_heads" ["terms"] true zc := Q7 (k := 65) T U10 (PySem.W.mg_of KX G a10) b10 ((V8 64).mono (by decide)) (V9.mono (by decide))
  have V11 : Av l.prog w K mg base 2 "level_below" ["row"] true qc := Ju (k := 1) T U11 (PySem.W.mg_of KX G a11) b11 (V7.mono (by decide))
  have V12 : Av l.prog w K mg base 3 "is_great" ["thing"] true wq := Wc (k := 2) T U12 (PySem.W.mg_of KX G a12) b12 (V11.mono (by decide))
  have V13 : Av l.prog w K mg base 1 "is_whole" ["thing"] true ym := Wa (k := 0) T U13 (PySem.W.mg_of KX G a13) b13
  have V14 : Av l.prog w K mg base 2 "is_blank" ["thing"] true zA := Wd (k := 1) T U14 (PySem.W.mg_of KX G a14) b14 (V13.mono (by decide))
  have V15 : Av l.prog w K mg base 1 "is_name" ["thing"] true xh := X8 (k := 0) T U15 (PySem.W.mg_of KX G a15) b15
  have V16 : Av l.prog w K mg base 3 "is_piece" ["thing"] true zz := Wb (k := 2) T U16 (PySem.W.mg_of KX G a16) b16 (V14.mono (by decide)) (V15.mono (by decide))
  have V17 : Av l.prog w K mg base 66 "is_term" ["thing"] true xf := X6 (k := 65) T U17 (PySem.W.mg_of KX G a17) b17 (V12.mono (by decide)) (V16.mono (by decide)) ((V8 64).mono (by decide))
  have V18 : Av l.prog w K mg base 66 "blanks" ["term"] true yF := Ks (k := 65) T U18 (PySem.W.mg_of KX G a18) b18 ((V8 64).mono (by decide))
  have V19 : Av l.prog w K mg base 67 "is_rule" ["thing"] true xg := X7 (k := 66) T U19 (PySem.W.mg_of KX G a19) b19 (V17.mono (by decide)) (V18.mono (by decide))
  have V20 : Av l.prog w K mg base 68 "are_rules" ["thing"] true qD := Q6 (k := 67) T U20 (PySem.W.mg_of KX G a20) b20 (V19.mono (by decide))
  have V21 : AvK l.prog w K mg base 69 "Rules" 1 jQ := xy (k := 68) T U21 wF (PySem.W.mg_of KX G wF) ⟨Qh, a21, i21, Qm⟩ b21 (V10.mono (by decide)) (V20.mono (by decide))
  have V22 : AvM l.prog w K mg base 1 "Rules" "told" ["self"] true jM := yU (k := 0) T U22 wF ⟨xJ, xN, xI, xH⟩ ⟨a22, i22, k22⟩ b22
  have V23 : ∀ n, Av l.prog w K mg base (1 + n) "paths" ["term"] true (qO n) := by
    intro n
    induction n with
    | zero => exact Jp true U23 (PySem.W.mg_of KX G a23) b23
    | succ n ih => exact Uv (k := 1 + n) T U23 (PySem.W.mg_of KX G a23) b23 (V7.mono (by omega)) ih
  have V24 : Av l.prog w K mg base 66 "calls" ["rules"] true xi := Ux (k := 65) T U24 (PySem.W.mg_of KX G a24) b24 (V22.mono (by decide)) ((V23 64).mono (by decide)) ((V8 64).mono (by decide)) (V9.mono (by decide))
  have V25 : ∀ n, Av l.prog w K mg base (1 + n) "_law_parts" ["_law_term_here", "_law_path"] true (jU n) := by
    intro n
    induction n with
    | zero => exact Jp true U25 (PySem.W.mg_of KX G a25) b25
    | succ n ih => exact Qb (k := 1 + n) T U25 (PySem.W.mg_of KX G a25) b25 (V4.mono (by omega)) ih
  have V26 : Av l.prog w K mg base 66 "_law_due" ["_law_some"] true qw := We (k := 65) T U26 (PySem.W.mg_of KX G a26) b26 ((V25 64).mono (by decide)) (V4.mono (by decide))
  have V27 : Av l.prog w K mg base 2 "_law_kinds" ["_law_found"] true qL := Qe (k := 1) T U27 (PySem.W.mg_of KX G a27) b27 (V4.mono (by decide))
  exact jaQ (k := 70) T U28 (V0.mono (by decide)) (V1.mono (by decide)) (V6.mono (by decide)) V21 (by decide) (V24.mono (by decide)) (V2.mono (by decide)) (V26.mono (by decide)) (V27.mono (by decide)) (V22.mono (by decide))
end G
namespace G
open PySem PySem.Spec L2 M
open Builtin.Int (intBits)
def abc : Str := "abcdefghijklmnopqrstuvwxyz"
theorem cut1 (x : D) (r : List D) : cutD (x :: r) (some 1) none = r := by
  have h1 : HT.sIx (x :: r).length 0 (some 1) = 1 := by
    have := HT.sIx_nat (x :: r).length 0 1
    simp only [List.length_cons] at this ⊢
    exact this.trans (by omega)
  unfold cutD
  rw [h1, HT.sIx_none]
  simp
theorem Z3 {d : D} (h : uj d = true) : j3 [d] = .ok (.tup (kids d)) := by
  cases d with
  | tup ds =>
    cases ds with
    | nil => rfl
    | cons x r =>
      show Res.ok (D.tup (cutD (x :: r) (some 1) none)) = _
      rw [cut1]; rfl
  | _ => first | rfl | cases h
theorem Zi {row : List D} (h : q8 row = true) (hl : row.length ≤ 1000) : qc [.lst row] = .ok (.lst (zL row)) := by
  have key := Jc (body := qk (gN 2) (qh 1 (jo 1 j3 (ja (rdS 2) nil1)))) (fun (a : List D × Slot) => [.shr (.lst row), .own (.lst a.1), a.2]) (fun a d => (a.1 ++ kids d, .shr d)) (fun ds a => q8 ds = true ∧ a.1.length + (zL ds).length ≤ 10000) (fun d ds a ⟨h1, h2⟩ => by
    simp only [q8, Bool.and_eq_true] at h1
    have e : zL (d :: ds) = kids d ++ zL ds := rfl
    rw [e, List.length_append] at h2
    refine ⟨?_, h1.2, by simp only [List.length_append]; omega⟩
    show qh 1 (jo 1 j3 (ja (rdS 2) nil1)) [.shr (.lst row), .own (.lst a.1), .shr d] = _
    show (Res.ok a.1 >>= fun ds => j3 [d] >>= _) = _
    rw [Z3 (yC h1.1)]
    exact jt (c := a.1.length + (kids d).length ≤ sizeLine) (Nat.le_trans (by omega : _ ≤ 10000) (by decide))) row ([], .un) ⟨h, by have := VM h; simp only [List.length_nil]; omega⟩
  have hfold : ∀ (ds : List D) (a : List D × Slot), (ds.foldl (fun (a : List D × Slot) d => (a.1 ++ kids d, Slot.shr d)) a).1 = a.1 ++ zL ds := by
    intro ds
    induction ds with
    | nil => intro a; simp [zL]
    | cons d ds ih => intro a; rw [List.foldl_cons, ih]; simp [zL]
  have e1 : zo j3 (qd 3 [.lst row]) = .ok (.rt true (.lst (zL row))) := by
    unfold zo
    have h1 : qd 3 [.lst row] = [.shr (.lst row), .un, .un] := rfl
    rw [h1]
    show (forD (qk (gN 2) (qh 1 (jo 1 j3 (ja (rdS 2) nil1)))) row [.shr (.lst row), .own (.lst []), .un] >>= _) = _
    rw [key]
    show Res.ok (Out.rt true (D.lst (row.foldl (fun (a : List D × Slot) d => (a.1 ++ kids d, Slot.shr d)) ([], .un)).1)) = _
    rw [hfold]; simp
  exact wY e1
def JQ : Sl → Res Out := (seqO (qg 2 (two (rdS 2) (cI 1) (augI fun i j => i + j)))
    (seqO (qg 3 (two (rdS 3) (app (ja (rdS 1) nil1) lenD) (augI fun i j => i + j)))
    (seqO (ifO (orB (asB (two (rdS 2) (cI 60) gtI)) (asB (two (rdS 3) (cI 1000) gtI))) (retO (cB true)) nxO)
    (qg 1 (jo 1 qc (ja (rdS 1) nil1))))))
theorem Ym {d : D} {row : List D} {dp ct : Nat} (h : q8 row = true) : JQ [.shr d, .shr (.lst row), .shr (.int dp), .shr (.int ct)] = if 60 < dp + 1 ∨ 1000 < ct + row.length then .ok (.rt true (.bl true)) else .ok (.nx [.shr d, .shr (.lst (zL row)), .shr (.int ((dp + 1 : Nat) : Int)), .shr (.int ((ct + row.length : Nat) : Int))]) := by
  have e0 : JQ [.shr d, .shr (.lst row), .shr (.int dp), .shr (.int ct)] = ((if decide ((60 : Int) < (dp : Int) + 1) = true then Res.ok true else Res.ok (decide ((1000 : Int) < (ct : Int) + row.length))) >>= fun b => (if b = true then Res.ok (Out.rt true (.bl true)) else Res.ok (.nx [.shr d, .shr (.lst row), .shr (.int ((dp : Int) + 1)), .shr (.int ((ct : Int) + row.length))]))) >>= outK (qg 1 (jo 1 qc (ja (rdS 1) nil1))) := by
    unfold JQ
    rw [wX, Xk]
    show (seqO _ _) _ = _
    rw [wX]; rfl
  rw [e0]
  by_cases h1 : 60 < dp + 1
  · rw [if_pos (by simp; omega), if_pos (.inl h1)]; rfl
  · rw [if_neg (by simp; omega)]
    by_cases h2 : 1000 < ct + row.length
    · rw [if_pos (.inr h2)]
      have : decide ((1000 : Int) < (ct : Int) + row.length) = true := by simp; omega
      rw [this]; rfl
    · rw [if_neg (by omega)]
      have : decide ((1000 : Int) < (ct : Int) + row.length) = false := by simp; omega
      rw [this]
      show (qc [.lst row] >>= _) = _
      rw [Zi h (by omega)]
      show Res.ok (Out.nx [.shr d, .shr (.lst (zL row)), .shr (.int ((dp : Int) + 1)), .shr (.int ((ct : Int) + row.length))]) = _
      simp
theorem JP (d : D) : ∀ (n : Nat) (row : List D) (dp ct : Nat), q8 row = true → dp ≤ 60 → ct ≤ 1000 → 62 ≤ dp + n →
    ((60 < dp + hgts row ∨ 1000 < ct + nums row) → zk n (truF (rdS 1)) JQ [.shr d, .shr (.lst row), .shr (.int dp), .shr (.int ct)] = .ok (.rt true (.bl true))) ∧
    (¬ (60 < dp + hgts row ∨ 1000 < ct + nums row) → ∃ env, zk n (truF (rdS 1)) JQ [.shr d, .shr (.lst row), .shr (.int dp), .shr (.int ct)] = .ok (.nx env))
  | 0, _, dp, ct, _, h1, _, h2 => by omega
  | n + 1, row, dp, ct, hf, h1, h2, h3 => by
    cases row with
    | nil =>
      simp only [hgts, nums]
      exact ⟨fun h => by omega, fun _ => ⟨_, XQ rfl⟩⟩
    | cons x r =>
      have hs := Ym (d := d) (dp := dp) (ct := ct) hf
      have hb := Yl (x :: r) (by simp)
      have hn := Ya (x :: r)
      by_cases hg : 60 < dp + 1 ∨ 1000 < ct + (x :: r).length
      · rw [if_pos hg] at hs
        exact ⟨fun _ => YJ rfl hs, fun h => absurd (show 60 < dp + hgts (x :: r) ∨ 1000 < ct + nums (x :: r) by omega) h⟩
      · rw [if_neg hg] at hs
        have ih := JP d n (zL (x :: r)) (dp + 1) (ct + (x :: r).length) (Wo hf) (by omega) (by omega) (by omega)
        rw [YK rfl hs, hb, hn]
        constructor
        · intro h; exact ih.1 (by omega)
        · intro h; exact ih.2 (by omega)
def isGr (d : D) : Bool := decide (60 < hgt d ∨ 1000 < num d)
theorem jbc {d : D} (h : fine d = true) : wq [d] = .ok (.bl (isGr d)) := by
  have hl := JP d 2000 [d] 0 0 (by simp [q8, h]) (by omega) (by omega) (by omega)
  have e1 : hgts [d] = hgt d := by simp [hgts]
  have e2 : nums [d] = num d := by simp [nums]
  rw [e1, e2] at hl
  simp only [Nat.zero_add] at hl
  have e0 : xp qc (qd 4 [d]) = (zk 2000 (truF (rdS 1)) JQ [.shr d, .shr (.lst [d]), .shr (.int ((0 : Nat) : Int)), .shr (.int ((0 : Nat) : Int))] >>= outK (retO (cB false))) := by
    unfold xp
    rw [wX]
    show (seqO _ _) _ = _
    rw [wX]
    rfl
  by_cases hg : 60 < hgt d ∨ 1000 < num d
  · have : isGr d = true := by simp [isGr, hg]
    rw [this]
    refine wY (o := .rt true (.bl true)) ?_
    rw [e0, hl.1 hg]; rfl
  · have : isGr d = false := by simp [isGr]; omega
    rw [this]
    obtain ⟨env, he⟩ := hl.2 hg
    refine wY (o := .rt true (.bl false)) ?_
    rw [e0, he]; rfl
theorem Xx {cs : List Slot} {fe : Sl → Res D} (R : D → Prop) (P : D → Prop) (hf : ∀ d acc, P d → ∃ t, fe (.shr d :: (cs ++ [.own (.lst acc)])) = .ok t ∧ R t) :
    ∀ (ds : List D) (x : Slot) (acc : List D), (∀ d ∈ ds, P d) → acc.length + ds.length ≤ sizeLine → (∀ t ∈ acc, R t) →
      ∃ (y : Slot) (ts : List D), zq (1 + cs.length) (gN 0) j8 fe ds (x :: (cs ++ [.own (.lst acc)])) = .ok (y :: (cs ++ [.own (.lst ts)])) ∧ ts.length = acc.length + ds.length ∧ ∀ t ∈ ts, R t
  | [], x, acc, _, _, hr => ⟨x, acc, rfl, by simp, hr⟩
  | d :: ds, x, acc, hP, hl, hr => by
    simp only [List.length_cons] at hl
    obtain ⟨t, ht, hR⟩ := hf d acc (hP d (by simp))
    obtain ⟨y, ts, h1, h2, h3⟩ := Xx R P hf ds (.shr d) (acc ++ [t]) (fun e he => hP e (by simp [he])) (by simp only [List.length_append, List.length_cons, List.length_nil]; omega) (fun u hu => by
      rcases List.mem_append.mp hu with h | h
      · exact hr u h
      · simp only [List.mem_cons, List.not_mem_nil, or_false] at h
        rw [h]; exact hR)
    refine ⟨y, ts, ?_, by rw [h2]; simp only [List.length_append, List.length_cons, List.length_nil]; omega, h3⟩
    have e1 : ownL (1 + cs.length) (.shr d :: (cs ++ [.own (.lst acc)])) = .ok acc := by
      unfold ownL
      rw [show (1 + cs.length) = cs.length + 1 by omega, List.getElem?_cons_succ, List.getElem?_append_right (Nat.le_refl _)]
      simp
    have e2 : (Slot.shr d :: (cs ++ [Slot.own (.lst acc)])).set (1 + cs.length) (.own (.lst (acc ++ [t]))) = .shr d :: (cs ++ [.own (.lst (acc ++ [t]))]) := by
      rw [show (1 + cs.length) = cs.length + 1 by omega, List.set_cons_succ, List.set_append_right _ _ (Nat.le_refl _)]
      simp
    show (fe (.shr d :: (cs ++ [.own (.lst acc)])) >>= _) = _
    rw [ht]
    show (ownL (1 + cs.length) (.shr d :: (cs ++ [.own (.lst acc)])) >>= _) = _
    rw [e1]
    show must _ _ = _
    rw [jt (by omega)]
    show zq _ _ _ _ ds ((Slot.shr d :: (cs ++ [Slot.own (.lst acc)])).set (1 + cs.length) (.own (.lst (acc ++ [t])))) = _
    rw [e2, h1]
theorem Wu {js : List Nat} {fi : Sl → Res (List D)} {fe : Sl → Res D} {env : Sl} {ds : List D} {cs : List Slot} (R : D → Prop) (P : D → Prop) (hc : js.map (capS false env) = cs) (hi : fi env = .ok ds) (hP : ∀ d ∈ ds, P d) (hl : ds.length ≤ sizeLine)
    (hf : ∀ d acc, P d → ∃ t, fe (.shr d :: (cs ++ [.own (.lst acc)])) = .ok t ∧ R t) : ∃ ts, qQ false 1 js fi (gN 0) j8 fe env = .ok (.lst ts) ∧ ts.length = ds.length ∧ ∀ t ∈ ts, R t := by
  obtain ⟨y, ts, h1, h2, h3⟩ := Xx (cs := cs) R P hf ds .un [] hP (by simpa using hl) (fun _ h => by cases h)
  refine ⟨ts, ?_, by simpa using h2, h3⟩
  have hlen : js.length = cs.length := by rw [← hc]; simp
  show (fi env >>= _) = _
  rw [hi]
  show (zq (1 + js.length) (gN 0) j8 fe ds (xb false 1 js env) >>= _) = _
  have he : xb false 1 js env = .un :: (cs ++ [.own (.lst [])]) := by
    unfold xb; rw [hc]; rfl
  rw [he, hlen, h1]
  show (ownL (1 + cs.length) (y :: (cs ++ [.own (.lst ts)])) >>= _) = _
  have e1 : ownL (1 + cs.length) (y :: (cs ++ [.own (.lst ts)])) = .ok ts := by
    unfold ownL
    rw [show (1 + cs.length) = cs.length + 1 by omega, List.getElem?_cons_succ, List.getElem?_append_right (Nat.le_refl _)]
    simp
  rw [e1]
  exact jt (c := false = true → D.imms ts = true) (fun h => by cases h)
theorem Ys {f1 f2 : Sl → Res D} {env : Sl} {i j : Int} (h1 : f1 env = .ok (.int i)) (h2 : f2 env = .ok (.int j)) (hj : 0 < j ∧ j < 1073741824) : app (ja f1 (ja f2 nil1)) zI env = .ok (.tup [.int (i / j), .int (i % j)]) :=
  qT (ds := [.int i, .int j]) (jd h1 (jd h2 rfl)) (jt hj)
theorem yl {f : Sl → Res D} {env : Sl} {a b : Nat} {x y : D} (h : f env = .ok (.tup [x, y])) : asgO f (g2 (gN a) (gN b)) env = .ok (.nx ((env.set a (.shr x)).set b (.shr y))) := by
  show (f env >>= _) = _
  rw [h]; rfl
theorem qB {f1 f2 : Sl → Res D} {env : Sl} {i j : Int} (h1 : f1 env = .ok (.int i)) (h2 : f2 env = .ok (.int j)) (hj : 0 < j) : two f1 f2 modI env = .ok (.int (i % j)) := jv h1 h2 (jaX hj)
theorem wV {f1 f2 : Sl → Res D} {env : Sl} {i j : Int} {a b : Nat} (h1 : f1 env = .ok (.int i)) (h2 : f2 env = .ok (.int j)) (ha : i.natAbs < 2 ^ a) (hb : j.natAbs < 2 ^ b) (hs : a + b ≤ 134217728) : two f1 f2 mulI env = .ok (.int (i * j)) :=
  jv h1 h2 (jaW (show intBits i + intBits j ≤ 134217728 from Nat.le_trans (Nat.add_le_add (PySem.intBits_le_iff.mpr ha) (PySem.intBits_le_iff.mpr hb)) hs))
theorem zj {f1 f2 : Sl → Res D} {env : Sl} {i j : Int} (h1 : f1 env = .ok (.int i)) (h2 : f2 env = .ok (.int j)) : two f1 f2 addD env = .ok (.int (i + j)) := jv h1 h2 rfl
theorem yn (c k : Int) (hk : 0 ≤ k ∧ k ≤ 1000) : ∃ m : Int, qP [.int c, .int k] = .ok (.int m) ∧ 0 ≤ m ∧ m < 2 ^ 140 := by
  have hp : two (cI 10) (cI 40) powI [.shr (.int c), .shr (.int k), .un] = .ok (.int (10 ^ 40)) := jv rfl rfl (WV (i := 10) (j := 40) (by decide))
  have hk2 : (k * k).natAbs < 2 ^ 21 := by
    rw [Int.natAbs_mul]
    have : k.natAbs ≤ 1000 := by omega
    have := Nat.mul_le_mul this this
    omega
  refine ⟨(c % (10 ^ 40 + 121) * 31415926535897932384626433832795 + (k * k + 3 * k + 7) * 2718281828459045235360287471) % (10 ^ 40 + 121), wv ?_, by omega, by omega⟩
  show zp [.shr (.int c), .shr (.int k), .un] = _
  unfold zp
  rw [jC (env' := [.shr (.int c), .shr (.int k), .shr (.int (10 ^ 40 + 121))]) ((qo (zj hp rfl)).trans rfl)]
  refine zi (qB (zj (wV (a := 140) (b := 120) (qB rfl rfl (by omega)) rfl (by omega) (by omega) (by omega)) (wV (a := 30) (b := 120) (zj (zj (wV (a := 30) (b := 30) rfl rfl (by omega) (by omega) (by omega)) (wV (a := 30) (b := 30) rfl rfl (by omega) (by omega) (by omega))) rfl) rfl (by omega) (by omega) (by omega))) rfl (by omega))
theorem wy (m k : Int) (hm : 0 ≤ m ∧ m < 2 ^ 140) (hk : 0 ≤ k ∧ k ≤ 1000) : ∃ m' : Int, jN [.int m, .int k] = .ok (.int m') ∧ 0 ≤ m' ∧ m' < 2 ^ 140 := by
  have hp : ∀ u : Slot, two (cI 10) (cI 30) powI [.shr (.int m), .shr (.int k), u] = .ok (.int (10 ^ 30)) := fun u => jv rfl rfl (WV (i := 10) (j := 30) (by decide))
  generalize hx : (m * 69621 + (k + 1) * 1000003) % (10 ^ 30 + 57) = x
  have hx0 : 0 ≤ x ∧ x < 2 ^ 110 := by omega
  refine ⟨x * x % (10 ^ 30 + 57), wv ?_, by omega, by omega⟩
  show zR [.shr (.int m), .shr (.int k), .un] = _
  unfold zR
  rw [jC (env' := [.shr (.int m), .shr (.int k), .shr (.int x)]) ((qo (qB (zj (wV (a := 141) (b := 30) rfl rfl (by omega) (by omega) (by omega)) (wV (a := 30) (b := 30) (zj rfl rfl) rfl (by omega) (by omega) (by omega))) (zj (hp _) rfl) (by omega))).trans (by rw [hx]; rfl))]
  exact zi (qB (wV (a := 111) (b := 111) rfl rfl (by omega) (by omega) (by omega)) (zj (hp _) rfl) (by omega))
def isNm : D → Bool | .str z => (decide (1 ≤ (z.length : Int)) && decide ((z.length : Int) ≤ 8)) && z.cps.toList.all (fun c => inS ⟨#[c]⟩ abc) | _ => false
theorem Qn (z : Str) : isNm (.str z) = ((decide (1 ≤ (z.length : Int)) && decide ((z.length : Int) ≤ 8)) && z.cps.toList.all (fun c => inS ⟨#[c]⟩ abc)) := rfl
theorem XL {α : Type} (l : List α) (p : α → Bool) : allD [.lst (l.map fun c => D.bl (p c))] = .ok (.bl (l.all p)) := by
  have : l.map (fun c => D.bl (p c)) = (l.map p).map D.bl := by simp
  rw [this]
  show (match Jx ((l.map p).map D.bl) with | some bs => Res.ok (D.bl (bs.all id)) | none => Res.stuck) = _
  rw [kK]
  simp
theorem YX (z : Str) : (Js z).length = z.length := by simp [Js, Str.length]
theorem jaV {d : D} (h : uj d = true) : xh [d] = .ok (.bl (isNm d)) := by
  cases d with
  | str z =>
    have e1 : wW (qd 1 [.str z]) = .ok (.rt true (.bl (isNm (.str z)))) := by
      have h0 : qd 1 [.str z] = [.shr (.str z)] := rfl
      rw [h0]
      have hi : isiD "str" (.str z) = .ok (.bl true) := rfl
      have hl : lenD [.str z] = .ok (.int z.length) := rfl
      rw [Qn]
      by_cases h2 : (z.length : Int) ≤ 8
      · have key : qQ false 1 [] (itF (rdS 0)) (gN 0) j8 (two (rdS 0) (cS "abcdefghijklmnopqrstuvwxyz") inD) [.shr (.str z)] = .ok (.lst ((Js z).map fun d => D.bl (match d with | .str c => inS c abc | _ => false))) := by
          refine kE _ (fun d => ∃ c, d = .str c) (ds := Js z) rfl (by intro d hd; obtain ⟨c, _, e⟩ := List.mem_map.mp hd; exact ⟨_, e.symm⟩) (by rw [YX]; exact Nat.le_trans (by omega : z.length ≤ 8) (by decide)) ?_
          intro d acc ⟨c, e⟩
          subst e; rfl
        have hany : (Js z).all (fun d => match d with | .str c => inS c abc | _ => false) = (z.cps.toList.all (fun c => inS ⟨#[c]⟩ abc)) := by
          simp only [Js, List.all_map]; rfl
        have h2' : decide ((z.length : Int) ≤ 8) = true := by simp; omega
        generalize z.cps.toList.all (fun c => inS ⟨#[c]⟩ abc) = q at hany ⊢
        simp only [wW, hi, hl, key, wX, Zt, Vf, Wp, Xm, xB, Ve, Zu, xR, Wq, ze, Xj, uK, Vi, yg, jbh, vk, Wr, Vh, Vg, Kl, Z9, List.getElem?_cons_zero, Wy, if_true, Bool.not_true, Bool.false_eq_true, if_false, decide_eq_true_eq, yD, Xz, XL, hany]
        by_cases h1 : (1 : Int) ≤ z.length <;> simp [h1, h2]
      · have h2' : decide ((z.length : Int) ≤ 8) = false := by simp; omega
        simp only [wW, hi, hl, wX, Zt, Vf, Wp, Xm, xB, Ve, Zu, xR, Wq, ze, Xj, uK, Vi, yg, jbh, vk, Wr, Vh, Vg, Kl, Z9, List.getElem?_cons_zero, Wy, if_true, Bool.not_true, Bool.false_eq_true, if_false, decide_eq_true_eq, yD, Xz]
        by_cases h1 : (1 : Int) ≤ z.length <;> simp [h1, h2, h2']
    exact wY e1
  | _ => first | rfl | cases h
def Low (z : Str) : Prop := ∀ c ∈ z.cps.toList, inS ⟨#[c]⟩ abc = true
theorem Wm {a b : Str} (ha : Low a) (hb : Low b) : Low (a ++ b) := fun c hc => by
  have h : c ∈ (a.cps ++ b.cps).toList := hc
  rw [Array.toList_append, List.mem_append] at h
  exact h.elim (ha c) (hb c)
theorem KH {z : Str} (lo hi : Option Int) (h : Low z) : Low (cutS z lo hi) := fun c hc => by
  unfold cutS at hc
  split at hc
  · exact h c hc
  · simp only [List.mem_filterMap] at hc
    obtain ⟨i, _, hi⟩ := hc
    exact h c (by rw [← Array.getElem?_toList] at hi; exact List.mem_of_getElem? hi)
theorem u6 : Low abc := by
  intro c hc
  have : abc.cps.toList.all (fun c => inS ⟨#[c]⟩ abc) = true := by decide +kernel
  exact List.all_eq_true.mp this c hc
theorem ixS2 {z : Str} {i : Int} (h0 : 0 ≤ i) (h1 : i < z.length) : ∃ c, ixD (.str z) (.int i) = .ok (.str ⟨#[c]⟩) ∧ c ∈ z.cps.toList := by
  obtain ⟨c, hc, hm⟩ := vz (xs := z.cps.toList) h0 (by simpa [Str.length] using h1)
  exact ⟨c, by simp only [ixD]; rw [hc], hm⟩
theorem KG {c : Nat} (h : c ∈ abc.cps.toList) : Low ⟨#[c]⟩ := fun x hx => by
  have : x = c := by simpa using hx
  rw [this]; exact u6 c h
theorem ja7 (i : Int) (n : Nat) (h : 0 ≤ i) : (Builtin.Str.strSliceIndices none (some i) 1 n).length ≤ i.toNat := by
  unfold Builtin.Str.strSliceIndices sliceRange
  simp only [show (1 : Int) > 0 by decide, if_true, List.length_map, List.length_range]
  split <;> (try split) <;> (try split) <;> (try simp only [Int.ediv_one]) <;> omega
theorem ja8 (i : Int) (n : Nat) (h : 0 ≤ i) : (Builtin.Str.strSliceIndices (some i) none 1 n).length ≤ n - i.toNat := by
  unfold Builtin.Str.strSliceIndices sliceRange
  simp only [show (1 : Int) > 0 by decide, if_true, List.length_map, List.length_range]
  split <;> (try split) <;> (try split) <;> (try simp only [Int.ediv_one]) <;> omega
theorem vx (z : Str) (lo hi : Option Int) : (cutS z lo hi).length ≤ (Builtin.Str.strSliceIndices lo hi 1 z.length).length := by
  unfold cutS
  split
  · rename_i h; rw [beq_iff_eq] at h; omega
  · show ((Builtin.Str.strSliceIndices lo hi 1 z.length).filterMap (z.cps[·]?)).toArray.size ≤ _
    rw [List.size_toArray]
    exact List.length_filterMap_le _ _
theorem uq {z : Str} (h1 : 1 ≤ z.length) (h2 : z.length ≤ 8) (h : Low z) : isNm (.str z) = true := by
  rw [Qn]
  simp only [Bool.and_eq_true, decide_eq_true_eq, List.all_eq_true]
  exact ⟨⟨by omega, by omega⟩, h⟩
def Five (d : D) : Prop := ∃ xs : List D, d = .lst xs ∧ xs.length = 5 ∧ ∀ x ∈ xs, ∃ z : Str, x = .str z ∧ isNm (.str z) = true
theorem VQ : abc.length = 26 := by decide
theorem Wg (m : Int) : ∃ d, zV [.int m] = .ok d ∧ Five d := by
  have hbig : 20 ≤ sizeLine := by decide
  generalize hsz : m % 8 = sz
  have hs : 0 ≤ sz ∧ sz < 8 := by omega
  generalize hm1 : m / 8 = m1
  generalize hat : m1 % (sz + 1) = at1
  have ha : 0 ≤ at1 ∧ at1 < sz + 1 := by rw [← hat]; exact ⟨Int.emod_nonneg _ (by omega), Int.emod_lt_of_pos _ (by omega)⟩
  generalize hm2 : m1 / (sz + 1) = m2
  obtain ⟨env1, l1, n1, f1, u1, w1, rfl, hf1, lw1⟩ := yA (body := qk (gN 3) (seqO (asgO (app (ja (rdS 0) (ja (cI 26) nil1)) zI) (g2 (gN 0) (gN 6))) (qg 2 (two (rdS 2) (two (rdS 1) (rdS 6) ixD) addD))))
    (fun ds env => ∃ (n : Int) (f : Str) (u w : Slot), env = [.shr (.int n), .shr (.str abc), .shr (.str f), u, .shr (.int sz), .shr (.int at1), w] ∧ f.length + ds.length = (sz + 1).toNat ∧ Low f)
    (by
      rintro d ds env ⟨n, f, u, w, rfl, hl, lw⟩
      obtain ⟨c, hc, hcm⟩ := ixS2 (z := abc) (i := n % 26) (by omega) (by rw [VQ]; omega)
      simp only [List.length_cons] at hl
      have hlen : (f ++ (⟨#[c]⟩ : Str)).length = f.length + 1 := strLen_append _ _
      refine ⟨[.shr (.int (n / 26)), .shr (.str abc), .shr (.str (f ++ (⟨#[c]⟩ : Str))), .shr d, .shr (.int sz), .shr (.int at1), .shr (.int (n % 26))], ?_, _, _, _, _, rfl, by rw [hlen]; omega, Wm lw (KG hcm)⟩
      rw [qy (env' := [.shr (.int n), .shr (.str abc), .shr (.str f), .shr d, .shr (.int sz), .shr (.int at1), w]) rfl]
      rw [jC (env' := [.shr (.int (n / 26)), .shr (.str abc), .shr (.str f), .shr d, .shr (.int sz), .shr (.int at1), .shr (.int (n % 26))]) (yl (Ys rfl rfl (by omega)))]
      refine (qo (jv rfl (jv rfl rfl hc) (jt (c := f.length + (⟨#[c]⟩ : Str).length ≤ sizeLine) (Nat.le_trans (show f.length + 1 ≤ 8 by omega) (by decide))))).trans rfl)
    (wA 0 (sz + 1).toNat) [.shr (.int m2), .shr (.str abc), .shr (.str ""), .un, .shr (.int sz), .shr (.int at1), .un] ⟨m2, "", .un, .un, rfl, by rw [zG, show ("" : Str).length = 0 by decide, Nat.zero_add], fun c hc => by cases hc⟩
  simp only [List.length_nil] at hf1
  obtain ⟨ts, hts, hl, hR⟩ := Wu (js := [2, 1, 5, 0]) (fi := rngF (ja (cI 5) nil1)) (fe := two (two (zB (rdS 1) Zc (wO (rdS 3)) slD) (two (rdS 2) (two (two (rdS 4) (two (cI 5) (rdS 0) mulI) addD) (cI 26) modI) ixD) addD) (zB (rdS 1) (wO (two (rdS 3) (cI 1) addD)) Zc slD) addD)
    (env := [.shr (.int n1), .shr (.str abc), .shr (.str f1), u1, .shr (.int sz), .shr (.int at1), w1]) (ds := wA 0 5) (cs := [.shr (.str f1), .shr (.str abc), .shr (.int at1), .shr (.int n1)])
    (fun t => ∃ z : Str, t = .str z ∧ isNm (.str z) = true) (fun d => ∃ k : Int, d = .int k ∧ 0 ≤ k ∧ k < 0 + (5 : Nat)) rfl rfl (fun d hd => yW hd) (by rw [zG]; exact Nat.le_trans (by decide) hbig) (by
      rintro d acc ⟨k, rfl, hk0, hk1⟩
      obtain ⟨c, hc, hcm⟩ := ixS2 (z := abc) (i := (n1 + 5 * k) % 26) (by omega) (by rw [VQ]; omega)
      have hA := Nat.le_trans (vx f1 none (some at1)) (ja7 at1 f1.length (by omega))
      have hB := Nat.le_trans (vx f1 (some (at1 + 1)) none) (ja8 (at1 + 1) f1.length (by omega))
      have h1 : (cutS f1 none (some at1) ++ (⟨#[c]⟩ : Str)).length = (cutS f1 none (some at1)).length + 1 := strLen_append _ _
      have h2 : ((cutS f1 none (some at1) ++ (⟨#[c]⟩ : Str)) ++ cutS f1 (some (at1 + 1)) none).length = (cutS f1 none (some at1) ++ (⟨#[c]⟩ : Str)).length + (cutS f1 (some (at1 + 1)) none).length := strLen_append _ _
      refine ⟨_, jv (jv (yr rfl rfl (xF rfl) rfl) (jv rfl (qB (zj rfl (wV (a := 10) (b := 10) rfl rfl (by omega) (by omega) (by omega))) rfl (by omega)) hc) (jt (c := (cutS f1 none (some at1)).length + (⟨#[c]⟩ : Str).length ≤ sizeLine) (Nat.le_trans (show _ + 1 ≤ 20 by omega) hbig))) (yr rfl (xF (jv rfl rfl rfl)) rfl rfl) (jt (c := _ + _ ≤ sizeLine) (by omega)), _, rfl, uq (by omega) (by omega) (Wm (Wm (KH _ _ lw1) (KG hcm)) (KH _ _ lw1))⟩)
  refine ⟨.lst ts, wv ?_, ts, rfl, by rw [hl, zG], hR⟩
  show zQ [.shr (.int m), .un, .un, .un, .un, .un, .un] = _
  unfold zQ
  rw [jC (env' := [.shr (.int m), .shr (.str abc), .un, .un, .un, .un, .un]) rfl]
  rw [jC (env' := [.shr (.int m1), .shr (.str abc), .un, .un, .shr (.int sz), .un, .un]) ((yl (Ys rfl rfl (by omega))).trans (by rw [hm1, hsz]; rfl))]
  rw [jC (env' := [.shr (.int m2), .shr (.str abc), .un, .un, .shr (.int sz), .shr (.int at1), .un]) ((yl (Ys (i := m1) (j := sz + 1) rfl (jv rfl rfl rfl) (by omega))).trans (by rw [hm2, hat]; rfl))]
  rw [jC (env' := [.shr (.int m2), .shr (.str abc), .shr (.str ""), .un, .shr (.int sz), .shr (.int at1), .un]) rfl]
  rw [jC ((zT (ds := wA 0 (sz + 1).toNat) (J3 (jd (jv rfl rfl rfl) rfl) (by omega))).trans l1)]
  exact zi hts
theorem big1 : 20000 ≤ sizeLine := by decide
theorem jG {k : Nat} (h : k ≤ 20000) : k ≤ sizeLine := Nat.le_trans h big1
def isT : D → Bool
  | .tup _ => true
  | _ => false
def Fiv (ns : List Str) (d : D) : Prop := d = .lst (ns.map .str) ∧ ns.length = 5 ∧ ∀ z ∈ ns, isNm (.str z) = true
theorem UU {d : D} (h : Five d) : ∃ ns, Fiv ns d := by
  obtain ⟨xs, rfl, hl, hx⟩ := h
  have key : ∀ xs : List D, (∀ x ∈ xs, ∃ z : Str, x = .str z ∧ isNm (.str z) = true) → ∃ ns : List Str, xs = ns.map .str ∧ ∀ z ∈ ns, isNm (.str z) = true := fun xs => by
    induction xs with
    | nil => intro _; exact ⟨[], rfl, fun _ h => by cases h⟩
    | cons x r ih =>
      intro h
      obtain ⟨z, rfl, hz⟩ := h _ (List.mem_cons_self ..)
      obtain ⟨ns, rfl, hn⟩ := ih fun y hy => h y (by simp [hy])
      refine ⟨z :: ns, rfl, fun y hy => ?_⟩
      rcases List.mem_cons.mp hy with e | e
      · rw [e]; exact hz
      · exact hn y e
  obtain ⟨ns, rfl, hn⟩ := key xs hx
  exact ⟨ns, rfl, by simpa using hl, hn⟩
section
variable {ns : List Str}
theorem vj {ns : List Str} {d : D} (h : Fiv ns d) (i : Int) (h0 : 0 ≤ i) (h1 : i < 5) : ∃ z : Str, ixD d (.int i) = .ok (.str z) ∧ z ∈ ns := by
  obtain ⟨rfl, hl, _⟩ := h
  obtain ⟨x, hix, hm⟩ := ixL (ds := ns.map .str) h0 (by rw [List.length_map]; omega)
  obtain ⟨z, hz, rfl⟩ := List.mem_map.mp hm
  exact ⟨z, hix, hz⟩
theorem vg {t : D} (h : tk ns t = true) : isiD "tuple" t = .ok (.bl (isT t)) := by
  rcases qm h with ⟨i, rfl⟩ | ⟨z, ts, rfl, _⟩ <;> rfl
end
end G
namespace G
open PySem PySem.Spec L2 M
open Builtin.Int (intBits)
section
variable {ns : List Str} {fs : List Int}
theorem xA (z : Str) (ts : List D) : hgt (.tup (.str z :: ts)) = 1 + hgts ts := by rw [Zp]; rfl
theorem yV (z : Str) (ts : List D) : num (.tup (.str z :: ts)) = 1 + nums ts := by rw [Zb]; rfl
theorem Jo (z : Str) (ts : List D) : bks (.tup (.str z :: ts)) = bkss ts := by simp [bks]
theorem VL (i : Int) : bks (.int i) = [i] := by simp [bks]
theorem Ky {a b : Int} : neR (.int a) (.int b) = .ok (.bl (!(a == b))) := by
  unfold neR
  rw [jt (by left; simp [D.eqb, D.dep])]; simp [eqD]
theorem kZ (S : List D) : neR (.lst S) (.lst []) = .ok (.bl (!S.isEmpty)) := by
  cases S with
  | nil => rfl
  | cons x r =>
    unfold neR
    rw [jt (.inr (by simp [JA]))]
    simp [eqD, eqDs]
def bnd : Nat → Nat
  | 0 => 1
  | r + 1 => 1 + 3 * bnd r
structure Gt (ns : List Str) (fs : List Int) (r : Nat) (t : D) : Prop where
  tk : tk ns t = true
  hg : hgt t ≤ r + 1
  nm : num t ≤ bnd r
  bk : ∀ x ∈ bks t, x ∈ fs
theorem uX (r : Nat) : 1 ≤ bnd r := by
  cases r with
  | zero => exact Nat.le_refl _
  | succ r => simp only [bnd]; omega
theorem x0 {nm : D} (hn : Fiv ns nm) (hfz : fs.length ≤ 1000) : ∀ (n r : Nat) (m : Int), r + 1 ≤ n → (0 ≤ m ∧ m < 2 ^ 140) → ∃ t, ql n [.int m, nm, .int r, .lst (fs.map .int)] = .ok t ∧ Gt ns fs r t
  | 0, r, m, h1, hm => by omega
  | n + 1, r, m, h1, hm => by
    have hbig : 20 ≤ sizeLine := by decide
    generalize hkd : m % 6 = kd
    generalize hm1 : m / 6 = m1
    generalize hfr : D.lst (fs.map .int) = fr
    have hne : neR fr (.lst []) = .ok (.bl (!fs.isEmpty)) := by rw [← hfr, kZ]; simp
    have t1 : andB (asB (two (rdS 3) (lstF nil1) neR)) (orB (asB (two (rdS 5) (cI 0) eqR)) (andB (asB (two (rdS 2) (cI 0) eqR)) (asB (two (rdS 5) (cI 3) ltI)))) [.shr (.int m1), .shr nm, .shr (.int r), .shr fr, .un, .shr (.int kd), .un, .un] = .ok (!fs.isEmpty && ((kd == 0) || (((r : Int) == 0) && decide (kd < 3)))) :=
      XI (jL (jv rfl (xL rfl (Nat.zero_le _)) hne)) (yS (jL (jv rfl rfl Jg)) (XI (jL (jv rfl rfl Jg)) (jL (jv rfl rfl rfl))))
    have start : ∀ g : Sl → Res Out, seqO (asgO (app (ja (rdS 0) (ja (cI 6) nil1)) zI) (g2 (gN 0) (gN 5))) g [.shr (.int m), .shr nm, .shr (.int r), .shr fr, .un, .un, .un, .un] = g [.shr (.int m1), .shr nm, .shr (.int r), .shr fr, .un, .shr (.int kd), .un, .un] := by
      intro g
      rw [jC (env' := [.shr (.int m1), .shr nm, .shr (.int r), .shr fr, .un, .shr (.int kd), .un, .un]) ((yl (Ys rfl rfl (by omega))).trans (by rw [hm1, hkd]; rfl))]
    by_cases hb1 : (!fs.isEmpty && ((kd == 0) || (((r : Int) == 0) && decide (kd < 3)))) = true
    · have hpos : 0 < fs.length := by
        simp only [Bool.and_eq_true] at hb1
        cases fs with
        | nil => simp at hb1
        | cons x r => simp
      have hmod : 0 ≤ m1 % (fs.length : Int) ∧ m1 % (fs.length : Int) < fs.length := ⟨Int.emod_nonneg _ (by omega), Int.emod_lt_of_pos _ (by omega)⟩
      obtain ⟨d, hd, hmem⟩ := ixL (ds := fs.map .int) (i := m1 % (fs.length : Int)) hmod.1 (by rw [List.length_map]; exact hmod.2)
      obtain ⟨i, hi, rfl⟩ := List.mem_map.mp hmem
      rw [hfr] at hd
      have hlen : lenD [fr] = .ok (.int (fs.length : Int)) := by rw [← hfr]; show Res.ok (D.int ((fs.map D.int).length : Int)) = _; rw [List.length_map]
      refine ⟨.int i, jbN ?_, ⟨rfl, by simp [hgt], uX r, by rw [VL]; intro x hx; simp only [List.mem_cons, List.not_mem_nil, or_false] at hx; rw [hx]; exact hi⟩⟩
      show q0 (ql n) jN [.shr (.int m), .shr nm, .shr (.int r), .shr fr, .un, .un, .un, .un] = _
      unfold q0
      rw [start]
      exact kR ((if_t (by rw [t1, hb1])).trans (vK (jv rfl (qB rfl (qT (jd rfl rfl) hlen) (by omega)) hd)))
    · have hb1 : (!fs.isEmpty && ((kd == 0) || (((r : Int) == 0) && decide (kd < 3)))) = false := by simpa using hb1
      generalize hwh : m1 % 7 = wh
      generalize hm2 : m1 / 7 = m2
      generalize hc0 : m2 % 4 = c0
      generalize hm3 : m2 / 4 = m3
      have hm3b : 0 ≤ m3 ∧ m3 < 2 ^ 140 := by omega
      obtain ⟨z, hz, hzn⟩ := vj hn (wh % 5) (by omega) (by omega)
      have hct : ∃ ct : Int, 0 ≤ ct ∧ ct ≤ 3 ∧ (r = 0 → ct = 0) ∧ ∀ g : Sl → Res Out, seqO (ifO (asB (two (rdS 2) (cI 0) eqR)) (qg 7 (cI 0)) nxO) g
          [.shr (.int m3), .shr nm, .shr (.int r), .shr fr, .un, .shr (.int kd), .shr (.int wh), .shr (.int c0)] = g [.shr (.int m3), .shr nm, .shr (.int r), .shr fr, .un, .shr (.int kd), .shr (.int wh), .shr (.int ct)] := by
        have tb : asB (two (rdS 2) (cI 0) eqR) [.shr (.int m3), .shr nm, .shr (.int r), .shr fr, .un, .shr (.int kd), .shr (.int wh), .shr (.int c0)] = .ok ((r : Int) == 0) := jL (jv rfl rfl Jg)
        by_cases hr0 : r = 0
        · subst hr0
          refine ⟨0, by omega, by omega, fun _ => rfl, fun g => ?_⟩
          rw [jC ((if_t (by rw [tb]; rfl)).trans rfl)]
          rfl
        · refine ⟨c0, by omega, by omega, fun h => absurd h hr0, fun g => ?_⟩
          rw [jC ((if_f (by rw [tb]; simp; omega)).trans rfl)]
      obtain ⟨ct, c1, c2, c3, hctg⟩ := hct
      obtain ⟨ts, hts, hl, hR⟩ := Wu (js := [1, 3, 0, 2]) (fi := rngF (ja (rdS 7) nil1)) (fe := jo 4 (ql n) (ja (jo 2 jN (ja (rdS 3) (ja (rdS 0) nil1))) (ja (rdS 1) (ja (two (rdS 4) (cI 1) subI) (ja (rdS 2) nil1)))))
        (env := [.shr (.int m3), .shr nm, .shr (.int r), .shr fr, .un, .shr (.int kd), .shr (.int wh), .shr (.int ct)]) (ds := wA 0 ct.toNat) (cs := [.shr nm, .shr fr, .shr (.int m3), .shr (.int r)])
        (Gt ns fs (r - 1)) (fun d => ∃ k : Int, d = .int k ∧ 0 ≤ k ∧ k < 10 ∧ 1 ≤ r) rfl (J3 (jd rfl rfl) (by omega)) (fun d hd => by
          obtain ⟨k, rfl, k0, k1⟩ := yW hd
          exact ⟨k, rfl, k0, by omega, by rcases Nat.eq_zero_or_pos r with h | h; · rw [c3 h] at k1; simp at k1; omega
                                          · exact h⟩) (by rw [zG]; omega) (by
          rintro d acc ⟨k, rfl, k0, k1, hr⟩
          obtain ⟨m4, hm4, hb⟩ := wy m3 k hm3b (by omega)
          obtain ⟨t, ht, hg⟩ := x0 hn hfz n (r - 1) m4 (by omega) hb
          rw [hfr] at ht
          have e : ((r : Int) - 1) = ((r - 1 : Nat) : Int) := by omega
          exact ⟨t, jw (ds := [.int m4, nm, .int ((r : Int) - 1), fr]) (jd (jw (jd rfl (jd rfl rfl)) rfl hm4) (jd rfl (jd (jv rfl rfl rfl) (jd rfl rfl)))) rfl (by rw [e]; exact ht), hg⟩)
      rw [zG] at hl
      refine ⟨.tup (.str z :: ts), wv ?_, ⟨VU hzn (by omega) fun t ht => (hR t ht).tk, ?_, ?_, ?_⟩⟩
      · show q0 (ql n) jN [.shr (.int m), .shr nm, .shr (.int r), .shr fr, .un, .un, .un, .un] = _
        unfold q0
        rw [start, jC ((if_f (by rw [t1, hb1])).trans rfl)]
        rw [jC (env' := [.shr (.int m2), .shr nm, .shr (.int r), .shr fr, .un, .shr (.int kd), .shr (.int wh), .un]) ((yl (Ys rfl rfl (by omega))).trans (by rw [hm2, hwh]; rfl))]
        rw [jC (env' := [.shr (.int m3), .shr nm, .shr (.int r), .shr fr, .un, .shr (.int kd), .shr (.int wh), .shr (.int c0)]) ((yl (Ys rfl rfl (by omega))).trans (by rw [hm3, hc0]; rfl))]
        rw [hctg]
        rw [jC (env' := [.shr (.int m3), .shr nm, .shr (.int r), .shr fr, .shr (.lst ts), .shr (.int kd), .shr (.int wh), .shr (.int ct)]) ((qo hts).trans rfl)]
        exact zi (qT (jd (jv (xL (jd (jv rfl (qB rfl rfl (by omega)) hz) rfl) (Nat.le_trans (show 1 ≤ 20 by decide) hbig)) rfl (Wz (a := [.str z]) (b := ts) (by simp only [List.length_cons, List.length_nil]; omega))) rfl) rfl)
      · rw [xA]
        rcases Nat.eq_zero_or_pos r with h | h
        · have : ts = [] := List.eq_nil_of_length_eq_zero (by rw [hl, c3 h]; rfl)
          subst this
          simp [hgts]
        · have := M.hgts_le (ds := ts) (k := r) fun t ht => by have := (hR t ht).hg; omega
          omega
      · rw [yV]
        have hq := ui (ts := ts) (k := bnd (r - 1)) fun t ht => (hR t ht).nm
        match r, c3, hq with
        | 0, c3, hq =>
          have : ts.length = 0 := by rw [hl, c3 rfl]; rfl
          rw [this] at hq
          simp only [bnd]; omega
        | r + 1, c3, hq =>
          simp only [bnd, show r + 1 - 1 = r from rfl] at hq ⊢
          have h3 : ts.length ≤ 3 := by omega
          have := Nat.mul_le_mul_right (bnd r) h3
          omega
      · intro x hx
        rw [Jo, ZL] at hx
        obtain ⟨t, ht, hxt⟩ := List.mem_flatMap.mp hx
        exact (hR t ht).bk x hxt
end
end G
namespace G
open PySem PySem.Spec L2 M
open Builtin.Int (intBits)
theorem QY : ∀ (n : Nat) (d : D), fine d = true → hgt d ≤ n → num d ≤ 1000 → jK n [d] = .ok (.lst (pts d))
  | 0, d, _, h, _ => by have := Qr d; omega
  | n + 1, d, hf, hh, hn => by
    have hk := xQ hf
    rw [Zp] at hh
    rw [Zb] at hn
    have key := Jc (body := qk (gN 2) (qh 1 (jo 1 (jK n) (ja (rdS 2) nil1)))) (fun (a : List D × Slot) => [.shr d, .own (.lst a.1), a.2]) (fun a e => (a.1 ++ pts e, .shr e)) (fun ds a => q8 ds = true ∧ hgts ds ≤ n ∧ a.1.length + nums ds ≤ 1000) (fun e ds a ⟨h1, h2, h3⟩ => by
      simp only [q8, Bool.and_eq_true] at h1
      simp only [hgts] at h2
      simp only [nums] at h3
      have hl := yO e
      refine ⟨?_, h1.2, by omega, by simp only [List.length_append]; omega⟩
      show qh 1 (jo 1 (jK n) (ja (rdS 2) nil1)) [.shr d, .own (.lst a.1), .shr e] = _
      show (Res.ok a.1 >>= fun ds => jK n [e] >>= _) = _
      rw [QY n e h1.1 (by omega) (by omega)]
      exact jt (c := a.1.length + (pts e).length ≤ sizeLine) (Nat.le_trans (by omega : _ ≤ 10000) (by decide))) (kids d) ([d], .un) ⟨hk.1, by omega, by simp only [List.length_cons, List.length_nil]; omega⟩
    have hfold : ∀ (ds : List D) (a : List D × Slot), (ds.foldl (fun (a : List D × Slot) e => (a.1 ++ pts e, Slot.shr e)) a).1 = a.1 ++ ptss ds := by
      intro ds
      induction ds with
      | nil => intro a; simp [ptss]
      | cons d ds ih => intro a; rw [List.foldl_cons, ih]; simp [ptss]
    have e1 : Jb j3 (jK n) (qd 3 [d]) = .ok (.rt true (.lst (pts d))) := by
      have e0 : Jb j3 (jK n) (qd 3 [d]) = ((j3 [d] >>= UI) >>= fun ds => forD (qk (gN 2) (qh 1 (jo 1 (jK n) (ja (rdS 2) nil1)))) ds [.shr d, .own (.lst [d]), .un]) >>= outK (retO (rdO 1)) := by
        unfold Jb
        rw [wX]
        show (seqO _ _) _ = _
        rw [wX]; rfl
      rw [e0, Z3 (yC hf)]
      show (forD _ (kids d) _ >>= _) = _
      rw [key]
      show Res.ok (Out.rt true (D.lst ((kids d).foldl (fun (a : List D × Slot) e => (a.1 ++ pts e, Slot.shr e)) ([d], .un)).1)) = _
      rw [hfold, jat]; rfl
    exact wY e1
section
variable {ns : List Str} {fs : List Int}
def isN : D → Bool
  | .int _ => true
  | _ => false
theorem YI {t : D} (h : tk ns t = true) : jr [t] = .ok (.bl (isN t)) := by
  rcases qm h with ⟨i, rfl⟩ | ⟨z, ts, rfl, _⟩ <;> rfl
theorem VJ : ∀ t, tk ns t = true → (bks t).length ≤ num t := wS (fun i => by simp [bks, num]) fun z ts _ _ h => by
  rw [Jo, yV]
  have : ∀ us : List D, (∀ u ∈ us, (bks u).length ≤ num u) → (bkss us).length ≤ nums us := fun us => by
    induction us with
    | nil => intro _; simp [bkss, nums]
    | cons d r ih =>
      intro h
      have h1 := h d (by simp)
      have h2 := ih fun u hu => h u (by simp [hu])
      simp only [bkss, nums, List.length_append]; omega
  have := this ts fun u hu => (h u hu).2
  omega
theorem W6 {n : Nat} (t : Slot) : ∀ (ds : List D) (a : List Int) (u : Slot), (∀ d ∈ ds, jH n [d] = .ok (.lst ((bks d).map .int)) ∧ (bks d).length ≤ num d) → a.length + nums ds ≤ 2000 →
    ∃ (u' : Slot), forD (qk (gN 2) (qh 1 (jo 1 (jH n) (ja (rdS 2) nil1)))) ds [t, .own (.lst (a.map .int)), u] = .ok (.nx [t, .own (.lst ((a ++ bkss ds).map .int)), u'])
  | [], a, u, _, _ => ⟨u, by simp [forD, bkss]⟩
  | d :: r, a, u, hd, hl => by
    obtain ⟨hb, hbl⟩ := hd d (by simp)
    simp only [nums] at hl ⊢
    obtain ⟨u', ih⟩ := W6 t r (a ++ bks d) (.shr d) (fun e he => hd e (by simp [he])) (by simp only [List.length_append]; omega)
    refine ⟨u', ?_⟩
    have s : qk (gN 2) (qh 1 (jo 1 (jH n) (ja (rdS 2) nil1))) d [t, .own (.lst (a.map .int)), u] = .ok (.nx [t, .own (.lst ((a ++ bks d).map .int)), .shr d]) := by
      rw [qy (env' := [t, .own (.lst (a.map .int)), .shr d]) rfl]
      have hc : jo 1 (jH n) (ja (rdS 2) nil1) [t, .own (.lst (a.map .int)), .shr d] = .ok (.lst ((bks d).map .int)) := jw (jd rfl rfl) rfl hb
      show (Res.ok (a.map D.int) >>= fun ds => jo 1 (jH n) (ja (rdS 2) nil1) [t, .own (.lst (a.map .int)), .shr d] >>= _) = _
      rw [hc]
      refine (jt (c := (a.map D.int).length + ((bks d).map D.int).length ≤ sizeLine) (by simp only [List.length_map]; exact jG (by omega))).trans ?_
      rw [List.map_append]; rfl
    rw [qC s, ih]
    simp only [bkss, List.append_assoc]
theorem W5 : ∀ (n : Nat) (t : D), tk ns t = true → hgt t ≤ n → num t ≤ 1000 → jH n [t] = .ok (.lst ((bks t).map .int))
  | 0, t, _, h, _ => by have := Qr t; omega
  | n + 1, t, ht, hh, hnm => by
    have htest : asB (jo 1 jr (ja (rdS 0) nil1)) [.shr t, .un, .un] = .ok (isN t) := jL (jw (jd rfl rfl) rfl (YI ht))
    rcases qm ht with ⟨i, rfl⟩ | ⟨z, r, rfl, hz, hl, hr⟩
    · refine wv ?_
      show qv jr (jH n) [.shr (.int i), .un, .un] = _
      unfold qv
      rw [VL]
      exact kR ((if_t htest).trans (zi (xL (jd rfl rfl) (jG (by simp)))))
    · rw [xA] at hh
      rw [yV] at hnm
      have hnum : ∀ d ∈ r, num d ≤ nums r := fun d hd => by
        obtain ⟨a, b, rfl⟩ := List.append_of_mem hd
        rw [WY]; simp only [nums]; omega
      obtain ⟨u', hf⟩ := W6 (n := n) (.shr (.tup (.str z :: r))) r [] .un (fun d hd => ⟨W5 n d (hr d hd) (by have := wB hd; omega) (by have := hnum d hd; omega), VJ d (hr d hd)⟩) (by simp only [List.length_nil]; omega)
      refine wv ?_
      show qv jr (jH n) [.shr (.tup (.str z :: r)), .un, .un] = _
      unfold qv
      have hsl : zB (rdS 0) (wO (cI 1)) Zc slD [.shr (.tup (.str z :: r)), .own (.lst []), .un] = .ok (.tup r) := yr (x := .tup (.str z :: r)) (lo := some 1) (hi := none) rfl (xF rfl) rfl (show Res.ok (D.tup (cutD (.str z :: r) (some 1) none)) = _ by rw [cut1])
      rw [jC ((if_f htest).trans rfl)]
      rw [jC (env' := [.shr (.tup (.str z :: r)), .own (.lst []), .un]) rfl]
      rw [Jo]
      exact (jC ((zT (ds := r) (JL hsl rfl)).trans hf)).trans rfl
def trs (l : List Int) : List D := l.map fun _ => .bl true
theorem jas (l : List Int) (x : Int) : QU (kys l) (.inl x) = kys (ins l x) ∧ QV (kys l) (trs l) (.inl x) (.bl true) = trs (ins l x) := by
  unfold QU QV ins
  rw [UQ]
  by_cases h : x ∈ l
  · simp only [h, decide_true, if_true, true_and]
    clear h
    induction l with
    | nil => rfl
    | cons a l ih =>
      simp only [kys, trs, List.map_cons, List.zip_cons_cons] at ih ⊢
      rw [ih]
      simp
  · simp [h, kys, trs]
theorem ut (l : List Int) (x : Int) : (ins l x).length ≤ l.length + 1 := by
  unfold ins; split <;> simp
theorem Xf (l : List Hd) (x : Hd) : (hins l x).length ≤ l.length + 1 := by
  unfold hins; split <;> simp
def bkL (t : D) : List Int := met [] (intL (pts t))
theorem xD (t : Slot) : ∀ (ds : List D) (a : List Int) (u : Slot), (∀ d ∈ ds, tk ns d = true) → a.length + ds.length ≤ 2000 → ∃ u', forD (qk (gN 2) (ifO (notB (asB (isiF "tuple" (rdS 2)))) (Vt 1 (rdS 2) (cB true)) nxO)) ds [t, .own (.dic (kys a) (trs a)), u] = .ok (.nx [t, .own (.dic (kys (met a (intL ds))) (trs (met a (intL ds)))), u'])
  | [], a, u, _, _ => ⟨u, rfl⟩
  | d :: ds, a, u, h, hl => by
    simp only [List.length_cons] at hl
    have hd := h d (by simp)
    have htest : notB (asB (isiF "tuple" (rdS 2))) [t, .own (.dic (kys a) (trs a)), .shr d] = .ok (!isT d) := qz (jL (by rw [xB]; exact vg hd))
    rcases qm hd with ⟨i, rfl⟩ | ⟨z, ts, rfl, _⟩
    · obtain ⟨p1, p2⟩ := jas a i
      have hk : (kys a).length < sizeLine := by rw [um]; exact Nat.lt_of_lt_of_le (show a.length < 20000 by omega) big1
      have hstep : qk (gN 2) (ifO (notB (asB (isiF "tuple" (rdS 2)))) (Vt 1 (rdS 2) (cB true)) nxO) (.int i) [t, .own (.dic (kys a) (trs a)), u] = .ok (.nx [t, .own (.dic (kys (ins a i)) (trs (ins a i))), .shr (.int i)]) := by
        rw [qy (env' := [t, .own (.dic (kys a) (trs a)), .shr (.int i)]) rfl, if_t htest]
        show must ((kys a).length < sizeLine) (Res.ok (Out.nx [t, .own (.dic (QU (kys a) (.inl i)) (QV (kys a) (trs a) (.inl i) (.bl true))), .shr (.int i)])) = _
        rw [jt hk, p1, p2]
      have := ut a i
      obtain ⟨u', hu⟩ := xD t ds (ins a i) (.shr (.int i)) (fun e he => h e (by simp [he])) (by omega)
      exact ⟨u', by rw [qC hstep, hu]; rfl⟩
    · have hstep : qk (gN 2) (ifO (notB (asB (isiF "tuple" (rdS 2)))) (Vt 1 (rdS 2) (cB true)) nxO) (.tup (.str z :: ts)) [t, .own (.dic (kys a) (trs a)), u] = .ok (.nx [t, .own (.dic (kys a) (trs a)), .shr (.tup (.str z :: ts))]) := by
        rw [qy (env' := [t, .own (.dic (kys a) (trs a)), .shr (.tup (.str z :: ts))]) rfl, if_f htest]; rfl
      obtain ⟨u', hu⟩ := xD t ds a (.shr (.tup (.str z :: ts))) (fun e he => h e (by simp [he])) (by omega)
      exact ⟨u', by rw [qC hstep, hu]; rfl⟩
theorem VI {t : D} (ht : tk ns t = true) (hh : hgt t ≤ 64) (hn : num t ≤ 1000) : yF [t] = .ok (.lst ((bkL t).map .int)) := by
  have hp := QY 64 t (Jd t ht) hh hn
  have hlen := yO t
  obtain ⟨u, hu⟩ := xD (.shr t) (pts t) [] .un (WP t ht) (by simp only [List.length_nil]; omega)
  have hit : itF (jo 1 (jK 64) (ja (rdS 0) nil1)) [.shr t, .own (.dic [] []), .un] = .ok (pts t) := JL (jw (jd rfl rfl) rfl hp) rfl
  refine wv ?_
  show yz (jK 64) [.shr t, .un, .un] = _
  unfold yz
  rw [jC (env' := [.shr t, .own (.dic [] []), .un]) rfl]
  rw [jC ((zT hit).trans hu)]
  show retO (app (ja (rdS 1) nil1) UE) [.shr t, .shr (.dic (kys (bkL t)) (trs (bkL t))), u] = _
  refine zi (qT (jd rfl rfl) ?_)
  show must _ _ = _
  rw [jt (by simp [kys])]
  simp [kys, kD, Function.comp_def]
theorem Qs (z : Str) (ts : List D) : qU [.tup (.str z :: ts)] = .ok (hdD (z, (ts.length : Int))) := by
  refine wv ?_
  show Xh [.shr (.tup (.str z :: ts))] = _
  unfold Xh
  refine (zi ?_).trans rfl
  show ifD (asB (isiF "tuple" (rdS 0))) (tupF (ja (two (rdS 0) (cI 0) ixD) (ja (two (app (ja (rdS 0) nil1) lenD) (cI 1) subI) nil1))) cN [.shr (.tup (.str z :: ts))] = .ok (hdD (z, (ts.length : Int)))
  rw [jbg]
  show tupF _ _ = _
  refine wM (ds := [.str z, .int (ts.length : Int)]) (jd (jv rfl rfl ix0) (jd ?_ rfl)) (jG (show 2 ≤ 20000 by decide))
  refine jv (qT (jd rfl rfl) rfl) rfl ?_
  show Res.ok (D.int ((((D.str z :: ts).length : Nat) : Int) - 1)) = _
  simp
theorem ye (t s : Slot) : ∀ (ds : List D) (l : List Hd) (u : Slot), (∀ d ∈ ds, tk ns d = true) → l.length + ds.length ≤ 2000 → ∃ u', forD (qk (gN 3) (ifO (asB (isiF "tuple" (rdS 3))) (Zw 1 (jo 1 qU (ja (rdS 3) nil1)) (cB true)) nxO)) ds [t, .own (.dit (l.map hdK) (htrs l)), s, u] = .ok (.nx [t, .own (.dit ((hmet l (hdL ds)).map hdK) (htrs (hmet l (hdL ds)))), s, u'])
  | [], l, u, _, _ => ⟨u, rfl⟩
  | d :: ds, l, u, h, hl => by
    simp only [List.length_cons] at hl
    have hd := h d (by simp)
    have htest : asB (isiF "tuple" (rdS 3)) [t, .own (.dit (l.map hdK) (htrs l)), s, .shr d] = .ok (isT d) := jL (by rw [xB]; exact vg hd)
    rcases qm hd with ⟨i, rfl⟩ | ⟨z, ts, rfl, _⟩
    · have hstep : qk (gN 3) (ifO (asB (isiF "tuple" (rdS 3))) (Zw 1 (jo 1 qU (ja (rdS 3) nil1)) (cB true)) nxO) (.int i) [t, .own (.dit (l.map hdK) (htrs l)), s, u] = .ok (.nx [t, .own (.dit (l.map hdK) (htrs l)), s, .shr (.int i)]) := by
        rw [qy (env' := [t, .own (.dit (l.map hdK) (htrs l)), s, .shr (.int i)]) rfl, if_f htest]; rfl
      obtain ⟨u', hu⟩ := ye t s ds l (.shr (.int i)) (fun e he => h e (by simp [he])) (by omega)
      exact ⟨u', by rw [qC hstep, hu]; rfl⟩
    · obtain ⟨p1, p2⟩ := Y6 l (z, (ts.length : Int))
      have hk : (l.map hdK).length < sizeLine := by rw [List.length_map]; exact Nat.lt_of_lt_of_le (show l.length < 20000 by omega) big1
      have hc : jo 1 qU (ja (rdS 3) nil1) [t, .own (.dit (l.map hdK) (htrs l)), s, .shr (.tup (.str z :: ts))] = .ok (hdD (z, (ts.length : Int))) := jw (jd rfl rfl) rfl (Qs z ts)
      have hstep : qk (gN 3) (ifO (asB (isiF "tuple" (rdS 3))) (Zw 1 (jo 1 qU (ja (rdS 3) nil1)) (cB true)) nxO) (.tup (.str z :: ts)) [t, .own (.dit (l.map hdK) (htrs l)), s, u] = .ok (.nx [t, .own (.dit ((hins l (z, (ts.length : Int))).map hdK) (htrs (hins l (z, (ts.length : Int))))), s, .shr (.tup (.str z :: ts))]) := by
        rw [qy (env' := [t, .own (.dit (l.map hdK) (htrs l)), s, .shr (.tup (.str z :: ts))]) rfl, if_t htest]
        show (jo 1 qU (ja (rdS 3) nil1) [t, .own (.dit (l.map hdK) (htrs l)), s, .shr (.tup (.str z :: ts))] >>= _) = _
        rw [hc]
        show must ((l.map hdK).length < sizeLine) (Res.ok (Out.nx [t, .own (.dit (J4 (l.map hdK) (hdK (z, (ts.length : Int)))) (J5 (l.map hdK) (htrs l) (hdK (z, (ts.length : Int))) (.bl true))), s, .shr (.tup (.str z :: ts))])) = _
        rw [jt hk, p1, p2]
      have := Xf l (z, (ts.length : Int))
      obtain ⟨u', hu⟩ := ye t s ds (hins l (z, (ts.length : Int))) (.shr (.tup (.str z :: ts))) (fun e he => h e (by simp [he])) (by omega)
      exact ⟨u', by rw [qC hstep, hu]; rfl⟩
end
def isPc : D → Bool
  | .tup (x :: r) => decide (r.length + 1 ≤ 10) && isNm x
  | .int i => decide (0 ≤ i) && decide (i ≤ 999)
  | _ => false
theorem jaB {d : D} (h : fine d = true) : zz [d] = .ok (.bl (isPc d)) := by
  cases d with
  | tup ds =>
    cases ds with
    | nil => rfl
    | cons x r =>
      have hx : fine x = true := by
        simp only [fine, q8, Bool.and_eq_true] at h
        exact h.2.1
      have hb : decide ((1 : Int) ≤ ((x :: r).length : Int)) = true := by simp only [List.length_cons, decide_eq_true_eq]; omega
      have hd : decide (((x :: r).length : Int) ≤ 9 + 1) = decide (r.length + 1 ≤ 10) := by simp only [List.length_cons]; rw [decide_eq_decide]; omega
      have hi : isiD "tuple" (.tup (x :: r)) = .ok (.bl true) := rfl
      have hl : lenD [.tup (x :: r)] = .ok (.int ((x :: r).length : Int)) := rfl
      have ha : addD (.int 9) (.int 1) = .ok (.int (9 + 1)) := rfl
      have hs : qd 1 [.tup (x :: r)] = [.shr (.tup (x :: r))] := rfl
      have e0 : wl zA xh (qd 1 [.tup (x :: r)]) = .ok (.rt true (.bl (decide (r.length + 1 ≤ 10) && isNm x))) := by
        simp only [wl, hs, hi, hl, ha, wX, Zt, Xm, xB, Ve, Zu, xR, Wq, ze, Xj, uK, Vi, yg, Vg, Z9, List.getElem?_cons_zero, Wy, if_true, yD, Xz, Vd, kO, hb, hd, Xl, ix0, uI, List.length_singleton, jaV (yC hx)]
        cases decide (r.length + 1 ≤ 10) <;> rfl
      exact wY e0
  | int i =>
    have hd : ∀ b c : Bool, True := fun _ _ => trivial
    have e0 : zA [.int i] = .ok (.bl (decide (0 ≤ i) && decide (i ≤ 999))) := by
      have e1 : xq ym (qd 1 [.int i]) = .ok (.rt true (.bl (decide (0 ≤ i) && decide (i ≤ 999)))) := by
        unfold xq
        rw [yg, Vd, yD]
        show ((Res.ok (D.bl (decide ((0 : Int) ≤ i))) >>= chK (cI 999 (qd 1 [.int i])) leI (.int i)) >>= _) = _
        rw [ze, Xz]
        cases decide (0 ≤ i) <;> rfl
      exact wY e1
    have e2 : wl zA xh (qd 1 [.int i]) = (zA [.int i] >>= fun d => .ok (.rt true d)) := rfl
    rw [e0] at e2
    exact wY e2
  | _ => first | rfl | cases h
theorem jbA {d : D} (h : fine d = true) : xf [d] = .ok (.bl (!isGr d && (pts d).all isPc)) := by
  have e1 : xO wq zz (jK 64) (qd 1 [d]) = .ok (.rt true (.bl (!isGr d && (pts d).all isPc))) := by
    unfold xO
    rw [yg, Vd, uH]
    show (((wq [d] >>= notD) >>= _) >>= _) = _
    rw [jbc h]
    show (toK _ true (.bl (!isGr d)) >>= _) = _
    rw [kO]
    cases hg : isGr d with
    | true => rfl
    | false =>
      rw [if_pos (show (!false) = true from rfl)]
      simp only [isGr, decide_eq_false_iff_not] at hg
      have hp := QY 64 d h (by omega) (by omega)
      have hl := yO d
      have key : qQ false 1 [] (itF (jo 1 (jK 64) (ja (rdS 0) nil1))) (gN 0) j8 (jo 1 zz (ja (rdS 0) nil1)) (qd 1 [d]) = .ok (.lst ((pts d).map fun d => D.bl (isPc d))) := by
        refine kE _ (fun d => fine d = true) (ds := pts d) ?_ (fun e he => wm (WQ d h) he) (Nat.le_trans (by omega : _ ≤ 1000) (by decide)) ?_
        · show (jK 64 [d] >>= _) = _
          rw [hp]; rfl
        · intro e acc he
          show zz [e] = _
          exact jaB he
      rw [Zu, xR, key]
      show (allD [.lst ((pts d).map fun d => D.bl (isPc d))] >>= _) = _
      rw [XL]; rfl
  exact wY e1
end G
namespace G
open PySem PySem.Spec L2 M
open Builtin.Int (intBits)
section
variable {ns : List Str} {fs : List Int}
structure Ru (ns : List Str) (l r : D) : Prop where
  tl : tk ns l = true
  tr : tk ns r = true
  lt : ∃ z ts, l = .tup (.str z :: ts)
  hl : hgt l ≤ 4
  hr : hgt r ≤ 4
  nl : num l ≤ 40
  nr : num r ≤ 40
  sub : ∀ x ∈ bks r, x ∈ bks l
  few : ∃ a b : Int, (0 ≤ a ∧ a ≤ 999) ∧ (0 ≤ b ∧ b ≤ 999) ∧ ∀ x ∈ bks l, x = a ∨ x = b
theorem yH (i : Int) : jr [.int i] = .ok (.bl true) := rfl
theorem JD {nm : D} (hn : Fiv ns nm) (m : Int) (hm : 0 ≤ m ∧ m < 2 ^ 140) : ∃ l r, qE [.int m, nm] = .ok (.tup [l, r]) ∧ Ru ns l r := by
  have hbig : 20 ≤ sizeLine := by decide
  generalize ha : m % 1000 = a
  generalize hb : (m + 1 + m / 1000 % 999) % 1000 = b
  obtain ⟨m1, e1, b1⟩ := wy m 1 hm (by omega)
  obtain ⟨m2, e2, b2⟩ := wy m 2 hm (by omega)
  obtain ⟨l0, el, gl⟩ := x0 (fs := [a, b]) hn (by simp) 6 2 m1 (by omega) b1
  have hl0 : ∀ x ∈ bks l0, x = a ∨ x = b := fun x hx => by have := gl.bk x hx; simpa using this
  obtain ⟨z, hz, hzn⟩ := vj hn (m / 10 ^ 7 % 5) (by omega) (by omega)
  have hleft : ∃ l, tk ns l = true ∧ (∃ z ts, l = .tup (.str z :: ts)) ∧ hgt l ≤ 4 ∧ num l ≤ 40 ∧ (∀ x ∈ bks l, x = a ∨ x = b) ∧ ∀ g : Sl → Res Out, seqO (ifO (asB (jo 1 jr (ja (rdS 3) nil1))) (qg 3 (tupF (ja (two (rdS 1) (two (two (rdS 0) (two (cI 10) (cI 7) powI) divI) (cI 5) modI) ixD) (ja (rdS 3) nil1)))) nxO) g
      [.shr (.int m), .shr nm, .shr (.lst [.int a, .int b]), .shr l0] = g [.shr (.int m), .shr nm, .shr (.lst [.int a, .int b]), .shr l] := by
    have ht : asB (jo 1 jr (ja (rdS 3) nil1)) [.shr (.int m), .shr nm, .shr (.lst [.int a, .int b]), .shr l0] = .ok (isN l0) := jL (jw (jd rfl rfl) rfl (YI gl.tk))
    have hg := gl.hg
    have hnm := gl.nm
    simp only [bnd] at hnm
    rcases qm gl.tk with ⟨i, rfl⟩ | ⟨z0, ts, rfl, _⟩
    · refine ⟨.tup [.str z, .int i], VU hzn (by simp) (fun t h => by simp at h; subst h; rfl), ⟨_, _, rfl⟩, by simp [xA, hgts, hgt], by simp [yV, nums, num], fun x hx => hl0 x (by rw [Jo] at hx; simpa [bkss, bks] using hx), fun g => ?_⟩
      refine jC ((if_t ht).trans ((qo (wM (ds := [.str z, .int i]) (jd (jv rfl (qB (jv rfl (jv rfl rfl (WV (i := 10) (j := 7) (by decide))) (vp (by decide))) rfl (by omega)) hz) (jd rfl rfl)) (Nat.le_trans (show 2 ≤ 20 by decide) hbig))).trans rfl))
    · exact ⟨_, gl.tk, ⟨_, _, rfl⟩, by omega, by omega, hl0, fun g => jC ((if_f ht).trans rfl)⟩
  obtain ⟨l, h1, h2, h3, h4, h5, h6⟩ := hleft
  have hbl := W5 64 l h1 (by omega) (by omega)
  have hbn := VJ l h1
  obtain ⟨r, er, gr⟩ := x0 (fs := bks l) hn (by omega) 6 3 m2 (by omega) b2
  have hg := gr.hg
  have hnm := gr.nm
  simp only [bnd] at hnm
  refine ⟨l, r, wv ?_, ⟨h1, gr.tk, h2, h3, by omega, h4, by omega, gr.bk, a, b, by omega, by omega, h5⟩⟩
  show wE (ql 6) jr jN (jH 64) [.shr (.int m), .shr nm, .un, .un] = _
  unfold wE
  rw [jC (env' := [.shr (.int m), .shr nm, .shr (.lst [.int a, .int b]), .un]) ((qo (xL (ds := [.int a, .int b]) (jd ((qB rfl rfl (by omega)).trans (by rw [ha])) (jd ((qB (zj (zj rfl rfl) (qB (jv rfl rfl (vp (by decide))) rfl (by omega))) rfl (by omega)).trans (by rw [hb])) rfl)) (Nat.le_trans (show 2 ≤ 20 by decide) hbig))).trans rfl)]
  refine (jC (env' := [.shr (.int m), .shr nm, .shr (.lst [.int a, .int b]), .shr l0]) ((qo (jw (ds := [.int m1, nm, .int 2, .lst [.int a, .int b]]) (jd (jw (jd rfl (jd rfl rfl)) rfl e1) (jd rfl (jd rfl (jd rfl rfl)))) rfl el)).trans rfl)).trans ?_
  rw [h6]
  exact zi (wM (ds := [l, r]) (jd rfl (jd (jw (ds := [.int m2, nm, .int 3, .lst ((bks l).map .int)]) (jd (jw (jd rfl (jd rfl rfl)) rfl e2) (jd rfl (jd rfl (jd (jw (jd rfl rfl) rfl hbl) rfl)))) rfl er) rfl)) (Nat.le_trans (show 2 ≤ 20 by decide) hbig))
theorem Qo : ∀ t, tk ns t = true → intL (pts t) = bks t := wS (fun i => by simp [pts, intL, bks]) fun z ts _ _ h => by
  have : ∀ us : List D, (∀ u ∈ us, intL (pts u) = bks u) → intL (ptss us) = bkss us := fun us => by
    induction us with
    | nil => intro _; simp [ptss, intL, bkss]
    | cons d r ih =>
      intro h
      rw [ptss, Qp, h d (by simp), ih fun u hu => h u (by simp [hu])]
      simp [bkss]
  rw [Jo, ← this ts fun u hu => (h u hu).2]
  simp [pts, intL]
theorem jaO (hn : ∀ z ∈ ns, isNm (.str z) = true) {t : D} (ht : tk ns t = true) (hb : ∀ x ∈ bks t, 0 ≤ x ∧ x ≤ 999) : (pts t).all isPc = true := by
  rw [List.all_eq_true]
  intro p hp
  have htk := WP t ht p hp
  rcases qm htk with ⟨i, rfl⟩ | ⟨z, ts, rfl, hz, hl, _⟩
  · have : i ∈ intL (pts t) := by
      obtain ⟨a, b, e⟩ := List.append_of_mem hp
      rw [e, Qp]; simp [intL]
    rw [Qo t ht] at this
    have := hb i this
    simp [isPc, this]
  · simp only [isPc, Bool.and_eq_true, decide_eq_true_eq]
    exact ⟨by omega, hn z hz⟩
theorem W9 (hn : ∀ z ∈ ns, isNm (.str z) = true) {t : D} (ht : tk ns t = true) (hh : hgt t ≤ 60) (hm : num t ≤ 1000) (hb : ∀ x ∈ bks t, 0 ≤ x ∧ x ≤ 999) : xf [t] = .ok (.bl true) := by
  rw [jbA (Jd t ht), jaO hn ht hb]
  have : isGr t = false := by simp only [isGr, decide_eq_false_iff_not]; omega
  rw [this]; rfl
theorem KC {a b : Int} {l : List Int} (h : ∀ x ∈ l, x = a ∨ x = b) (hn : l.Nodup) : l.length ≤ 2 := by
  match l, h, hn with
  | [], _, _ => simp
  | [_], _, _ => simp
  | [_, _], _, _ => simp
  | x :: y :: z :: r, h, hn =>
    have h1 := h x (by simp); have h2 := h y (by simp); have h3 := h z (by simp)
    simp only [List.nodup_cons, List.mem_cons, not_or] at hn
    omega
theorem Wj : ∀ (xs l : List Int), l.Nodup → (met l xs).Nodup
  | [], l, h => h
  | x :: xs, l, h => by
    rw [W4]
    refine Wj xs _ ?_
    unfold ins
    split
    · exact h
    · rename_i hx
      rw [List.nodup_append]
      exact ⟨h, by simp, fun a ha b hb => by simp at hb; subst hb; rintro rfl; exact hx ha⟩
theorem jbp (l : List Int) : (dd l).length ≤ l.length := by
  unfold dd
  exact PyProof.Rows.firstMet_length_le _ _
theorem UJ (hn : ∀ z ∈ ns, isNm (.str z) = true) {l r : D} (h : Ru ns l r) : xg [.tup [l, r]] = .ok (.bl true) := by
  obtain ⟨a, b, ha, hb, hab⟩ := h.few
  have hbl : ∀ x ∈ bks l, 0 ≤ x ∧ x ≤ 999 := fun x hx => by rcases hab x hx with e | e <;> omega
  have htl := W9 hn h.tl (by have := h.hl; omega) (by have := h.nl; omega) hbl
  have htr := W9 hn h.tr (by have := h.hr; omega) (by have := h.nr; omega) fun x hx => hbl x (h.sub x hx)
  obtain ⟨z, ts, hlt⟩ := h.lt
  have hit : isiD "tuple" l = .ok (.bl true) := by rw [hlt]; rfl
  have bl := VI h.tl (by have := h.hl; omega) (by have := h.nl; omega)
  have br := VI h.tr (by have := h.hr; omega) (by have := h.nr; omega)
  have i0 : two (rdS 0) (cI 0) ixD [.shr (.tup [l, r])] = .ok l := jv rfl rfl ix0
  have i1 : two (rdS 0) (cI 1) ixD [.shr (.tup [l, r])] = .ok r := jv rfl rfl (by show (match atI [l, r] ((1 : Nat) : Int) with | some d => Res.ok d | none => .stuck) = _; rw [M.atI_nat]; rfl)
  have mbl : ∀ x, x ∈ bkL l ↔ x ∈ bks l := fun x => by unfold bkL; rw [Wl, Qo l h.tl]; simp
  have mbr : ∀ x, x ∈ bkL r ↔ x ∈ bks r := fun x => by unfold bkL; rw [Wl, Qo r h.tr]; simp
  have lr : (bkL r).length ≤ 2 := KC (a := a) (b := b) (fun x hx => hab x (h.sub x ((mbr x).mp hx))) (Wj _ _ List.nodup_nil)
  have ll : (bkL l).length ≤ 2 := KC (a := a) (b := b) (fun x hx => hab x ((mbl x).mp hx)) (Wj _ _ List.nodup_nil)
  have hsb : scanBound = 4096 := rfl
  have hsub : subL (.lst ((bkL r).map .int)) (.lst ((bkL l).map .int)) = .ok (.int 0) := by
    unfold subL
    simp only [KU]
    refine jt ⟨by omega, by omega, fun i hi => (mbl i).mpr (h.sub i ((mbr i).mp hi)), ?_⟩
    have := jbp (bkL r)
    omega
  have ht3 : asB (isiF "tuple" (two (rdS 0) (cI 0) ixD)) [.shr (.tup [l, r])] = .ok true := jL (by rw [xB, i0]; exact hit)
  refine wv ?_
  show xP xf yF [.shr (.tup [l, r])] = _
  unfold xP
  rw [jC ((if_f (yS (qz (jL (b := true) rfl)) (jL (b := false) (jv (qT (jd rfl rfl) rfl) rfl Ky)))).trans rfl)]
  refine (jC ((if_f (yS (qz (jL (jw (jd i0 rfl) rfl htl))) (yS (qz (jL (jw (jd i1 rfl) rfl htr))) (qz ht3)))).trans rfl)).trans ?_
  exact zi (jv (jv (jw (jd i1 rfl) rfl br) (jw (jd i0 rfl) rfl bl) hsub) rfl Jg)
end
end G
namespace G
open PySem PySem.Spec L2 M
open Builtin.Int (intBits)
section
variable {ns : List Str}
def HdIn (ns : List Str) (l : List Hd) : Prop := l.Nodup ∧ ∀ x ∈ l, x.1 ∈ ns ∧ 0 ≤ x.2 ∧ x.2 ≤ 9
theorem UP {l : List Hd} {ds : List D} (h : HdIn ns l) (hd : ∀ d ∈ ds, tk ns d = true) : HdIn ns (hmet l (hdL ds)) :=
  ⟨K3 h.1, fun x hx => (Xd hx).elim (h.2 x) fun z => K6 hd x z⟩
theorem Zr (hl5 : ns.length = 5) (T : Slot) : ∀ (ts : List D) (l : List Hd) (s u : Slot), (∀ t ∈ ts, tk ns t = true ∧ hgt t ≤ 64 ∧ num t ≤ 1000) → HdIn ns l → ∃ l' s' u', HdIn ns l' ∧
    forD (qk (gN 2) (forO (itF (jo 1 (jK 64) (ja (rdS 2) nil1))) (gN 3) (ifO (asB (isiF "tuple" (rdS 3))) (Zw 1 (jo 1 qU (ja (rdS 3) nil1)) (cB true)) nxO))) ts [T, .own (.dit (l.map hdK) (htrs l)), s, u] = .ok (.nx [T, .own (.dit (l'.map hdK) (htrs l')), s', u'])
  | [], l, s, u, _, hl => ⟨l, s, u, hl, rfl⟩
  | t :: ts, l, s, u, h, hl => by
    obtain ⟨ht, hh, hn⟩ := h t (by simp)
    have hfew := Zq hl.1 hl.2
    have hlen := yO t
    have hp := QY 64 t (Jd t ht) hh hn
    obtain ⟨u1, hu⟩ := ye T (.shr t) (pts t) l u (WP t ht) (by omega)
    have hit : itF (jo 1 (jK 64) (ja (rdS 2) nil1)) [T, .own (.dit (l.map hdK) (htrs l)), .shr t, u] = .ok (pts t) := JL (jw (jd rfl rfl) rfl hp) rfl
    obtain ⟨l', s', u', h1, h2⟩ := Zr hl5 T ts (hmet l (hdL (pts t))) (.shr t) u1 (fun e he => h e (by simp [he])) (UP hl (WP t ht))
    refine ⟨l', s', u', h1, ?_⟩
    refine (qC (env' := [T, .own (.dit ((hmet l (hdL (pts t))).map hdK) (htrs (hmet l (hdL (pts t))))), .shr t, u1]) ?_).trans h2
    rw [qy (env' := [T, .own (.dit (l.map hdK) (htrs l)), .shr t, u]) rfl]
    exact (zT hit).trans hu
theorem jaT {z : Str} (h : isNm (.str z) = true) : z.length ≤ 8 := by
  rw [Qn] at h
  simp only [Bool.and_eq_true, decide_eq_true_eq] at h
  omega
theorem YB (hl5 : ns.length = 5) (hnm : ∀ z ∈ ns, isNm (.str z) = true) {ts : List D} (h : ∀ t ∈ ts, tk ns t = true ∧ hgt t ≤ 64 ∧ num t ≤ 1000) : ∃ hs, zc [.lst ts] = .ok (.lst hs) := by
  obtain ⟨l', s', u', hl, hf⟩ := Zr hl5 (.shr (.lst ts)) ts [] .un .un h ⟨List.nodup_nil, fun x hx => by cases hx⟩
  have hfew := Zq hl.1 hl.2
  refine ⟨(x4 l').map hdD, wv ?_⟩
  show wD (jK 64) qU [.shr (.lst ts), .un, .un, .un] = _
  unfold wD
  rw [jC (env' := [.shr (.lst ts), .own (.dit [] []), .un, .un]) rfl]
  refine (jC ((zT (ds := ts) rfl).trans hf)).trans ?_
  show retO (app (ja (rdS 1) nil1) yJ) [.shr (.lst ts), .shr (.dit (l'.map hdK) (htrs l')), s', u'] = _
  exact zi (qT (jd rfl rfl) (XW hl.1 (by omega) fun a ha => jG (Nat.le_trans (jaT (hnm _ (hl.2 a ha).1)) (by decide))))
def rl (p : D × D) : D := .tup [p.1, p.2]
def Rus (ns : List Str) (ps : List (D × D)) : Prop := ∀ p ∈ ps, Ru ns p.1 p.2
theorem Yz (hnm : ∀ z ∈ ns, isNm (.str z) = true) {ps : List (D × D)} (h : Rus ns ps) (hl : ps.length ≤ 40) : qD [.lst (ps.map rl)] = .ok (.bl true) := by
  have key : qQ false 1 [] (itF (rdS 0)) (gN 0) j8 (jo 1 xg (ja (rdS 0) nil1)) [.shr (.lst (ps.map rl))] = .ok (.lst ((ps.map rl).map fun _ => .bl true)) := by
    refine kE _ (fun d => ∃ p, d = rl p ∧ Ru ns p.1 p.2) (ds := ps.map rl) rfl (fun d hd => by obtain ⟨p, hp, rfl⟩ := List.mem_map.mp hd; exact ⟨p, rfl, h p hp⟩) (by rw [List.length_map]; exact jG (by omega)) ?_
    rintro d acc ⟨p, rfl, hp⟩
    exact jw (jd rfl rfl) rfl (UJ hnm hp)
  refine wv ?_
  show wC xg [.shr (.lst (ps.map rl))] = _
  unfold wC
  have hlen : asB (two (app (ja (rdS 0) nil1) lenD) (cI 40) gtI) [.shr (.lst (ps.map rl))] = .ok false := by
    refine jL (jv (qT (jd rfl rfl) rfl) rfl ?_)
    show Res.ok (D.bl (decide ((40 : Int) < ((ps.map rl).length : Int)))) = _
    rw [List.length_map, decide_eq_false (by omega)]
  refine (jC ((if_f (yS (qz (jL (b := true) rfl)) hlen)).trans rfl)).trans ?_
  exact zi (qT (jd key rfl) (XJ _))
theorem VB {fe : Sl → Res D} (φ : D × D → D) (P : D × D → Prop) (hfe : ∀ p acc, P p → fe [.shr p.1, .shr p.2, .own (.lst acc)] = .ok (φ p)) :
    ∀ (ps : List (D × D)) (acc : List D) (u v : Slot), (∀ p ∈ ps, P p) → acc.length + ps.length ≤ sizeLine → ∃ u' v', zq 2 (g2 (gN 0) (gN 1)) j8 fe (ps.map rl) [u, v, .own (.lst acc)] = .ok [u', v', .own (.lst (acc ++ ps.map φ))]
  | [], acc, u, v, _, _ => ⟨u, v, by simp [zq]⟩
  | p :: r, acc, u, v, hp, h => by
    simp only [List.length_cons] at h
    obtain ⟨u', v', e⟩ := VB φ P hfe r (acc ++ [φ p]) (.shr p.1) (.shr p.2) (fun x hx => hp x (by simp [hx])) (by simp only [List.length_append, List.length_cons, List.length_nil]; omega)
    refine ⟨u', v', ?_⟩
    have h1 : zq 2 (g2 (gN 0) (gN 1)) j8 fe ((p :: r).map rl) [u, v, .own (.lst acc)] = zq 2 (g2 (gN 0) (gN 1)) j8 fe (r.map rl) [.shr p.1, .shr p.2, .own (.lst (acc ++ [φ p]))] := by
      show (fe [.shr p.1, .shr p.2, .own (.lst acc)] >>= _) = _
      rw [hfe p acc (hp p (by simp))]
      exact jt (c := acc.length < sizeLine) (by omega)
    rw [h1, e]; simp
theorem QD {fe : Sl → Res D} {fi : Sl → Res (List D)} {env : Sl} {ps : List (D × D)} (φ : D × D → D) (P : D × D → Prop) (hfe : ∀ p acc, P p → fe [.shr p.1, .shr p.2, .own (.lst acc)] = .ok (φ p)) (hi : fi env = .ok (ps.map rl)) (hp : ∀ p ∈ ps, P p) (hl : ps.length ≤ sizeLine) :
    qQ false 2 [] fi (g2 (gN 0) (gN 1)) j8 fe env = .ok (.lst (ps.map φ)) := by
  obtain ⟨u, v, e⟩ := VB φ P hfe ps [] .un .un hp (by simpa using hl)
  show (fi env >>= _) = _
  rw [hi]
  show (zq 2 (g2 (gN 0) (gN 1)) j8 fe (ps.map rl) [.un, .un, .own (.lst [])] >>= _) = _
  rw [e]
  rw [List.nil_append]
  exact jt (c := (false = true → D.imms (ps.map φ) = true)) (fun z => by cases z)
def obj (ps : List (D × D)) (hs : List D) : D := .obj "Rules" ["listed", "named"] [.lst (ps.map rl), .lst hs]
theorem YY {g1 g2 : Sl → Res OutO} {env env' : Sl} (h : g1 env = .ok (.nx env')) : seqJ g1 g2 env = g2 env' := by
  show (g1 env >>= _) = _
  rw [h]; rfl
theorem jbV {t : Sl → Res Bool} {g1 g2 : Sl → Res OutO} {env : Sl} (h : t env = .ok false) : ifJ t g1 g2 env = g2 env := by
  show (t env >>= _) = _
  rw [h]; rfl
theorem WI {f : Sl → Res D} {env : Sl} {c n : Str} {i : Nat} {fs : List Str} {ds : List D} {d : D} (h : f env = .ok d) (hi : env[i]? = some (.own (.obj c fs ds))) (hl : fs.length < 1000) : VZ i c n f env = .ok (.nx (env.set i (.own (.obj c (Z1 n fs) (Z2 n d fs ds))))) := by
  have ho : ownJ i c env = .ok (fs, ds) := by
    unfold ownJ; rw [hi]; exact jt rfl
  show (f env >>= fun d => ownJ i c env >>= _) = _
  rw [h]
  show (ownJ i c env >>= _) = _
  rw [ho]
  exact jt hl
theorem jbU (hl5 : ns.length = 5) (hnm : ∀ z ∈ ns, isNm (.str z) = true) {ps : List (D × D)} (h : Rus ns ps) (hl : ps.length ≤ 40) : ∃ hs, jQ (.obj "Rules" [] []) [.lst (ps.map rl)] = .ok (.non, obj ps hs) := by
  have hz : ps.length ≤ sizeLine := jG (by omega)
  obtain ⟨hs, hh⟩ := YB (ns := ns) hl5 hnm (ts := ps.map (·.1) ++ ps.map (·.2)) (fun t ht => by
    rcases List.mem_append.mp ht with z | z
    · obtain ⟨p, hp, rfl⟩ := List.mem_map.mp z
      have r := h p hp
      exact ⟨r.tl, by have := r.hl; omega, by have := r.nl; omega⟩
    · obtain ⟨p, hp, rfl⟩ := List.mem_map.mp z
      have r := h p hp
      exact ⟨r.tr, by have := r.hr; omega, by have := r.nr; omega⟩)
  refine ⟨hs, ?_⟩
  have e0 : jP zc qD (xv 2 (.obj "Rules" [] []) [.lst (ps.map rl)]) = .ok (.nx [.own (obj ps hs), .shr (.lst (ps.map rl))]) := by
    show jP zc qD [.own (.obj "Rules" [] []), .shr (.lst (ps.map rl))] = _
    unfold jP
    have t1 : notB (asB (jo 1 qD (ja (rdS 1) nil1))) [.own (.obj "Rules" [] []), .shr (.lst (ps.map rl))] = .ok false := qz (jL (jw (jd rfl rfl) rfl (Yz hnm h hl)))
    refine (YY (jbV t1)).trans ?_
    refine (YY ((WI (d := .lst (ps.map rl)) (qT (jd rfl rfl) rfl) rfl (by decide)).trans rfl)).trans ?_
    have c1 := QD (fe := rdS 0) (fi := itF (rdS 1)) (env := [.own (.obj "Rules" ["listed"] [.lst (ps.map rl)]), .shr (.lst (ps.map rl))]) (ps := ps) (·.1) (fun _ => True) (fun p acc _ => rfl) rfl (fun _ _ => trivial) hz
    have c2 := QD (fe := rdS 1) (fi := itF (rdS 1)) (env := [.own (.obj "Rules" ["listed"] [.lst (ps.map rl)]), .shr (.lst (ps.map rl))]) (ps := ps) (·.2) (fun _ => True) (fun p acc _ => rfl) rfl (fun _ _ => trivial) hz
    refine (WI (d := .lst hs) (jw (ds := [.lst (ps.map (·.1) ++ ps.map (·.2))]) (jd (jv c1 c2 (Wz (by simp only [List.length_map]; exact jG (by omega)))) rfl) rfl hh) rfl (by decide)).trans ?_
    rfl
  refine (jt (c := [D.lst (ps.map rl)].length = 1) rfl).trans ?_
  show (jP zc qD (xv 2 (.obj "Rules" [] []) [.lst (ps.map rl)]) >>= _) = _
  rw [e0]; rfl
theorem jac (ps : List (D × D)) (hs : List D) : jM [obj ps hs] = .ok (.lst (ps.map rl)) := by
  refine wv ?_
  show zd [.shr (obj ps hs)] = _
  unfold zd
  exact zi (qT (jd (d := .lst (ps.map rl)) rfl rfl) rfl)
end
end G
namespace G
open PySem PySem.Spec L2 M
open Builtin.Int (intBits)
mutual
def prs : D → List (List Int × D)
  | .tup (x :: r) => ([], .tup (x :: r)) :: prss 0 r
  | d => [([], d)]
def prss (k : Nat) : List D → List (List Int × D)
  | [] => []
  | d :: r => (prs d).map (fun p => ((k : Int) :: p.1, p.2)) ++ prss (k + 1) r
end
def jW (p : List Int) : D := .tup (p.map .int)
theorem yP (x : D) (r : List D) : prs (.tup (x :: r)) = ([], .tup (x :: r)) :: prss 0 r := by simp [prs]
theorem J7 (i : Int) : prs (.int i) = [([], .int i)] := by simp [prs]
theorem wT (k : Nat) (d : D) (r : List D) : prss k (d :: r) = (prs d).map (fun p => ((k : Int) :: p.1, p.2)) ++ prss (k + 1) r := by simp [prss]
theorem yt (k : Nat) : prss k [] = [] := by simp [prss]
mutual
theorem ya : ∀ d : D, (prs d).length = num d
  | .tup (x :: r) => by rw [yP, List.length_cons, WT 0 r]; simp [num]; omega
  | .tup [] => by simp [prs, num]
  | .non => by simp [prs, num]
  | .bl _ => by simp [prs, num]
  | .int _ => by simp [prs, num]
  | .str _ => by simp [prs, num]
  | .lst _ => by simp [prs, num]
  | .scr _ => by simp [prs, num]
  | .dic _ _ => by simp [prs, num]
  | .dit _ _ => by simp [prs, num]
  | .exn _ => by simp [prs, num]
  | .fdc _ _ => by simp [prs, num]
  | .hdc _ _ => by simp [prs, num]
  | .obj _ _ _ => by simp [prs, num]
theorem WT : ∀ (k : Nat) (ds : List D), (prss k ds).length = nums ds
  | k, [] => by simp [prss, nums]
  | k, d :: r => by rw [wT, List.length_append, List.length_map, ya d, WT (k + 1) r]; simp [nums]
end
section
variable {ns : List Str}
theorem WS : ∀ {ds : List D} {k : Nat} {q : List Int × D}, q ∈ prss k ds → ∃ (j : Nat) (u : D) (p : List Int × D), ds[j]? = some u ∧ p ∈ prs u ∧ q = (((k + j : Nat) : Int) :: p.1, p.2)
  | [], k, q, h => by rw [yt] at h; cases h
  | d :: r, k, q, h => by
    rw [wT] at h
    rcases List.mem_append.mp h with h | h
    · obtain ⟨p, hp, rfl⟩ := List.mem_map.mp h
      exact ⟨0, d, p, rfl, hp, rfl⟩
    · obtain ⟨j, u, p, h1, h2, rfl⟩ := WS h
      exact ⟨j + 1, u, p, by simpa using h1, h2, by simp only [Prod.mk.injEq, List.cons.injEq, and_true]; omega⟩
theorem uk {ds : List D} {j : Nat} {u : D} (h : ds[j]? = some u) : u ∈ ds := List.mem_of_getElem? h
theorem yu : ∀ t, tk ns t = true → ∀ p ∈ prs t, p.1.length + 1 ≤ hgt t ∧ (∀ i ∈ p.1, 0 ≤ i) ∧ tk ns p.2 = true := wS (fun i p hp => by
    rw [J7] at hp
    simp only [List.mem_cons, List.not_mem_nil, or_false] at hp
    subst hp
    exact ⟨by simp [hgt], (fun _ h => by cases h), rfl⟩) fun z ts hz hl h p hp => by
  rw [yP] at hp
  rcases List.mem_cons.mp hp with rfl | hp
  · exact ⟨by rw [xA]; simp, (fun _ h => by cases h), VU hz hl fun t ht => (h t ht).1⟩
  · obtain ⟨j, u, q, h1, h2, rfl⟩ := WS hp
    have hu := uk h1
    obtain ⟨a1, a2, a3⟩ := (h u hu).2 q h2
    have := wB hu
    refine ⟨by rw [xA, List.length_cons]; omega, fun i hi => ?_, a3⟩
    rcases List.mem_cons.mp hi with rfl | hi
    · omega
    · exact a2 i hi
theorem ixT {l : List D} {k : Nat} {x : D} (h : l[k]? = some x) : ixD (.tup l) (.int (k : Int)) = .ok x := by
  simp only [ixD]
  rw [M.atI_nat, h]
theorem Qf : ∀ {ds : List D} {d : D}, d ∈ ds → num d ≤ nums ds
  | x :: r, d, h => by
    simp only [nums]
    rcases List.mem_cons.mp h with rfl | h
    · omega
    · have := Qf h; omega
theorem kL {a b : List D} (h : a.length + b.length ≤ sizeLine) : addE (.tup a) (.tup b) = .ok (.tup (a ++ b)) := by
  cases a with
  | nil => rfl
  | cons x r => exact VP rfl h
def ptD (p : List Int × D) : D := jW p.1
def kB (k : Int) : D → D
  | .tup xs => .tup (.int k :: xs)
  | d => d
def jaP (n : Nat) : Sl → Res Out := qh 1 (qQ false 1 [2] (itF (jo 1 (qO n) (ja (rdS 3) nil1))) (gN 0) j8 (two (tupF (ja (rdS 1) nil1)) (rdS 0) addD))
theorem Xi {i : Nat} {f : Sl → Res D} {env : Sl} {ds es : List D} (h1 : ownL i env = .ok ds) (h2 : f env = .ok (.lst es)) (h3 : ds.length + es.length ≤ sizeLine) : qh i f env = .ok (.nx (env.set i (.own (.lst (ds ++ es))))) := by
  unfold qh
  rw [h1, ze, h2, ze]
  exact jt h3
theorem JG {n : Nat} {t : Slot} : ∀ (r : List D) (k : Nat) (acc : List D) (u v : Slot), (∀ d ∈ r, qO n [d] = .ok (.lst ((prs d).map ptD)) ∧ ∀ p ∈ prs d, p.1.length ≤ 100) → acc.length + nums r ≤ 2000 →
    ∃ u' v', forD (qk (g2 (gN 2) (gN 3)) (jaP n)) (jz k r) [t, .own (.lst acc), u, v] = .ok (.nx [t, .own (.lst (acc ++ (prss k r).map ptD)), u', v'])
  | [], k, acc, u, v, _, _ => ⟨u, v, by rw [yt]; simp [jz, forD]⟩
  | d :: r, k, acc, u, v, ih, hl => by
    simp only [nums] at hl
    obtain ⟨h1, h2⟩ := ih d (by simp)
    have hlen := ya d
    have hc : qQ false 1 [2] (itF (jo 1 (qO n) (ja (rdS 3) nil1))) (gN 0) j8 (two (tupF (ja (rdS 1) nil1)) (rdS 0) addD) [t, .own (.lst acc), .shr (.int (k : Int)), .shr d] = .ok (.lst (((prs d).map ptD).map (kB k))) :=
      jb0 (c := .shr (.int (k : Int))) rfl (kB k) (fun d => ∃ p : List Int, d = jW p ∧ p.length ≤ 100) (JL (jw (jd rfl rfl) rfl h1) rfl) (fun e he => by
        obtain ⟨p, hp, rfl⟩ := List.mem_map.mp he
        exact ⟨p.1, rfl, h2 p hp⟩) (jG (by simp [hlen]; omega)) (fun e acc ⟨p, he, hp⟩ => by
        subst he
        exact jv (wM (jd rfl rfl) (jG (by simp))) rfl (VP rfl (jG (by simp; omega))))
    have hstep : qk (g2 (gN 2) (gN 3)) (jaP n) (.tup [.int (k : Int), d]) [t, .own (.lst acc), u, v] = .ok (.nx [t, .own (.lst (acc ++ ((prs d).map ptD).map (kB k))), .shr (.int (k : Int)), .shr d]) := by
      rw [qy (env' := [t, .own (.lst acc), .shr (.int (k : Int)), .shr d]) rfl]
      exact (Xi (ds := acc) rfl hc (jG (by simp [hlen]; omega))).trans rfl
    obtain ⟨u', v', hr⟩ := JG r (k + 1) (acc ++ ((prs d).map ptD).map (kB k)) (.shr (.int (k : Int))) (.shr d) (fun e he => ih e (by simp [he])) (by simp [hlen]; omega)
    refine ⟨u', v', ?_⟩
    show forD _ (.tup [.int (k : Int), d] :: jz (k + 1) r) _ = _
    rw [qC hstep, hr, wT]
    simp [List.map_map]
    exact fun a b _ => rfl
theorem kU : ∀ (n : Nat) (t : D), tk ns t = true → hgt t ≤ n → hgt t ≤ 100 → num t ≤ 1000 → qO n [t] = .ok (.lst ((prs t).map ptD))
  | 0, t, _, h, _, _ => by have := Qr t; omega
  | n + 1, t, ht, h1, h2, h3 => by
    refine wv ?_
    show Qv j3 (qO n) [.shr t, .un, .un, .un] = _
    unfold Qv
    have s1 : setO 1 (lstF (ja (tupF nil1) nil1)) [.shr t, .un, .un, .un] = .ok (.nx [.shr t, .own (.lst [jW []]), .un, .un]) := (J0 (xL (jd (wM rfl (jG (by simp))) rfl) (jG (by simp)))).trans rfl
    refine (jC s1).trans ?_
    have en : UY (jo 1 j3 (ja (rdS 0) nil1)) [.shr t, .own (.lst [jW []]), .un, .un] = .ok (jz 0 (kids t)) := by
      show (jo 1 _ _ _ >>= _) = _
      have hcl : jo 1 j3 (ja (rdS 0) nil1) [.shr t, .own (.lst [jW []]), .un, .un] = .ok (.tup (kids t)) := jw (ds := [t]) (jd rfl rfl) rfl (Z3 (yC (Jd t ht)))
      rw [hcl]; rfl
    have ih : ∀ u ∈ kids t, qO n [u] = .ok (.lst ((prs u).map ptD)) ∧ ∀ p ∈ prs u, p.1.length ≤ 100 := fun u hu => by
      have hku : tk ns u = true := by
        rcases qm ht with ⟨i, rfl⟩ | ⟨z, ts, rfl, hz, hl, hts⟩
        · cases hu
        · exact hts u hu
      have a1 := wB hu
      have a2 := Qf hu
      rw [Zp] at h1 h2
      rw [Zb] at h3
      exact ⟨kU n u hku (by omega) (by omega) (by omega), fun p hp => by have := (yu u hku p hp).1; omega⟩
    obtain ⟨u', v', hr⟩ := JG (t := .shr t) (kids t) 0 [jW []] .un .un ih (by rw [Zb] at h3; simp; omega)
    refine (jC ((zT en).trans hr)).trans ?_
    rcases qm ht with ⟨i, rfl⟩ | ⟨z, ts, rfl, hz, hl, hts⟩
    · rw [J7]; rfl
    · rw [yP]; rfl
def prB (b : List Int) (p : List Int × D) : D := .tup [jW (b ++ p.1), p.2]
def lpB (n : Nat) : Sl → Res Out := qh 2 (jo 2 (jU n) (ja (two (rdS 0) (two (cI 1) (rdS 3) addE) ixD) (ja (two (rdS 1) (tupF (ja (rdS 3) nil1)) addE) nil1)))
def LP (n : Nat) (t : D) : Prop := ∀ b : List Int, b.length + hgt t ≤ 100 → jU n [t, jW b] = .ok (.lst ((prs t).map (prB b)))
theorem KF {n : Nat} (z : Str) (ts : List D) (b : List Int) (hb : b.length + hgts ts ≤ 99) : ∀ (rest : List D) (j : Nat) (acc : List D) (u : Slot), ts.drop j = rest → (∀ c ∈ rest, LP n c) → acc.length + nums rest ≤ 2000 →
    ∃ u' : Slot, forD (qk (gN 3) (lpB n)) (wA (j : Int) rest.length) [.shr (.tup (.str z :: ts)), .shr (jW b), .own (.lst acc), u] = .ok (.nx [.shr (.tup (.str z :: ts)), .shr (jW b), .own (.lst (acc ++ (prss j rest).map (prB b))), u'])
  | [], j, acc, u, _, _, _ => ⟨u, by rw [yt]; simp [wA, forD]⟩
  | c :: rest, j, acc, u, hd, hc, hl => by
    simp only [nums] at hl ⊢
    have hj : ts[j]? = some c := by
      have : (ts.drop j)[0]? = some c := by rw [hd]; rfl
      rw [List.getElem?_drop] at this
      simpa using this
    have hcm : c ∈ ts := List.mem_of_getElem? hj
    have hch := wB hcm
    have h1 := hc c (by simp) (b ++ [(j : Int)]) (by simp only [List.length_append, List.length_cons, List.length_nil]; omega)
    have hlen := ya c
    have hd' : ts.drop (j + 1) = rest := by
      rw [← List.drop_drop, hd]; rfl
    obtain ⟨u', ih1⟩ := KF z ts b hb rest (j + 1) (acc ++ (prs c).map (prB (b ++ [(j : Int)]))) (.shr (.int (j : Int))) hd' (fun x hx => hc x (by simp [hx])) (by simp only [List.length_append, List.length_map]; omega)
    refine ⟨u', ?_⟩
    have hcall : jo 2 (jU n) (ja (two (rdS 0) (two (cI 1) (rdS 3) addE) ixD) (ja (two (rdS 1) (tupF (ja (rdS 3) nil1)) addE) nil1)) [.shr (.tup (.str z :: ts)), .shr (jW b), .own (.lst acc), .shr (.int (j : Int))] = .ok (.lst ((prs c).map (prB (b ++ [(j : Int)])))) := by
      refine jw (ds := [c, jW (b ++ [(j : Int)])]) (jd (jv rfl (jv (z := .int ((j + 1 : Nat) : Int)) rfl rfl ?_) (ixT (by simpa using hj))) (jd (jv rfl (wM (jd rfl rfl) (jG (by simp))) ?_) rfl)) rfl h1
      · show Res.ok (D.int (1 + (j : Int))) = _
        rw [Int.add_comm]; rfl
      · unfold jW
        rw [kL (by simp only [List.length_map, List.length_cons, List.length_nil]; exact jG (by omega)), List.map_append]; rfl
    have hs : qk (gN 3) (lpB n) (.int (j : Int)) [.shr (.tup (.str z :: ts)), .shr (jW b), .own (.lst acc), u] = .ok (.nx [.shr (.tup (.str z :: ts)), .shr (jW b), .own (.lst (acc ++ (prs c).map (prB (b ++ [(j : Int)])))), .shr (.int (j : Int))]) := by
      rw [qy (env' := [.shr (.tup (.str z :: ts)), .shr (jW b), .own (.lst acc), .shr (.int (j : Int))]) rfl]
      exact (Xi (ds := acc) rfl hcall (by simp only [List.length_map]; exact jG (by omega))).trans rfl
    rw [List.length_cons, Yk, qC hs]
    have e : ((j : Int) + 1) = ((j + 1 : Nat) : Int) := by omega
    rw [e, ih1, wT, List.map_append, List.append_assoc]
    have e2 : (prs c).map (prB (b ++ [(j : Int)])) = ((prs c).map fun p => ((j : Int) :: p.1, p.2)).map (prB b) := by
      rw [List.map_map]
      refine List.map_congr_left fun p _ => ?_
      simp [prB]
    rw [e2]
theorem KD : ∀ (n : Nat) (t : D), tk ns t = true → hgt t ≤ n → num t ≤ 1000 → LP n t
  | 0, t, _, h, _ => by have := Qr t; omega
  | n + 1, t, ht, hh, hn => by
    intro b hb
    have hbl : b.length ≤ 100 := by omega
    have e0 : prB b ([], t) = .tup [jW b, t] := by simp [prB]
    have hw : notB (asB (jo 1 jr (ja (rdS 0) nil1))) [.shr t, .shr (jW b), .own (.lst [.tup [jW b, t]]), .un] = .ok (!isN t) := qz (jL (jw (jd rfl rfl) rfl (YI ht)))
    have s1 : setO 2 (lstF (ja (tupF (ja (rdS 1) (ja (rdS 0) nil1))) nil1)) [.shr t, .shr (jW b), .un, .un] = .ok (.nx [.shr t, .shr (jW b), .own (.lst [.tup [jW b, t]]), .un]) := (J0 (xL (jd (wM (jd rfl (jd rfl rfl)) (jG (by simp))) rfl) (jG (by simp)))).trans rfl
    refine wv ?_
    show zP jr (jU n) [.shr t, .shr (jW b), .un, .un] = _
    unfold zP
    refine (jC s1).trans ?_
    rcases qm ht with ⟨i, rfl⟩ | ⟨z, ts, rfl, hz, hl, hts⟩
    · refine (jC ((if_f hw).trans rfl)).trans ?_
      rw [J7, List.map_cons, e0]; rfl
    · rw [xA] at hh hb
      rw [yV] at hn
      obtain ⟨u', h1⟩ := KF (n := n) z ts b (by omega) ts 0 [.tup [jW b, .tup (.str z :: ts)]] .un (by simp) (fun c hc => KD n c (hts c hc) (by have := wB hc; omega) (by have := Qf hc; omega)) (by simp only [List.length_cons, List.length_nil]; omega)
      have hr : rngF (ja (two (app (ja (rdS 0) nil1) lenD) (cI 1) subI) nil1) [.shr (.tup (.str z :: ts)), .shr (jW b), .own (.lst [.tup [jW b, .tup (.str z :: ts)]]), .un] = .ok (wA 0 ts.length) := by
        have hfa : ja (two (app (ja (rdS 0) nil1) lenD) (cI 1) subI) nil1 [.shr (.tup (.str z :: ts)), .shr (jW b), .own (.lst [.tup [jW b, .tup (.str z :: ts)]]), .un] = .ok [.int (((ts.length + 1 : Nat) : Int) - 1)] := jd (jv (qT (jd rfl rfl) rfl) rfl rfl) rfl
        rw [J3 hfa (by omega)]
        rw [show (((ts.length + 1 : Nat) : Int) - 1).toNat = ts.length by omega]
      have h1' : forO (rngF (ja (two (app (ja (rdS 0) nil1) lenD) (cI 1) subI) nil1)) (gN 3) (lpB n) [.shr (.tup (.str z :: ts)), .shr (jW b), .own (.lst [.tup [jW b, .tup (.str z :: ts)]]), .un] = _ := (zT hr).trans h1
      refine (jC ((if_t hw).trans h1')).trans ?_
      rw [yP, List.map_cons, e0]; rfl
theorem vR : ∀ t, tk ns t = true → (prs t).map (·.2) = pts t := wS (fun i => by rw [J7]; simp [pts]) fun z ts _ _ h => by
  have : ∀ (us : List D) (k : Nat), (∀ u ∈ us, (prs u).map (·.2) = pts u) → (prss k us).map (·.2) = ptss us := fun us => by
    induction us with
    | nil => intro k _; rw [yt]; simp [ptss]
    | cons d r ih =>
      intro k h
      rw [wT, List.map_append, List.map_map, ih (k + 1) fun u hu => h u (by simp [hu]), ptss, ← h d (by simp)]
      rfl
  rw [yP, List.map_cons, this ts 0 fun u hu => (h u hu).2]
  simp [pts]
end
end G
namespace G
open PySem PySem.Spec L2 M
open Builtin.Int (intBits)
section
variable {ns : List Str}
theorem jb2 {t1 t2 : Sl → Res Bool} {env : Sl} (h : t1 env = .ok false) : andB t1 t2 env = .ok false := by rw [Vj, h]; rfl
theorem UC {l : List Hd} {a x : Hd} : x ∈ hins l a ↔ x ∈ l ∨ x = a := by
  unfold hins
  by_cases h : a ∈ l
  · rw [if_pos h]
    exact ⟨.inl, fun z => z.elim id fun e => by rw [e]; exact h⟩
  · rw [if_neg h]; simp
theorem Qj : ∀ {xs l : List Hd} {x : Hd}, x ∈ hmet l xs ↔ x ∈ l ∨ x ∈ xs
  | [], l, x => by simp [hmet]
  | a :: xs, l, x => by
    show x ∈ hmet (hins l a) xs ↔ _
    rw [Qj, UC]; simp only [List.mem_cons]; constructor
    · rintro ((h | h) | h)
      · exact .inl h
      · exact .inr (.inl h)
      · exact .inr (.inr h)
    · rintro (h | h | h)
      · exact .inl (.inl h)
      · exact .inl (.inr h)
      · exact .inr h
def yf : D → Hd
  | .tup (.str z :: ts) => (z, (ts.length : Int))
  | _ => ("", 0)
def inH (l : List Hd) : D → Bool
  | .tup (.str z :: ts) => decide ((z, (ts.length : Int)) ∈ l)
  | _ => false
def ent (k : Nat) (q : List Int × D) : D := .tup [.int (k : Int), jW q.1]
def calI (l : List Hd) (k : Nat) (r : D) : List D := ((prs r).filter fun q => inH l q.2).map (ent k)
def calF (l : List Hd) : Nat → List (D × D) → List D
  | _, [] => []
  | k, p :: r => calI l k p.2 ++ calF l (k + 1) r
theorem XD (l : List Hd) (k : Nat) (r : D) : (calI l k r).length ≤ num r := by
  unfold calI
  rw [List.length_map, ← ya r]
  exact List.length_filter_le _ _
theorem Vb (l : List Hd) : ∀ xs : List Hd, (xs.map fun h => (hdK h, D.bl true)).foldl Jt (l.map hdK, htrs l) = ((hmet l xs).map hdK, htrs (hmet l xs))
  | [] => rfl
  | x :: xs => by
    rw [List.map_cons, List.foldl_cons]
    have e : Jt (l.map hdK, htrs l) (hdK x, .bl true) = ((hins l x).map hdK, htrs (hins l x)) := by
      unfold Jt
      obtain ⟨p1, p2⟩ := Y6 l x
      exact Prod.ext p1 p2
    rw [e]
    exact Vb (hins l x) xs
theorem Kc : ∀ xs : List Hd, prsD (xs.map fun h => D.tup [hdD h, .bl true]) = some (xs.map fun h => (hdK h, D.bl true))
  | [] => rfl
  | x :: xs => by
    rw [List.map_cons, List.map_cons]
    show (match keyT (hdD x), prsD (xs.map fun h => D.tup [hdD h, .bl true]) with | some k, some q => some ((k, D.bl true) :: q) | _, _ => none) = _
    rw [Kc xs]; rfl
theorem kn (xs : List Hd) : Zx [.lst (xs.map fun h => D.tup [hdD h, .bl true])] = .ok (.dit ((hmet [] xs).map hdK) (htrs (hmet [] xs))) := by
  show (match prsD (xs.map fun h => D.tup [hdD h, .bl true]) with | some ps => Res.ok (D.dit (ps.foldl Jt ([], [])).1 (ps.foldl Jt ([], [])).2) | none => .stuck) = _
  rw [Kc]
  show Res.ok (D.dit _ _) = _
  have := Vb [] xs
  rw [show (([] : List Hd).map hdK, htrs []) = (([] : List (List Key)), ([] : List D)) from rfl] at this
  rw [this]
theorem vi (l : List Hd) (h : Hd) (vs : List D) : inT (hdD h) (.dit (l.map hdK) vs) = .ok (.bl (decide (h ∈ l))) := by
  show (match keyT (hdD h) with | some k => Res.ok (D.bl (hasT (l.map hdK) k)) | none => .stuck) = _
  show Res.ok (D.bl (hasT (l.map hdK) (hdK h))) = _
  rw [K8]
def kJ : Sl → Res Out := ifO (asB (two (jo 1 qU (ja (rdS 7) nil1)) (rdS 2) inT)) (wI 3 (tupF (ja (rdS 4) (ja (rdS 6) nil1)))) nxO
theorem UO (i : Int) : qU [.int i] = .ok .non := rfl
theorem XC {l : List Hd} {vs : List D} {o li r5 : Slot} {k : Nat} : ∀ (L : List (List Int × D)) (acc : List D) (u v : Slot), (∀ q ∈ L, tk ns q.2 = true) → acc.length + L.length ≤ 10000 →
    ∃ u' v', forD (qk (g2 (gN 6) (gN 7)) kJ) (L.map fun q => D.tup [jW q.1, q.2]) [o, li, .shr (.dit (l.map hdK) vs), .own (.lst acc), .shr (.int (k : Int)), r5, u, v] =
      .ok (.nx [o, li, .shr (.dit (l.map hdK) vs), .own (.lst (acc ++ (L.filter fun q => inH l q.2).map (ent k))), .shr (.int (k : Int)), r5, u', v'])
  | [], acc, u, v, _, _ => ⟨u, v, by simp [forD]⟩
  | q :: L, acc, u, v, h, hl => by
    simp only [List.length_cons] at hl
    have hq := h q (by simp)
    have htest : asB (two (jo 1 qU (ja (rdS 7) nil1)) (rdS 2) inT) [o, li, .shr (.dit (l.map hdK) vs), .own (.lst acc), .shr (.int (k : Int)), r5, .shr (jW q.1), .shr q.2] = .ok (inH l q.2) := by
      rcases qm hq with ⟨i, e⟩ | ⟨z, ts, e, _⟩
      · rw [e]
        exact jL (jv (jw (ds := [.int i]) (jd rfl rfl) rfl (UO i)) rfl rfl)
      · rw [e]
        exact jL (jv (jw (ds := [.tup (.str z :: ts)]) (jd rfl rfl) rfl (Qs z ts)) rfl (vi l _ vs))
    have hstep : qk (g2 (gN 6) (gN 7)) kJ (.tup [jW q.1, q.2]) [o, li, .shr (.dit (l.map hdK) vs), .own (.lst acc), .shr (.int (k : Int)), r5, u, v] = .ok (.nx [o, li, .shr (.dit (l.map hdK) vs), .own (.lst (acc ++ (if inH l q.2 = true then [ent k q] else []))), .shr (.int (k : Int)), r5, .shr (jW q.1), .shr q.2]) := by
      rw [qy (env' := [o, li, .shr (.dit (l.map hdK) vs), .own (.lst acc), .shr (.int (k : Int)), r5, .shr (jW q.1), .shr q.2]) rfl]
      unfold kJ
      cases hb : inH l q.2 with
      | true =>
        rw [hb] at htest
        rw [if_t htest]
        exact (Jq (ds := acc) (d := ent k q) rfl (wM (jd rfl (jd rfl rfl)) (jG (by simp))) (Nat.lt_of_lt_of_le (show acc.length < 20000 by omega) big1)).trans rfl
      | false =>
        rw [hb] at htest
        rw [if_f htest]
        simp [nxO]
    obtain ⟨u', v', hr⟩ := XC L (acc ++ (if inH l q.2 = true then [ent k q] else [])) (.shr (jW q.1)) (.shr q.2) (fun x hx => h x (by simp [hx])) (by split <;> simp <;> omega)
    refine ⟨u', v', ?_⟩
    rw [List.map_cons, qC hstep, hr]
    cases hb : inH l q.2 <;> simp [List.filter_cons, hb]
theorem Q0 {α : Type} (f g : α → D) : ∀ L : List α, zO (L.map f) (L.map g) = L.map fun x => .tup [f x, g x]
  | [] => rfl
  | x :: L => by simp [zO, Q0 f g L]
def jbs : Sl → Res Out := forO (YH (jo 1 (qO 64) (ja (two (rdS 5) (cI 1) ixD) nil1)) (jo 1 (jK 64) (ja (two (rdS 5) (cI 1) ixD) nil1))) (g2 (gN 6) (gN 7)) kJ
theorem ZD {l : List Hd} {vs : List D} {o li : Slot} : ∀ (ps : List (D × D)) (k : Nat) (acc : List D) (s4 s5 s6 s7 : Slot), Rus ns ps → acc.length + 40 * ps.length ≤ 5000 →
    ∃ s4' s5' s6' s7', forD (qk (g2 (gN 4) (gN 5)) jbs) (jz k (ps.map rl)) [o, li, .shr (.dit (l.map hdK) vs), .own (.lst acc), s4, s5, s6, s7] =
      .ok (.nx [o, li, .shr (.dit (l.map hdK) vs), .own (.lst (acc ++ calF l k ps)), s4', s5', s6', s7'])
  | [], k, acc, s4, s5, s6, s7, _, _ => ⟨s4, s5, s6, s7, by simp [jz, forD, calF]⟩
  | p :: ps, k, acc, s4, s5, s6, s7, h, hl => by
    simp only [List.length_cons] at hl
    have hp := h p (by simp)
    have hlen := ya p.2
    have hnr := hp.nr
    have hhr := hp.hr
    obtain ⟨u', v', hin⟩ := XC (ns := ns) (l := l) (vs := vs) (o := o) (li := li) (r5 := .shr (rl p)) (k := k) (prs p.2) acc s6 s7 (fun q hq => (yu p.2 hp.tr q hq).2.2) (by omega)
    have ix : two (rdS 5) (cI 1) ixD [o, li, .shr (.dit (l.map hdK) vs), .own (.lst acc), .shr (.int (k : Int)), .shr (rl p), s6, s7] = .ok p.2 := jv rfl rfl (ixT (l := [p.1, p.2]) (k := 1) rfl)
    have hz : YH (jo 1 (qO 64) (ja (two (rdS 5) (cI 1) ixD) nil1)) (jo 1 (jK 64) (ja (two (rdS 5) (cI 1) ixD) nil1)) [o, li, .shr (.dit (l.map hdK) vs), .own (.lst acc), .shr (.int (k : Int)), .shr (rl p), s6, s7] = .ok ((prs p.2).map fun q => D.tup [jW q.1, q.2]) := by
      have a1 : jo 1 (qO 64) (ja (two (rdS 5) (cI 1) ixD) nil1) [o, li, .shr (.dit (l.map hdK) vs), .own (.lst acc), .shr (.int (k : Int)), .shr (rl p), s6, s7] = .ok (.lst ((prs p.2).map ptD)) := jw (jd ix rfl) rfl (kU 64 p.2 hp.tr (by omega) (by omega) (by omega))
      have a2 : jo 1 (jK 64) (ja (two (rdS 5) (cI 1) ixD) nil1) [o, li, .shr (.dit (l.map hdK) vs), .own (.lst acc), .shr (.int (k : Int)), .shr (rl p), s6, s7] = .ok (.lst (pts p.2)) := jw (jd ix rfl) rfl (QY 64 p.2 (Jd _ hp.tr) (by omega) (by omega))
      show (jo 1 (qO 64) _ _ >>= fun d => jo 1 (jK 64) _ _ >>= _) = _
      rw [a1]
      show (jo 1 (jK 64) _ _ >>= _) = _
      rw [a2, ← vR p.2 hp.tr]
      show Res.ok (zO ((prs p.2).map ptD) ((prs p.2).map (·.2))) = _
      rw [Q0]; rfl
    have hstep : qk (g2 (gN 4) (gN 5)) jbs (.tup [.int (k : Int), rl p]) [o, li, .shr (.dit (l.map hdK) vs), .own (.lst acc), s4, s5, s6, s7] = .ok (.nx [o, li, .shr (.dit (l.map hdK) vs), .own (.lst (acc ++ calI l k p.2)), .shr (.int (k : Int)), .shr (rl p), u', v']) := by
      rw [qy (env' := [o, li, .shr (.dit (l.map hdK) vs), .own (.lst acc), .shr (.int (k : Int)), .shr (rl p), s6, s7]) rfl]
      exact (zT hz).trans hin
    have hcl := XD l k p.2
    obtain ⟨a4, a5, a6, a7, hr⟩ := ZD ps (k + 1) (acc ++ calI l k p.2) (.shr (.int (k : Int))) (.shr (rl p)) u' v' (fun x hx => h x (by simp [hx])) (by simp only [List.length_append]; omega)
    refine ⟨a4, a5, a6, a7, ?_⟩
    show forD _ (.tup [.int (k : Int), rl p] :: jz (k + 1) (ps.map rl)) _ = _
    rw [qC hstep, hr]
    simp [calF]
theorem W3 {c m : Str} {n : Nat} {F : List D → Res D} {fo : Sl → Res D} {g : Sl → Res (List D)} {env : Sl} {fs : List Str} {vs ds : List D} {d : D} (h1 : fo env = .ok (.obj c fs vs)) (h2 : fs.contains m = false) (h3 : g env = .ok ds) (h4 : ds.length + 1 = n) (h5 : F (.obj c fs vs :: ds) = .ok d) : Qi c m n F fo g env = .ok d := by
  unfold Qi
  rw [h1]
  refine (jt (c := c = c ∧ fs.contains m = false) ⟨rfl, h2⟩).trans ?_
  rw [h3]
  exact (jt (c := ds.length + 1 = n) h4).trans h5
def hdsP (ps : List (D × D)) : List Hd := ps.map fun p => yf p.1
theorem uy {l r : D} (h : Ru ns l r) : qU [l] = .ok (hdD (yf l)) := by
  obtain ⟨z, ts, rfl⟩ := h.lt
  exact Qs z ts
theorem jbr {ps : List (D × D)} {hs : List D} (h : Rus ns ps) (hl : ps.length ≤ 40) : xi [obj ps hs] = .ok (.lst (calF (hmet [] (hdsP ps)) 0 ps)) := by
  refine wv ?_
  show Qw jM (qO 64) (jK 64) qU [.shr (obj ps hs), .un, .un, .un, .un, .un, .un, .un] = _
  unfold Qw
  have hm : Qi "Rules" "told" 1 jM (rdS 0) noA [.shr (obj ps hs), .un, .un, .un, .un, .un, .un, .un] = .ok (.lst (ps.map rl)) := by
    exact W3 rfl (by decide) rfl rfl (jac ps hs)
  refine (jC ((qo hm).trans rfl)).trans ?_
  have hc := QD (fe := tupF (ja (jo 1 qU (ja (rdS 0) nil1)) (ja (cB true) nil1))) (fi := itF (rdS 1)) (env := [.shr (obj ps hs), .shr (.lst (ps.map rl)), .un, .un, .un, .un, .un, .un]) (ps := ps) (fun p => D.tup [hdD (yf p.1), .bl true]) (fun p => Ru ns p.1 p.2) (fun p acc hp => wM (jd (jw (jd rfl rfl) rfl (uy hp)) (jd rfl rfl)) (jG (by simp))) rfl h (jG (by omega))
  have hd : app (ja (qQ false 2 [] (itF (rdS 1)) (g2 (gN 0) (gN 1)) j8 (tupF (ja (jo 1 qU (ja (rdS 0) nil1)) (ja (cB true) nil1)))) nil1) Zx [.shr (obj ps hs), .shr (.lst (ps.map rl)), .un, .un, .un, .un, .un, .un] = .ok (.dit ((hmet [] (hdsP ps)).map hdK) (htrs (hmet [] (hdsP ps)))) := by
    refine qT (jd hc rfl) ?_
    have := kn (hdsP ps)
    unfold hdsP at this ⊢
    rw [List.map_map] at this
    exact this
  refine (jC ((qo hd).trans rfl)).trans ?_
  refine (jC (env' := [.shr (obj ps hs), .shr (.lst (ps.map rl)), .shr (.dit ((hmet [] (hdsP ps)).map hdK) (htrs (hmet [] (hdsP ps)))), .own (.lst []), .un, .un, .un, .un]) rfl).trans ?_
  obtain ⟨a4, a5, a6, a7, hr⟩ := ZD (ns := ns) (l := hmet [] (hdsP ps)) (vs := htrs (hmet [] (hdsP ps))) (o := .shr (obj ps hs)) (li := .shr (.lst (ps.map rl))) ps 0 [] .un .un .un .un h (by simp only [List.length_nil]; omega)
  refine (jC ((zT (ds := jz 0 (ps.map rl)) rfl).trans hr)).trans ?_
  rw [List.nil_append]; rfl
end
end G
namespace G
open PySem PySem.Spec L2 M
open Builtin.Int (intBits)
section
variable {ns : List Str}
def up1 (h : Hd) : Hd := (h.1, h.2 + 1)
def hds2 (ps : List (D × D)) : List Hd := ps.map fun p => up1 (yf p.1)
theorem vB {a b : Hd} (h : up1 a = up1 b) : a = b := by
  unfold up1 at h
  simp only [Prod.mk.injEq] at h
  exact Prod.ext h.1 (by omega)
theorem jaY (ps : List (D × D)) (h : Hd) : up1 h ∈ hmet [] (hds2 ps) ↔ h ∈ hmet [] (hdsP ps) := by
  rw [Qj, Qj]
  unfold hds2 hdsP
  simp only [List.not_mem_nil, false_or, List.mem_map]
  constructor
  · rintro ⟨p, hp, e⟩; exact ⟨p, hp, vB e⟩
  · rintro ⟨p, hp, e⟩; exact ⟨p, hp, by rw [e]⟩
def jaZ : Sl → Res Out := Zw 1 (tupF (ja (two (rdS 3) (cI 0) ixD) (ja (app (ja (rdS 3) nil1) lenD) nil1))) (cB true)
theorem KM {env : Sl} {f : Sl → Res D} {z : Str} {ts : List D} (h : f env = .ok (.tup (.str z :: ts))) : tupF (ja (two f (cI 0) ixD) (ja (app (ja f nil1) lenD) nil1)) env = .ok (hdD (up1 (z, (ts.length : Int)))) :=
  wM (ds := [.str z, .int ((ts.length : Int) + 1)]) (jd (jv h rfl ix0) (jd (qT (jd h rfl) (by simp [lenD])) rfl)) (jG (by simp))
theorem Zf {S s2 s5 s6 s7 s8 : Slot} : ∀ (ps : List (D × D)) (l : List Hd) (u v : Slot), Rus ns ps → l.length + ps.length ≤ 5000 →
    ∃ u' v', forD (qk (g2 (gN 3) (gN 4)) jaZ) (ps.map rl) [S, .own (.dit (l.map hdK) (htrs l)), s2, u, v, s5, s6, s7, s8] = .ok (.nx [S, .own (.dit ((hmet l (hds2 ps)).map hdK) (htrs (hmet l (hds2 ps)))), s2, u', v', s5, s6, s7, s8])
  | [], l, u, v, _, _ => ⟨u, v, rfl⟩
  | p :: ps, l, u, v, h, hl => by
    simp only [List.length_cons] at hl
    obtain ⟨z, ts, hz⟩ := (h p (by simp)).lt
    have hh : up1 (yf p.1) = up1 (z, (ts.length : Int)) := by rw [hz]; rfl
    obtain ⟨p1, p2⟩ := Y6 l (up1 (yf p.1))
    have hk : (l.map hdK).length < sizeLine := by rw [List.length_map]; exact Nat.lt_of_lt_of_le (show l.length < 20000 by omega) big1
    have hstep : qk (g2 (gN 3) (gN 4)) jaZ (rl p) [S, .own (.dit (l.map hdK) (htrs l)), s2, u, v, s5, s6, s7, s8] = .ok (.nx [S, .own (.dit ((hins l (up1 (yf p.1))).map hdK) (htrs (hins l (up1 (yf p.1))))), s2, .shr p.1, .shr p.2, s5, s6, s7, s8]) := by
      rw [qy (env' := [S, .own (.dit (l.map hdK) (htrs l)), s2, .shr p.1, .shr p.2, s5, s6, s7, s8]) rfl]
      have hc : tupF (ja (two (rdS 3) (cI 0) ixD) (ja (app (ja (rdS 3) nil1) lenD) nil1)) [S, .own (.dit (l.map hdK) (htrs l)), s2, .shr p.1, .shr p.2, s5, s6, s7, s8] = .ok (hdD (up1 (yf p.1))) := by
        rw [hh]; exact KM (by rw [← hz]; rfl)
      show (tupF _ _ >>= _) = _
      rw [hc]
      show must ((l.map hdK).length < sizeLine) (Res.ok (Out.nx [S, .own (.dit (J4 (l.map hdK) (hdK (up1 (yf p.1)))) (J5 (l.map hdK) (htrs l) (hdK (up1 (yf p.1))) (.bl true))), s2, .shr p.1, .shr p.2, s5, s6, s7, s8])) = _
      rw [jt hk, p1, p2]
    have := Xf l (up1 (yf p.1))
    obtain ⟨u', v', hr⟩ := Zf (S := S) (s2 := s2) (s5 := s5) (s6 := s6) (s7 := s7) (s8 := s8) ps (hins l (up1 (yf p.1))) (.shr p.1) (.shr p.2) (fun x hx => h x (by simp [hx])) (by omega)
    exact ⟨u', v', by rw [List.map_cons, qC hstep, hr]; rfl⟩
def dueB : Sl → Res Out := ifO (andB (notB (asB (jo 1 jr (ja (rdS 8) nil1)))) (asB (two (tupF (ja (two (rdS 8) (cI 0) ixD) (ja (app (ja (rdS 8) nil1) lenD) nil1))) (rdB 1) inT))) (wI 2 (tupF (ja (rdS 5) (ja (rdS 7) nil1)))) nxO
theorem vm {l l2 : List Hd} {vs : List D} (hll : ∀ h, up1 h ∈ l2 ↔ h ∈ l) {S s3 s4 s6 : Slot} {k : Nat} : ∀ (L : List (List Int × D)) (acc : List D) (u v : Slot), (∀ q ∈ L, tk ns q.2 = true) → acc.length + L.length ≤ 10000 →
    ∃ u' v', forD (qk (g2 (gN 7) (gN 8)) dueB) (L.map (prB [])) [S, .own (.dit (l2.map hdK) vs), .own (.lst acc), s3, s4, .shr (.int (k : Int)), s6, u, v] =
      .ok (.nx [S, .own (.dit (l2.map hdK) vs), .own (.lst (acc ++ (L.filter fun q => inH l q.2).map (ent k))), s3, s4, .shr (.int (k : Int)), s6, u', v'])
  | [], acc, u, v, _, _ => ⟨u, v, by simp [forD]⟩
  | q :: L, acc, u, v, h, hl => by
    simp only [List.length_cons] at hl
    have hq := h q (by simp)
    have htest : andB (notB (asB (jo 1 jr (ja (rdS 8) nil1)))) (asB (two (tupF (ja (two (rdS 8) (cI 0) ixD) (ja (app (ja (rdS 8) nil1) lenD) nil1))) (rdB 1) inT)) [S, .own (.dit (l2.map hdK) vs), .own (.lst acc), s3, s4, .shr (.int (k : Int)), s6, .shr (jW q.1), .shr q.2] = .ok (inH l q.2) := by
      rcases qm hq with ⟨i, e⟩ | ⟨z, ts, e, _⟩
      · rw [e]
        exact jb2 (qz (jL (jw (ds := [.int i]) (jd rfl rfl) rfl (yH i))))
      · rw [e]
        refine (XI (b := true) (qz (jL (b := false) (jw (ds := [.tup (.str z :: ts)]) (jd rfl rfl) rfl rfl))) (jL (jv (KM (z := z) (ts := ts) rfl) rfl (vi l2 _ vs)))).trans ?_
        rw [Bool.true_and]
        have : decide (up1 (z, (ts.length : Int)) ∈ l2) = decide ((z, (ts.length : Int)) ∈ l) := by rw [decide_eq_decide]; exact hll _
        rw [this]; rfl
    have hstep : qk (g2 (gN 7) (gN 8)) dueB (prB [] q) [S, .own (.dit (l2.map hdK) vs), .own (.lst acc), s3, s4, .shr (.int (k : Int)), s6, u, v] = .ok (.nx [S, .own (.dit (l2.map hdK) vs), .own (.lst (acc ++ (if inH l q.2 = true then [ent k q] else []))), s3, s4, .shr (.int (k : Int)), s6, .shr (jW q.1), .shr q.2]) := by
      rw [qy (env' := [S, .own (.dit (l2.map hdK) vs), .own (.lst acc), s3, s4, .shr (.int (k : Int)), s6, .shr (jW q.1), .shr q.2]) rfl]
      unfold dueB
      cases hb : inH l q.2 with
      | true =>
        rw [hb] at htest
        rw [if_t htest]
        exact (Jq (ds := acc) (d := ent k q) rfl (wM (jd rfl (jd rfl rfl)) (jG (by simp))) (Nat.lt_of_lt_of_le (show acc.length < 20000 by omega) big1)).trans rfl
      | false =>
        rw [hb] at htest
        rw [if_f htest]
        simp [nxO]
    obtain ⟨u', v', hr⟩ := vm hll L (acc ++ (if inH l q.2 = true then [ent k q] else [])) (.shr (jW q.1)) (.shr q.2) (fun x hx => h x (by simp [hx])) (by split <;> simp <;> omega)
    refine ⟨u', v', ?_⟩
    rw [List.map_cons, qC hstep, hr]
    cases hb : inH l q.2 <;> simp [List.filter_cons, hb]
def dueO : Sl → Res Out := forO (itF (jo 2 (jU 64) (ja (two (rdS 6) (cI 1) ixD) (ja (tupF nil1) nil1)))) (g2 (gN 7) (gN 8)) dueB
theorem Vp {l l2 : List Hd} {vs : List D} (hll : ∀ h, up1 h ∈ l2 ↔ h ∈ l) {S s3 s4 : Slot} : ∀ (ps : List (D × D)) (k : Nat) (acc : List D) (s5 s6 s7 s8 : Slot), Rus ns ps → acc.length + 40 * ps.length ≤ 5000 →
    ∃ s5' s6' s7' s8', forD (qk (g2 (gN 5) (gN 6)) dueO) (jz k (ps.map rl)) [S, .own (.dit (l2.map hdK) vs), .own (.lst acc), s3, s4, s5, s6, s7, s8] =
      .ok (.nx [S, .own (.dit (l2.map hdK) vs), .own (.lst (acc ++ calF l k ps)), s3, s4, s5', s6', s7', s8'])
  | [], k, acc, s5, s6, s7, s8, _, _ => ⟨s5, s6, s7, s8, by simp [jz, forD, calF]⟩
  | p :: ps, k, acc, s5, s6, s7, s8, h, hl => by
    simp only [List.length_cons] at hl
    have hp := h p (by simp)
    have hlen := ya p.2
    have hnr := hp.nr
    have hhr := hp.hr
    obtain ⟨u', v', hin⟩ := vm (ns := ns) hll (vs := vs) (S := S) (s3 := s3) (s4 := s4) (s6 := .shr (rl p)) (k := k) (prs p.2) acc s7 s8 (fun q hq => (yu p.2 hp.tr q hq).2.2) (by omega)
    have ix : two (rdS 6) (cI 1) ixD [S, .own (.dit (l2.map hdK) vs), .own (.lst acc), s3, s4, .shr (.int (k : Int)), .shr (rl p), s7, s8] = .ok p.2 := jv rfl rfl (ixT (l := [p.1, p.2]) (k := 1) rfl)
    have hz : itF (jo 2 (jU 64) (ja (two (rdS 6) (cI 1) ixD) (ja (tupF nil1) nil1))) [S, .own (.dit (l2.map hdK) vs), .own (.lst acc), s3, s4, .shr (.int (k : Int)), .shr (rl p), s7, s8] = .ok ((prs p.2).map (prB [])) :=
      JL (jw (ds := [p.2, jW []]) (jd ix (jd (wM rfl (jG (by simp))) rfl)) rfl (KD 64 p.2 hp.tr (by omega) (by omega) [] (by simp only [List.length_nil]; omega))) rfl
    have hstep : qk (g2 (gN 5) (gN 6)) dueO (.tup [.int (k : Int), rl p]) [S, .own (.dit (l2.map hdK) vs), .own (.lst acc), s3, s4, s5, s6, s7, s8] = .ok (.nx [S, .own (.dit (l2.map hdK) vs), .own (.lst (acc ++ calI l k p.2)), s3, s4, .shr (.int (k : Int)), .shr (rl p), u', v']) := by
      rw [qy (env' := [S, .own (.dit (l2.map hdK) vs), .own (.lst acc), s3, s4, .shr (.int (k : Int)), .shr (rl p), s7, s8]) rfl]
      exact (zT hz).trans hin
    have hcl := XD l k p.2
    obtain ⟨a4, a5, a6, a7, hr⟩ := Vp hll (S := S) (s3 := s3) (s4 := s4) ps (k + 1) (acc ++ calI l k p.2) (.shr (.int (k : Int))) (.shr (rl p)) u' v' (fun x hx => h x (by simp [hx])) (by simp only [List.length_append]; omega)
    refine ⟨a4, a5, a6, a7, ?_⟩
    show forD _ (.tup [.int (k : Int), rl p] :: jz (k + 1) (ps.map rl)) _ = _
    rw [qC hstep, hr]
    simp [calF]
theorem due1 {ps : List (D × D)} (h : Rus ns ps) (hl : ps.length ≤ 40) : qw [.lst (ps.map rl)] = .ok (.lst (calF (hmet [] (hdsP ps)) 0 ps)) := by
  refine wv ?_
  show xr (jU 64) jr [.shr (.lst (ps.map rl)), .un, .un, .un, .un, .un, .un, .un, .un] = _
  unfold xr
  refine (jC (env' := [.shr (.lst (ps.map rl)), .own (.dit [] []), .un, .un, .un, .un, .un, .un, .un]) rfl).trans ?_
  obtain ⟨u, v, hm⟩ := Zf (ns := ns) (S := .shr (.lst (ps.map rl))) (s2 := .un) (s5 := .un) (s6 := .un) (s7 := .un) (s8 := .un) ps [] .un .un h (by simp only [List.length_nil]; omega)
  refine (jC ((zT (ds := ps.map rl) rfl).trans hm)).trans ?_
  refine (jC (env' := [.shr (.lst (ps.map rl)), .own (.dit ((hmet [] (hds2 ps)).map hdK) (htrs (hmet [] (hds2 ps)))), .own (.lst []), u, v, .un, .un, .un, .un]) rfl).trans ?_
  obtain ⟨a4, a5, a6, a7, hr⟩ := Vp (ns := ns) (l := hmet [] (hdsP ps)) (l2 := hmet [] (hds2 ps)) (vs := htrs (hmet [] (hds2 ps))) (jaY ps) (S := .shr (.lst (ps.map rl))) (s3 := u) (s4 := v) ps 0 [] .un .un .un .un h (by simp only [List.length_nil]; omega)
  refine (jC ((zT (ds := jz 0 (ps.map rl)) rfl).trans hr)).trans ?_
  rw [List.nil_append]; rfl
theorem XE (l : List Hd) : ∀ (k : Nat) (ps : List (D × D)) (d : D), d ∈ calF l k ps → ∃ j q, d = ent j q
  | _, [], d, h => by cases h
  | k, p :: ps, d, h => by
    rcases List.mem_append.mp h with z | z
    · obtain ⟨q, _, rfl⟩ := List.mem_map.mp z
      exact ⟨k, q, rfl⟩
    · exact XE l (k + 1) ps d z
theorem ZH (l : List Hd) : ∀ (k : Nat) (ps : List (D × D)), Rus ns ps → ∀ d ∈ calF l k ps, ∃ j q, d = ent j q ∧ q.1.length ≤ 100
  | _, [], _, d, h => by cases h
  | k, p :: ps, hp, d, h => by
    rcases List.mem_append.mp h with z | z
    · obtain ⟨q, hq, rfl⟩ := List.mem_map.mp z
      have r := hp p (by simp)
      have := (yu p.2 r.tr q (List.mem_filter.mp hq).1).1
      have := r.hr
      exact ⟨k, q, rfl, by omega⟩
    · exact ZH l (k + 1) ps (fun x hx => hp x (by simp [hx])) d z
def ja1 : Sl → Res Out := (seqO (ifO (orB (notB (asB (isiF "tuple" (rdS 1)))) (orB (asB (two (app (ja (rdS 1) nil1) lenD) (cI 2) neR)) (notB (asB (jo 1 jr (ja (two (rdS 1) (cI 0) ixD) nil1)))))) (retO (cB false)) nxO)
    (ifO (orB (notB (asB (isiF "tuple" (two (rdS 1) (cI 1) ixD)))) (notB (asB (app (ja (qQ false 1 [] (itF (two (rdS 1) (cI 1) ixD)) (gN 0) j8 (jo 1 jr (ja (rdS 0) nil1))) nil1) allD)))) (retO (cB false)) nxO))
theorem ja0 {ds : List D} (h : ∀ d ∈ ds, ∃ j q, d = ent j q ∧ q.1.length ≤ 100) : qL [.lst ds] = .ok (.bl true) := by
  obtain ⟨env1, h1, u1, rfl, _⟩ := yA (body := qk (gN 1) ja1) (fun es env => ∃ u : Slot, env = [.shr (.lst ds), u] ∧ ∀ d ∈ es, ∃ j q, d = ent j q ∧ q.1.length ≤ 100) (by
    rintro d es env ⟨u, rfl, hd⟩
    obtain ⟨j, q, rfl, hq⟩ := hd d (by simp)
    refine ⟨[.shr (.lst ds), .shr (ent j q)], ?_, _, rfl, fun x hx => hd x (by simp [hx])⟩
    rw [qy (env' := [.shr (.lst ds), .shr (ent j q)]) rfl]
    have i0 : two (rdS 1) (cI 0) ixD [.shr (.lst ds), .shr (ent j q)] = .ok (.int (j : Int)) := jv rfl rfl ix0
    have i1 : two (rdS 1) (cI 1) ixD [.shr (.lst ds), .shr (ent j q)] = .ok (jW q.1) := jv rfl rfl (ixT (l := [.int (j : Int), jW q.1]) (k := 1) rfl)
    have hc : qQ false 1 [] (itF (two (rdS 1) (cI 1) ixD)) (gN 0) j8 (jo 1 jr (ja (rdS 0) nil1)) [.shr (.lst ds), .shr (ent j q)] = .ok (.lst ((q.1.map D.int).map fun _ => .bl true)) :=
      kE _ (fun d => ∃ i : Int, d = .int i) (ds := q.1.map D.int) (JL i1 rfl) (fun d hd => by obtain ⟨i, _, rfl⟩ := List.mem_map.mp hd; exact ⟨i, rfl⟩) (by rw [List.length_map]; exact jG (by omega)) (by
        rintro d acc ⟨i, rfl⟩
        exact jw (ds := [.int i]) (jd rfl rfl) rfl (yH i))
    have t2 : asB (isiF "tuple" (two (rdS 1) (cI 1) ixD)) [.shr (.lst ds), .shr (ent j q)] = .ok true := jL (by rw [xB, i1]; rfl)
    unfold ja1
    refine (jC ((if_f (yS (qz (jL (b := true) rfl)) (yS (jL (b := false) (jv (qT (jd rfl rfl) rfl) rfl Ky)) (qz (jL (jw (ds := [.int (j : Int)]) (jd i0 rfl) rfl (yH _))))))).trans rfl)).trans ?_
    exact (if_f (yS (qz t2) (qz (jL (qT (jd hc rfl) (XJ _)))))).trans rfl) ds [.shr (.lst ds), .un] ⟨.un, rfl, h⟩
  refine wv ?_
  show zS jr [.shr (.lst ds), .un] = _
  unfold zS
  exact (jC ((zT (ds := ds) rfl).trans h1)).trans rfl
end
end G
namespace G
open PySem PySem.Spec L2 M
open Builtin.Int (intBits)
section
variable {ns : List Str}
theorem Xn : ∀ t, tk ns t = true → D.eqb t = true ∧ D.dep t ≤ hgt t := wS (fun i => by simp [D.eqb, D.dep]) fun z ts _ hl h => by
  have h1 : D.eqbs ts = true := Jf fun t ht => ((h t ht).2).1
  have h2 : D.deps ts ≤ hgts ts := Jj fun t ht => Nat.le_trans ((h t ht).2).2 (wB ht)
  rw [xA]
  refine ⟨by simp [D.eqb, D.eqbs, h1], ?_⟩
  simp only [D.dep, D.deps]; omega
theorem Vk (q : List Int) : D.eqbs (q.map D.int) = true := Jf fun t ht => by obtain ⟨i, _, rfl⟩ := List.mem_map.mp ht; rfl
theorem Vu (q : List Int) : D.deps (q.map D.int) ≤ 0 := Jj fun t ht => by obtain ⟨i, _, rfl⟩ := List.mem_map.mp ht; simp [D.dep]
theorem vc {ds : List D} (h : ∀ d ∈ ds, ∃ j q, d = ent j q) : neR (.lst ds) (.lst ds) = .ok (.bl false) := (Xy (Jf fun d hd => by
    obtain ⟨j, q, rfl⟩ := h d hd
    simp [ent, jW, D.eqb, D.eqbs, Vk]) (Jj fun d hd => by
    obtain ⟨j, q, rfl⟩ := h d hd
    have := Vu q.1
    simp only [ent, jW, D.dep, D.deps]; omega)).2
theorem jbS {ps : List (D × D)} (h : Rus ns ps) : neR (.lst (ps.map rl)) (.lst (ps.map rl)) = .ok (.bl false) := (Xy (Jf fun d hd => by
    obtain ⟨p, hp, rfl⟩ := List.mem_map.mp hd
    have r := h p hp
    simp [rl, D.eqb, D.eqbs, (Xn _ r.tl).1, (Xn _ r.tr).1]) (Jj fun d hd => by
    obtain ⟨p, hp, rfl⟩ := List.mem_map.mp hd
    have r := h p hp
    have a1 := (Xn _ r.tl).2
    have a2 := (Xn _ r.tr).2
    have a3 := r.hl
    have a4 := r.hr
    simp only [rl, D.dep, D.deps]; omega)).2
theorem ixL0 (x : D) (r : List D) : ixD (.lst (x :: r)) (.int 0) = .ok x := by
  simp only [ixD]
  rw [show (0 : Int) = ((0 : Nat) : Int) from rfl, M.atI_nat]; rfl
theorem QZ : ∀ (ds : List D) (k : Nat) (d : D), d ∈ jz k ds → ∃ (j : Nat) (x : D), d = .tup [.int (j : Int), x] ∧ j < k + ds.length ∧ x ∈ ds
  | [], k, d, h => by cases h
  | x :: r, k, d, h => by
    rcases List.mem_cons.mp h with z | z
    · exact ⟨k, x, z, by simp, by simp⟩
    · obtain ⟨j, y, h1, h2, h3⟩ := QZ r (k + 1) d z
      exact ⟨j, y, h1, by simp only [List.length_cons]; omega, by simp [h3]⟩
theorem wg : ∀ (ds : List D) (k : Nat), (jz k ds).length = ds.length
  | [], _ => rfl
  | x :: r, k => by simp [jz, wg r (k + 1)]
theorem QC {i j : Int} (h : 0 < j ∧ j < 2 ^ 200) : divW (.int i) (.int j) = .ok (.int (i / j)) := Zm (C := DivW) h
theorem vJ {ps qs : List (D × D)} (h1 : Rus ns ps) (h2 : Rus ns qs) : Rus ns (ps ++ qs) := fun p hp => (List.mem_append.mp hp).elim (h1 p) (h2 p)
theorem KY {i : Nat} {f1 f2 : Sl → Res D} {env : Sl} {ds : List D} {k : Int} {d : D} (h1 : ownL i env = .ok ds) (h2 : f1 env = .ok (.int k)) (h3 : f2 env = .ok d) (hk : 0 ≤ k ∧ k < 2 ^ 63 ∧ ds.length < sizeLine) : yd i f1 f2 env = .ok (.nx (env.set i (.own (.lst (ds.take k.toNat ++ d :: ds.drop k.toNat))))) := by
  unfold yd
  rw [h1, ze, h2, ze, h3, ze]
  exact jt hk
theorem ul {c : Str} {n : Nat} {F : FO} {g : Sl → Res (List D)} {env : Sl} {ds : List D} {d : D} (h1 : g env = .ok ds) (h2 : ds.length = n) (h3 : F (.obj c [] []) ds = .ok (.non, d)) : Yf c n F g env = .ok d := by
  unfold Yf
  rw [h1, ze, jt h2, h3]; rfl
def lawB : Sl → Res Out := (seqO (qg 6 (jo 2 qP (ja (rdS 5) (ja (two (rdS 4) (cI 1) addD) nil1))))
    (seqO (ifO (asB (two (rdS 4) (cI 0) gtI)) (wI 3 (jo 2 qE (ja (rdS 6) (ja (rdS 2) nil1)))) nxO)
    (seqO (ifO (andB (asB (two (two (two (rdS 6) (cI 7) divW) (cI 3) modI) (cI 0) eqR)) (asB (two (rdB 3) (lstF nil1) neR))) (yd 3 (two (two (rdS 6) (cI 21) divW) (app (ja (rdB 3) nil1) lenD) modI) (two (rdB 3) (two (two (rdS 6) (cI 1000) divW) (app (ja (rdB 3) nil1) lenD) modI) ixD)) nxO)
    (seqO (qg 7 (Yf "Rules" 1 jQ (ja (dupL 3) nil1)))
    (seqO (setO 8 (jo 1 xi (ja (rdS 7) nil1)))
    (seqO (ifO (orB (notB (asB (isiF "list" (rdB 8)))) (orB (asB (two (rdB 8) (jo 1 qw (ja (rdB 3) nil1)) neR)) (notB (asB (jo 1 qL (ja (rdB 8) nil1)))))) (retO (cB false)) nxO)
    (seqO (VD 8)
    (ifO (orB (asB (two (jo 1 xi (ja (rdS 7) nil1)) (jo 1 qw (ja (rdB 3) nil1)) neR)) (asB (two (Qi "Rules" "told" 1 jM (rdS 7) noA) (rdB 3) neR))) (retO (cB false)) nxO))))))))
theorem UG {nm S L : D} (hn : Fiv ns nm) {ps : List (D × D)} (hp : Rus ns ps) (hl : ps.length ≤ 38) (k : Nat) (hk : k ≤ 63) (c : Int) (v6 v7 v8 : Slot) : ∃ ps' v6' v7' v8', Rus ns ps' ∧ ps'.length ≤ ps.length + 2 ∧
    lawB [.shr S, .shr L, .shr nm, .own (.lst (ps.map rl)), .shr (.int (k : Int)), .shr (.int c), v6, v7, v8] = .ok (.nx [.shr S, .shr L, .shr nm, .own (.lst (ps'.map rl)), .shr (.int (k : Int)), .shr (.int c), v6', v7', v8']) := by
  obtain ⟨m, hm, hm2⟩ := yn c ((k : Int) + 1) (by omega)
  obtain ⟨l, r, hr, ru⟩ := JD hn m hm2
  have hln := hn.2.1
  have hnm := hn.2.2
  unfold lawB
  have h2 : ∃ p1, Rus ns p1 ∧ p1.length ≤ ps.length + 1 ∧ ifO (asB (two (rdS 4) (cI 0) gtI)) (wI 3 (jo 2 qE (ja (rdS 6) (ja (rdS 2) nil1)))) nxO [.shr S, .shr L, .shr nm, .own (.lst (ps.map rl)), .shr (.int (k : Int)), .shr (.int c), .shr (.int m), v7, v8] = .ok (.nx [.shr S, .shr L, .shr nm, .own (.lst (p1.map rl)), .shr (.int (k : Int)), .shr (.int c), .shr (.int m), v7, v8]) := by
    have t : asB (two (rdS 4) (cI 0) gtI) [.shr S, .shr L, .shr nm, .own (.lst (ps.map rl)), .shr (.int (k : Int)), .shr (.int c), .shr (.int m), v7, v8] = .ok (decide ((0 : Int) < (k : Int))) := jL (jv rfl rfl rfl)
    by_cases hk0 : (0 : Int) < (k : Int)
    · refine ⟨ps ++ [(l, r)], vJ hp fun p h => by simp at h; subst h; exact ru, by simp, ?_⟩
      rw [if_t (by rw [t, decide_eq_true hk0])]
      refine (Jq (ds := ps.map rl) (d := rl (l, r)) rfl (jw (ds := [.int m, nm]) (jd rfl (jd rfl rfl)) rfl hr) (Nat.lt_of_lt_of_le (show (ps.map rl).length < 20000 by rw [List.length_map]; omega) big1)).trans ?_
      rw [List.map_append]; rfl
    · exact ⟨ps, hp, by omega, (if_f (by rw [t, decide_eq_false hk0])).trans rfl⟩
  obtain ⟨p1, hp1, hl1, s2⟩ := h2
  have h3 : ∃ p2, Rus ns p2 ∧ p2.length ≤ p1.length + 1 ∧ ifO (andB (asB (two (two (two (rdS 6) (cI 7) divW) (cI 3) modI) (cI 0) eqR)) (asB (two (rdB 3) (lstF nil1) neR))) (yd 3 (two (two (rdS 6) (cI 21) divW) (app (ja (rdB 3) nil1) lenD) modI) (two (rdB 3) (two (two (rdS 6) (cI 1000) divW) (app (ja (rdB 3) nil1) lenD) modI) ixD)) nxO [.shr S, .shr L, .shr nm, .own (.lst (p1.map rl)), .shr (.int (k : Int)), .shr (.int c), .shr (.int m), v7, v8] = .ok (.nx [.shr S, .shr L, .shr nm, .own (.lst (p2.map rl)), .shr (.int (k : Int)), .shr (.int c), .shr (.int m), v7, v8]) := by
    have t : andB (asB (two (two (two (rdS 6) (cI 7) divW) (cI 3) modI) (cI 0) eqR)) (asB (two (rdB 3) (lstF nil1) neR)) [.shr S, .shr L, .shr nm, .own (.lst (p1.map rl)), .shr (.int (k : Int)), .shr (.int c), .shr (.int m), v7, v8] = .ok ((m / 7 % 3 == 0) && !(p1.map rl).isEmpty) :=
      XI (jL (jv (qB (jv rfl rfl (QC (by omega))) rfl (by omega)) rfl Jg)) (jL (jv rfl (xL rfl (Nat.zero_le _)) (kZ _)))
    by_cases hb : ((m / 7 % 3 == 0) && !(p1.map rl).isEmpty) = true
    · have hpos : 0 < p1.length := by
        simp only [Bool.and_eq_true] at hb
        cases p1 with
        | nil => simp at hb
        | cons x r => simp
      have hlen : lenD [.lst (p1.map rl)] = .ok (.int (p1.length : Int)) := by show Res.ok (D.int ((p1.map rl).length : Int)) = _; rw [List.length_map]
      have hmod : ∀ x : Int, 0 ≤ x % (p1.length : Int) ∧ x % (p1.length : Int) < p1.length := fun x => ⟨Int.emod_nonneg _ (by omega), Int.emod_lt_of_pos _ (by omega)⟩
      obtain ⟨d, hd, hmem⟩ := ixL (ds := p1.map rl) (i := m / 1000 % (p1.length : Int)) (hmod _).1 (by rw [List.length_map]; exact (hmod _).2)
      obtain ⟨q, hq, rfl⟩ := List.mem_map.mp hmem
      have hm21 := hmod (m / 21)
      refine ⟨p1.take (m / 21 % (p1.length : Int)).toNat ++ q :: p1.drop (m / 21 % (p1.length : Int)).toNat, fun p h => ?_, ?_, ?_⟩
      · rcases List.mem_append.mp h with z | z
        · exact hp1 p (List.mem_of_mem_take z)
        · rcases List.mem_cons.mp z with e | z
          · rw [e]; exact hp1 q hq
          · exact hp1 p (List.mem_of_mem_drop z)
      · simp only [List.length_append, List.length_cons, List.length_take, List.length_drop]; omega
      · rw [if_t (by rw [t, hb])]
        refine (KY (ds := p1.map rl) (k := m / 21 % (p1.length : Int)) (d := rl q) rfl (qB (jv rfl rfl (QC (by omega))) (qT (jd rfl rfl) hlen) (by omega)) (jv rfl (qB (jv rfl rfl (QC (by omega))) (qT (jd rfl rfl) hlen) (by omega)) hd) ⟨hm21.1, by omega, Nat.lt_of_lt_of_le (show (p1.map rl).length < 20000 by rw [List.length_map]; omega) big1⟩).trans ?_
        rw [List.map_append, List.map_cons, List.map_take, List.map_drop]; rfl
    · exact ⟨p1, hp1, by omega, (if_f (by rw [t]; simpa using hb)).trans rfl⟩
  obtain ⟨p2, hp2, hl2, s3⟩ := h3
  obtain ⟨hs, hmk⟩ := jbU hln hnm hp2 (by omega)
  have hcal := jbr (hs := hs) hp2 (by omega)
  have hdue := due1 hp2 (by omega)
  generalize hC : calF (hmet [] (hdsP p2)) 0 p2 = C at hcal hdue
  have hent : ∀ d ∈ C, ∃ j q, d = ent j q := by rw [← hC]; exact XE _ 0 p2
  have hkin := ja0 (ds := C) (by rw [← hC]; exact ZH _ 0 p2 hp2)
  refine ⟨p2, .shr (.int m), .shr (obj p2 hs), .own (.lst []), hp2, by omega, ?_⟩
  refine (jC (env' := [.shr S, .shr L, .shr nm, .own (.lst (ps.map rl)), .shr (.int (k : Int)), .shr (.int c), .shr (.int m), v7, v8]) ((qo (jw (ds := [.int c, .int ((k : Int) + 1)]) (jd rfl (jd (zj rfl rfl) rfl)) rfl hm)).trans rfl)).trans ?_
  refine (jC s2).trans ?_
  refine (jC s3).trans ?_
  have s4 : qg 7 (Yf "Rules" 1 jQ (ja (dupL 3) nil1)) [.shr S, .shr L, .shr nm, .own (.lst (p2.map rl)), .shr (.int (k : Int)), .shr (.int c), .shr (.int m), v7, v8] = .ok (.nx [.shr S, .shr L, .shr nm, .own (.lst (p2.map rl)), .shr (.int (k : Int)), .shr (.int c), .shr (.int m), .shr (obj p2 hs), v8]) :=
    (qo (ul (ds := [.lst (p2.map rl)]) (jd rfl rfl) rfl hmk)).trans rfl
  refine (jC s4).trans ?_
  have c1 : ∀ v : Slot, jo 1 xi (ja (rdS 7) nil1) [.shr S, .shr L, .shr nm, .own (.lst (p2.map rl)), .shr (.int (k : Int)), .shr (.int c), .shr (.int m), .shr (obj p2 hs), v] = .ok (.lst C) := fun v => jw (ds := [obj p2 hs]) (jd rfl rfl) rfl hcal
  have c2 : ∀ v : Slot, jo 1 qw (ja (rdB 3) nil1) [.shr S, .shr L, .shr nm, .own (.lst (p2.map rl)), .shr (.int (k : Int)), .shr (.int c), .shr (.int m), .shr (obj p2 hs), v] = .ok (.lst C) := fun v => jw (ds := [.lst (p2.map rl)]) (jd rfl rfl) rfl hdue
  refine (jC (env' := [.shr S, .shr L, .shr nm, .own (.lst (p2.map rl)), .shr (.int (k : Int)), .shr (.int c), .shr (.int m), .shr (obj p2 hs), .own (.lst C)]) ((J0 (c1 v8)).trans rfl)).trans ?_
  have t6 : orB (notB (asB (isiF "list" (rdB 8)))) (orB (asB (two (rdB 8) (jo 1 qw (ja (rdB 3) nil1)) neR)) (notB (asB (jo 1 qL (ja (rdB 8) nil1))))) [.shr S, .shr L, .shr nm, .own (.lst (p2.map rl)), .shr (.int (k : Int)), .shr (.int c), .shr (.int m), .shr (obj p2 hs), .own (.lst C)] = .ok false :=
    yS (b := false) (qz (jL (b := true) rfl)) (yS (b := false) (jL (jv rfl (c2 _) (vc hent))) (qz (jL (b := true) (jw (ds := [.lst C]) (jd rfl rfl) rfl hkin))))
  refine (jC ((if_f t6).trans rfl)).trans ?_
  refine (jC (env' := [.shr S, .shr L, .shr nm, .own (.lst (p2.map rl)), .shr (.int (k : Int)), .shr (.int c), .shr (.int m), .shr (obj p2 hs), .own (.lst [])]) rfl).trans ?_
  have t8 : orB (asB (two (jo 1 xi (ja (rdS 7) nil1)) (jo 1 qw (ja (rdB 3) nil1)) neR)) (asB (two (Qi "Rules" "told" 1 jM (rdS 7) noA) (rdB 3) neR)) [.shr S, .shr L, .shr nm, .own (.lst (p2.map rl)), .shr (.int (k : Int)), .shr (.int c), .shr (.int m), .shr (obj p2 hs), .own (.lst [])] = .ok false :=
    yS (b := false) (jL (jv (c1 _) (c2 _) (vc hent))) (jL (b := false) (jv (W3 (ds := []) rfl (by decide) rfl rfl (jac p2 hs)) rfl (jbS hp2)))
  exact (if_f t8).trans rfl
end
theorem law_true (sc : List Int) (hlen : sc.length ≤ 63) (hb : ∀ i ∈ sc, Builtin.Int.intBits i ≤ 2 ^ 20) : F_law [.scr (sc.map D.int)] = .ok (.bl true) := by
  have hsl : ∀ k : Nat, k ≤ 100 → k ≤ sizeLine := fun k hk => jG (by omega)
  obtain ⟨c0, hc0⟩ : ∃ c0 : Int, ixD (.lst (sc.map D.int ++ [.int 0])) (.int 0) = .ok (.int c0) := by
    cases sc with
    | nil => exact ⟨0, ixL0 _ _⟩
    | cons c r => exact ⟨c, ixL0 _ _⟩
  have hadd : addS (.scr (sc.map D.int)) (.lst [.int 0]) = .ok (.lst (sc.map D.int ++ [.int 0])) := jt (by simp only [List.length_map, List.length_cons, List.length_nil]; exact hsl _ (by omega))
  obtain ⟨lead, hlead, hl0⟩ := yn c0 0 (by omega)
  obtain ⟨nm, hnm, h5⟩ := Wg lead
  obtain ⟨ns, hn⟩ := UU h5
  have hpow : ∀ env : Sl, two (cI 10) (cI 20) powI env = .ok (.int (10 ^ 20)) := fun env => jv rfl rfl (WV (i := 10) (j := 20) (by decide))
  generalize hS : D.scr (sc.map D.int) = S
  have hadd' := hadd
  rw [hS] at hadd
  generalize hn6 : lead / 10 ^ 20 % 6 = n6
  obtain ⟨ts, hts, hl, hR⟩ := Wu (js := [2, 1]) (fi := rngF (ja (two (two (rdS 1) (two (cI 10) (cI 20) powI) divW) (cI 6) modI) nil1)) (fe := jo 2 qE (ja (jo 2 jN (ja (rdS 2) (ja (rdS 0) nil1))) (ja (rdS 1) nil1)))
    (env := [.shr S, .shr (.int lead), .shr nm, .un, .un, .un, .un, .un, .un]) (ds := wA 0 n6.toNat) (cs := [.shr nm, .shr (.int lead)])
    (fun d => ∃ p, d = rl p ∧ Ru ns p.1 p.2) (fun d => ∃ k : Int, d = .int k ∧ 0 ≤ k ∧ k < 10) rfl (J3 (jd ((qB (jv rfl (hpow _) (QC (by omega))) rfl (by omega)).trans (by rw [hn6])) rfl) (by omega)) (fun d hd => by
      obtain ⟨k, rfl, k0, k1⟩ := yW hd
      exact ⟨k, rfl, k0, by omega⟩) (by rw [zG]; exact hsl _ (by omega)) (by
      rintro d acc ⟨k, rfl, k0, k1⟩
      obtain ⟨m4, hm4, hb4⟩ := wy lead k hl0 (by omega)
      obtain ⟨l, r, hr, ru⟩ := JD hn m4 hb4
      exact ⟨_, jw (ds := [.int m4, nm]) (jd (jw (jd rfl (jd rfl rfl)) rfl hm4) (jd rfl rfl)) rfl hr, (l, r), rfl, ru⟩)
  rw [zG] at hl
  obtain ⟨ps0, rfl, hps0⟩ : ∃ ps : List (D × D), ts = ps.map rl ∧ Rus ns ps := by
    clear hl hts
    induction ts with
    | nil => exact ⟨[], rfl, fun p hp => by cases hp⟩
    | cons t r ih =>
      obtain ⟨p, rfl, hp⟩ := hR t (by simp)
      obtain ⟨ps, rfl, hps⟩ := ih fun x hx => hR x (by simp [hx])
      exact ⟨p :: ps, rfl, fun q hq => by rcases List.mem_cons.mp hq with e | e; · rw [e]; exact hp
                                          · exact hps q e⟩
  rw [List.length_map] at hl
  have hcut : ∀ x ∈ cutD (sc.map D.int) (some 1) (some 11), x ∈ sc.map D.int := fun x hx => List.mem_of_mem_drop (List.mem_of_mem_take hx)
  have hcl : (cutD (sc.map D.int) (some 1) (some 11)).length ≤ 11 := by
    unfold cutD
    rw [List.length_take]
    have : HT.sIx (sc.map D.int).length (sc.map D.int).length (some 11) ≤ 11 := by
      have := HT.sIx_nat (sc.map D.int).length (sc.map D.int).length 11
      rw [show (some (11 : Int)) = some ((11 : Nat) : Int) from rfl, this]; omega
    omega
  generalize hcells : D.int 0 :: cutD (sc.map D.int) (some 1) (some 11) = cells at *
  have hcells' : ∀ x ∈ cells, ∃ i : Int, x = .int i := fun x hx => by
    rw [← hcells] at hx
    rcases List.mem_cons.mp hx with e | e
    · exact ⟨0, e⟩
    · obtain ⟨i, _, rfl⟩ := List.mem_map.mp (hcut x e)
      exact ⟨i, rfl⟩
  have hclen : cells.length ≤ 12 := by rw [← hcells, List.length_cons]; omega
  obtain ⟨env1, l1, _⟩ := yA (body := qk (g2 (gN 4) (gN 5)) lawB)
    (fun ds env => ∃ (ps : List (D × D)) (v4 v5 v6 v7 v8 : Slot), env = [.shr S, .shr (.int lead), .shr nm, .own (.lst (ps.map rl)), v4, v5, v6, v7, v8] ∧ Rus ns ps ∧ ps.length + 2 * ds.length ≤ 30 ∧ ∀ d ∈ ds, ∃ (j : Nat) (i : Int), d = .tup [.int (j : Int), .int i] ∧ j ≤ 63)
    (by
      rintro d ds env ⟨ps, v4, v5, v6, v7, v8, rfl, hp, hz, hd⟩
      simp only [List.length_cons] at hz
      obtain ⟨j, i, rfl, hj⟩ := hd d (by simp)
      obtain ⟨ps', w6, w7, w8, h1, h2, h3⟩ := UG (S := S) (L := .int lead) hn hp (by omega) j hj i v6 v7 v8
      refine ⟨[.shr S, .shr (.int lead), .shr nm, .own (.lst (ps'.map rl)), .shr (.int (j : Int)), .shr (.int i), w6, w7, w8], ?_, ps', _, _, _, _, _, rfl, h1, by omega, fun x hx => hd x (by simp [hx])⟩
      rw [qy (env' := [.shr S, .shr (.int lead), .shr nm, .own (.lst (ps.map rl)), .shr (.int (j : Int)), .shr (.int i), v6, v7, v8]) rfl]
      exact h3)
    (jz 0 cells) [.shr S, .shr (.int lead), .shr nm, .own (.lst (ps0.map rl)), .un, .un, .un, .un, .un]
    ⟨ps0, .un, .un, .un, .un, .un, rfl, hps0, by rw [wg]; omega, fun d hd => by
      obtain ⟨j, x, rfl, hj, hx⟩ := QZ cells 0 d hd
      obtain ⟨i, rfl⟩ := hcells' x hx
      exact ⟨j, i, rfl, by omega⟩⟩
  refine wv ?_
  show US qP zV qE jQ xi jN qw qL jM [.shr S, .un, .un, .un, .un, .un, .un, .un, .un] = _
  unfold US
  refine (jC (env' := [.shr S, .shr (.int lead), .un, .un, .un, .un, .un, .un, .un]) ((qo (jw (ds := [.int c0, .int 0]) (jd (jv (jv rfl (xL (jd rfl rfl) (hsl _ (by simp))) hadd) rfl hc0) (jd rfl rfl)) rfl hlead)).trans rfl)).trans ?_
  refine (jC (env' := [.shr S, .shr (.int lead), .shr nm, .un, .un, .un, .un, .un, .un]) ((qo (jw (ds := [.int lead]) (jd rfl rfl) rfl hnm)).trans rfl)).trans ?_
  refine (jC (env' := [.shr S, .shr (.int lead), .shr nm, .own (.lst (ps0.map rl)), .un, .un, .un, .un, .un]) ((J0 hts).trans rfl)).trans ?_
  have hen : Yr (two (lstF (ja (cI 0) nil1)) (zB (rdS 0) (wO (cI 1)) (wO (cI 11)) slS) addD) [.shr S, .shr (.int lead), .shr nm, .own (.lst (ps0.map rl)), .un, .un, .un, .un, .un] = .ok (jz 0 cells) := by
    have h1 : zB (rdS 0) (wO (cI 1)) (wO (cI 11)) slS [.shr S, .shr (.int lead), .shr nm, .own (.lst (ps0.map rl)), .un, .un, .un, .un, .un] = .ok (.lst (cutD (sc.map D.int) (some 1) (some 11))) := by
      rw [← hS]
      exact yr rfl (xF rfl) (xF rfl) rfl
    have h2 : two (lstF (ja (cI 0) nil1)) (zB (rdS 0) (wO (cI 1)) (wO (cI 11)) slS) addD [.shr S, .shr (.int lead), .shr nm, .own (.lst (ps0.map rl)), .un, .un, .un, .un, .un] = .ok (.lst cells) := by
      refine (jv (xL (jd rfl rfl) (hsl _ (by simp))) h1 (Wz (a := [.int 0]) (by simp only [List.length_cons, List.length_nil]; exact hsl _ (by omega)))).trans ?_
      rw [← hcells]; rfl
    show (two _ _ _ _ >>= _) = _
    rw [h2]; rfl
  refine (jC ((zT hen).trans l1)).trans ?_
  rfl
end G
theorem PySem.W.Fast.te16327519170271545408 : True := trivial
theorem PySem.W.Fast.tw14278111461343575214 : True := trivial
theorem PySem.W.Fast.tw15879092935911881850 : True := trivial
theorem PySem.W.Fast.tw5588873580915673797 : True := trivial
open PySem PySem.W PyProof.Rows
set_option maxRecDepth 100000 in
set_option maxHeartbeats 0 in
theorem PySem.Challenge.cw_endwise_k51_calls_told_holds : PySem.Challenge.rw_endwise_k51_calls_told.Holds := by
  w_on; o_law; k_head; (case hw => w_witness2)
  k_fill
  refine M.walk_law (l := PySem.Challenge.rw_endwise_k51_calls_told) (n := 63) (k := 71) (x := "_law_script") (F := G.F_law) rfl (by decide) rfl ⟨rfl, by decide, by decide⟩ (fun w h Y => PySem.W.kIn_of Y) ?F G.law_true
  case F =>
    intro w mg fa h KX Gn hmg
    refine' G.all_mk KX Gn hmg ?a0 ?l0 ?c0 ?k0 ?a1 ?l1 ?c1 ?k1 ?a2 ?l2 ?c2 ?k2 ?a3 ?l3 ?c3 ?k3 ?a4 ?l4 ?c4 ?k4 ?a5 ?l5 ?c5 ?k5 ?a6 ?l6 ?c6 ?k6 ?a7 ?l7 ?c7 ?k7 ?a8 ?l8 ?c8 ?k8 ?a9 ?l9 ?c9 ?k9 ?a10 ?l10 ?c10 ?k10 ?a11 ?l11 ?c11 ?k11 ?a12 ?l12 ?c12 ?k12 ?a13 ?l13 ?c13 ?k13 ?a14 ?l14 ?c14 ?k14 ?a15 ?l15 ?c15 ?k15 ?a16 ?l16 ?c16 ?k16 ?a17 ?l17 ?c17 ?k17 ?a18 ?l18 ?c18 ?k18 ?a19 ?l19 ?c19 ?k19 ?a20 ?l20 ?c20 ?k20 ?a21 ?i21 ?l21 ?c21 ?k21 ?a22 ?i22 ?l22 ?c22 ?k22 ?a23 ?l23 ?c23 ?k23 ?a24 ?l24 ?c24 ?k24 ?a25 ?l25 ?c25 ?k25 ?a26 ?l26 ?c26 ?k26 ?a27 ?l27 ?c27 ?k27 ?a28 ?l28 ?c28 ?k28 ?z0 ?z1 ?z2 ?z3 ?z4 ?z5 ?z6 ?z7 ?z8 ?z9 ?z10 ?z11 ?z12 ?z13 ?z14 ?yG ?zW ?wt ?wR ?wu ?wQ ?wP ?wF ?xJ ?xN ?xI ?xH ?zE ?zX ?Qh ?Qm
    (case wF => k_is)
    (case a0 => k_is)
    (case l0 => k_is)
    (case c0 => k_is)
    (case k0 => k_is)
    (case a1 => k_is)
    (case l1 => k_is)
    (case c1 => k_is)
    (case k1 => k_is)
    (case a2 => k_is)
    (case l2 => k_is)
    (case c2 => k_is)
    (case k2 => k_is)
    (case a3 => k_is)
    (case l3 => k_is)
    (case c3 => k_is)
    (case k3 => k_is)
    (case a4 => k_is)
    (case l4 => k_is)
    (case c4 => k_is)
    (case k4 => k_is)
    (case a5 => k_is)
    (case l5 => k_is)
    (case c5 => k_is)
    (case k5 => k_is)
    (case a6 => k_is)
    (case l6 => k_is)
    (case c6 => k_is)
    (case k6 => k_is)
    (case a7 => k_is)
    (case l7 => k_is)
    (case c7 => k_is)
    (case k7 => k_is)
    (case a8 => k_is)
    (case l8 => k_is)
    (case c8 => k_is)
    (case k8 => k_is)
    (case a9 => k_is)
    (case l9 => k_is)
    (case c9 => k_is)
    (case k9 => k_is)
    (case a10 => k_is)
    (case l10 => k_is)
    (case c10 => k_is)
    (case k10 => k_is)
    (case a11 => k_is)
    (case l11 => k_is)
    (case c11 => k_is)
    (case k11 => k_is)
    (case a12 => k_is)
    (case l12 => k_is)
    (case c12 => k_is)
    (case k12 => k_is)
    (case a13 => k_is)
    (case l13 => k_is)
    (case c13 => k_is)
    (case k13 => k_is)
    (case a14 => k_is)
    (case l14 => k_is)
    (case c14 => k_is)
    (case k14 => k_is)
    (case a15 => k_is)
    (case l15 => k_is)
    (case c15 => k_is)
    (case k15 => k_is)
    (case a16 => k_is)
    (case l16 => k_is)
    (case c16 => k_is)
    (case k16 => k_is)
    (case a17 => k_is)
    (case l17 => k_is)
    (case c17 => k_is)
    (case k17 => k_is)
    (case a18 => k_is)
    (case l18 => k_is)
    (case c18 => k_is)
    (case k18 => k_is)
    (case a19 => k_is)
    (case l19 => k_is)
    (case c19 => k_is)
    (case k19 => k_is)
    (case a20 => k_is)
    (case l20 => k_is)
    (case c20 => k_is)
    (case k20 => k_is)
    (case a21 => k_is)
    (case i21 => k_is)
    (case l21 => k_is)
    (case c21 => k_is)
    (case k21 => k_is)
    (case a22 => k_is)
    (case i22 => k_is)
    (case l22 => k_is)
    (case c22 => k_is)
    (case k22 => k_is)
    (case a23 => k_is)
    (case l23 => k_is)
    (case c23 => k_is)
    (case k23 => k_is)
    (case a24 => k_is)
    (case l24 => k_is)
    (case c24 => k_is)
    (case k24 => k_is)
    (case a25 => k_is)
    (case l25 => k_is)
    (case c25 => k_is)
    (case k25 => k_is)
    (case a26 => k_is)
    (case l26 => k_is)
    (case c26 => k_is)
    (case k26 => k_is)
    (case a27 => k_is)
    (case l27 => k_is)
    (case c27 => k_is)
    (case k27 => k_is)
    (case a28 => k_is)
    (case l28 => k_is)
    (case c28 => k_is)
    (case k28 => k_is)
    (case z0 => k_is)
    (case z1 => k_is)
    (case z2 => k_is)
    (case z3 => k_is)
    (case z4 => k_is)
    (case z5 => k_is)
    (case z6 => k_is)
    (case z7 => k_is)
    (case z8 => k_is)
    (case z9 => k_is)
    (case z10 => k_is)
    (case z11 => k_is)
    (case z12 => k_is)
    (case z13 => k_is)
    (case z14 => k_is)
    (case yG => k_is)
    (case zW => k_is)
    (case wt => k_is)
    (case wR => k_is)
    (case wu => k_is)
    (case wQ => k_is)
    (case wP => k_is)
    (case xJ => k_is)
    (case xN => k_is)
    (case xI => k_is)
    (case xH => k_is)
    (case zE => k_is)
    (case zX => k_is)
    (case Qh => k_is)
    (case Qm => k_is)

import PyProof.Rows.All
import Wide.All
import OpenK.AllK
import Wide.FinOn
import Lean
import PyProof.EqAt
import PyProof.EqKinds
import PyProof.TupleCall
import PyProof.NeKinds
import KE.IntBitsLaws
import KE.KDictList
import KE.KRevIter
import KE.KSortTup
import KE.KDictSum
import PyProof.EnumMake
import PyProof.EnumFor
import PyProof.LayNew
import PyProof.Rows.EnumRows
import PyProof.SumAny
import PyProof.ListRange
import PyProof.FString5
import PyProof.CollectIter
import PyProof.TupleOfSeq
import PyProof.Rows.Tup
import OpenK.KRaise
import PyProof.StationsW
import KE.KTryMore
import PyProof.NsDelKeeps
import KE.KEqDict
import PyProof.ExcArgs
import PyProof.Draws
import PyProof.ZipIter
import PyProof.Rows.ZipGen
import PyProof.DictWalks
import PyProof.Conv_int_bool
import PyProof.Rows.SeqMore
import PyProof.Rows.SetFrom
import PyProof.SetRoads
import PyProof.MeetsSeq2
import PyProof.FactsAll.NoneType_1
import PyProof.DictFindH
import PyProof.DictRoadsH
import PyProof.AttrMissHeap
import KE.KDictOf
import PyProof.Rows.StrJoin2
import PySem.Challenge.RW_endwise_k06_written_and_read
open Array renaming length_toList -> abN
open Bool renaming and_eq_true -> aal, false_ne_true -> aaB, not_false -> aaQ, not_true -> abV, false_eq_true -> acy, true_and -> acH
open False renaming elim -> abp
open ForInStep renaming yield -> aco
open List renaming length_cons -> aab, size_toArray -> aac, length_append -> aad, getElem?_append_right -> aaj, length_nil -> aak, getElem?_eq_some_iff -> aaq, getElem?_append_left -> aar, mem_cons -> aaw, append_assoc -> aaz, length_map -> aaC, getElem?_eq_getElem -> aaD, mem_append_right -> aaH, mem_cons_of_mem -> aaI, getElem?_map -> aaJ, map_cons -> aaL, getElem?_replicate -> aaM, not_mem_nil -> aaO, mem_cons_self -> aaV, all_eq_true -> aaZ, range -> aa0, flatMap_cons -> aa3, getElem?_set_self -> aa9, length_replicate -> abe, lookup_cons -> abi, mem_append -> abn, append_nil -> abw, lookup -> abz, getElem?_cons_succ -> abA, mem_flatMap -> abC, getElem?_eq_none -> abE, length_drop -> abL, getElem_mem -> abM, getElem?_cons_zero -> abW, drop_eq_nil_of_le -> abZ, range_succ_eq_map -> ab0, length -> ab3, mem_range -> ab5, replicate -> ab7, dropLast_append_of_ne_nil -> ab9, length_take -> acb, getElem?_set_ne -> acd, filterMap_cons -> aci, nodup_cons -> acm, map_congr_left -> acp, flatMap_append -> acq, length_reverse -> acr, mem_filterMap -> acv, mem_map -> acx, length_range -> acC, isEmpty_cons -> acD, reverse_cons -> acE, all_cons -> acG, cons_append -> acJ
open Nat renaming le_refl -> aan, lt_of_lt_of_le -> aas, le_trans -> aau, ne_of_lt -> aaU, lt_irrefl -> aby, lt_succ_self -> aca, zero_le -> acF
open Option.some renaming inj -> aaG
open Or renaming inr -> aaR, inl -> abg
open PyProof.Rows renaming slot_tuple_getitem -> aaF, boot_tuple -> aaN, boot_str -> aaT, callWith_type1 -> abD, boot_int -> ab8, envOfC -> ace, ext_toList -> acI, boot_bool -> acK, AllBare -> acM, boot_all -> acT
open PySem renaming sizeLine -> aae, Shared -> aaf, starEach -> aag, mainGlobals -> aam, wpAny_bind -> aap, wpAny_pure -> aax, Program -> aaE, attributeBase -> aaY, wpAny_truthy_bool -> aa1, boot_len -> aa4, Around -> aa5, backTo -> aa7, mem_of_lookup -> aba, compareOp -> abd, keywordEach -> abh, assignEach -> abl, FuncData -> abo, bootBuiltins -> abq, binaryOp -> abu, wpAny_passesOwn -> abv, swapsWith -> abB, wpAny_newObj_type -> abG, backToKw -> abK, Keyword -> abO, wpAny_mono -> abP, behindInMarks -> abR, wpAny_Call_Name_kw -> abT, foldedSetIterable -> ab1, sliceBounds -> ab4, Operator -> ab6, strLen_append -> acg, wpAny_execs_nil -> acj, letOwnedTupleGo -> ack, standAt -> acO, holding -> acP
open PySem.Builtin.Int renaming intBits -> abb
open PySem.Builtin.List renaming listTooLong -> abf
open PySem.Builtin.Range renaming rangeSize -> aaA
open PySem.Builtin.Slice renaming slicePlaces -> abt, sliceAdjust -> abI, sliceApplied -> acs
open PySem.Builtin.Str renaming strSliceIndices -> aai, occurrences -> abQ
open PySem.Builtin.Tuple renaming tupleExact -> abx, tupleItemsOf -> act, tupleIsExact -> acu
open PySem.F renaming plainAttrs_list -> abj, slot_list_append -> abY, slot_list_extend -> acf, slot_list_pop -> acn
open PySem.Heap renaming get?_push_of_some -> aah, lt_size -> aat, get?_push_size -> aay, SameBut -> acN
open PySem.NameKind renaming free -> abH, cell -> abU
open PySem.PassesOwn renaming never -> aaS
open PySem.Str renaming ofString -> aav, length -> acW
open PySem.Value renaming ref -> aa8, bool -> abF, int -> acL, none -> acU, type -> acV
open PySem.W renaming Frag -> aaa, nsIn -> aao, keepIn -> aaK, findIn -> aaP, mg_none_of -> aaW, kia_one -> aaX, emptyDict -> aa2, mg_of -> aa6, kitOne -> abk, instObj -> abm, fnOf -> abr, plainGet -> abJ, makesIn -> abS, codeIn -> abX, hasDictIn -> ab2, plainGet_of -> acl, callWith_K -> acw, lookIn -> acz, methodObj -> acA, plainOver -> acB, isFn -> acQ, takerIn -> acR, OpenLaw -> acS
open True renaming intro -> ach
noncomputable section
set_option Elab.async false
set_option linter.all false
set_option maxRecDepth 100000
section
open PySem
abbrev Z2 (x:Str):Prop:=(x==("__debug__" :Str))=false
abbrev Zk (x:Str):Prop:=(x==("__classdict__" :Str))=false
abbrev Zj:=Str->Option Value
abbrev Zi:=Addr->Prop
abbrev XU:=Value->aaf->Prop
theorem T7 {l:List Str} (h:l.Nodup:=by decide+kernel):l.Nodup:=h
end
namespace L2
open PySem PySem.Spec PyProof.Rows
abbrev Key:=Sum Int Str
def kW:Key->Value->Bool
 | .inl k,v=>Value.isInt k v
 | .inr x,v=>Value.isStrOf x v
def keyH (w:World):Key->Int
 | .inl k=>hashInt k
 | .inr x=>hashStr w x
theorem jX: ∀ {k:Key} {v:Value},kW k v=true->(∃i t,k=Sum.inl i/\v=acL i t)\/(∃x t,k=Sum.inr x/\v=Value.str x t)
 | .inl i,v,h=>by
  obtain ⟨t,e⟩:=Value.isInt_shape (k:=i) (v:=v) h;exact .inl ⟨i,t,rfl,e⟩
 | .inr x,v,h=>by
  obtain ⟨t,e⟩:=Value.isStrOf_shape (x:=x) (v:=v) h;exact .inr ⟨x,t,rfl,e⟩
def kU (a b:Int):decide ((Sum.inl a:Key)=Sum.inl b)=(a==b):=by
 by_cases e:a=b
 · subst e;simp
 · have h: ¬(Sum.inl a:Key)=Sum.inl b:=fun q=>e (Sum.inl.inj q)
   rw [decide_eq_false h];exact (beq_eq_false_iff_ne.mpr e).symm
def kR (a b:Str):decide ((Sum.inr a:Key)=Sum.inr b)=decide (a=b):=by
 by_cases e:a=b
 · subst e;simp
 · have h: ¬(Sum.inr a:Key)=Sum.inr b:=fun q=>e (Sum.inr.inj q)
   rw [decide_eq_false h,decide_eq_false e]
def kT (a:Int) (b:Str):decide ((Sum.inl a:Key)=Sum.inr b)=false:=decide_eq_false (fun q=>nomatch q)
def kS (a:Str) (b:Int):decide ((Sum.inr a:Key)=Sum.inl b)=false:=decide_eq_false (fun q=>nomatch q)
def ZB (prog:aaE) (w:World):PySem.KeyKind prog w Key where
 is:=kW
 hash:=keyH w
 inj:=fun v a b ha hb=>by
  rcases jX ha with ⟨i,t,rfl,rfl⟩| ⟨x,t,rfl,rfl⟩
  · rcases jX hb with ⟨j,u,rfl,e⟩| ⟨y,u,rfl,e⟩
    · injection e with e1 _;rw [e1]
    · exact nomatch e
  · rcases jX hb with ⟨j,u,rfl,e⟩| ⟨y,u,rfl,e⟩
    · exact nomatch e
    · injection e with e1 _;rw [e1]
 byValue:=fun k v h=>by
  rcases jX h with ⟨i,t,rfl,rfl⟩| ⟨x,t,rfl,rfl⟩<;>rfl
 pyHash:=fun hv h=>by
  rcases jX hv with ⟨i,t,rfl,rfl⟩| ⟨x,t,rfl,rfl⟩
  · exact wpAny_pyHash_int h
  · exact wpAny_pyHash_str h
 eqBool:=fun hu hv h=>by
  rcases jX hu with ⟨i,t,rfl,rfl⟩| ⟨x,t,rfl,rfl⟩
  · rcases jX hv with ⟨j,u,rfl,rfl⟩| ⟨y,u,rfl,rfl⟩
    · rw [kU] at h;exact wpAny_eqBool_int h
    · rw [kT] at h;exact SeqAt.EqAt.int_str i t y u _ _ _ _ h
  · rcases jX hv with ⟨j,u,rfl,rfl⟩| ⟨y,u,rfl,rfl⟩
    · rw [kS] at h;exact SeqAt.EqAt.str_int x t j u _ _ _ _ h
    · rw [kR] at h;exact wpAny_eqBool_str h
 «strs» :=fun k x t v h=>by
  rcases jX h with ⟨i,u,rfl,e⟩| ⟨y,u,rfl,e⟩
  · exact nomatch e
  · injection e with e1 _;subst e1;cases v<;>rfl
inductive V where
 |non|bl (b:Bool)|int (i:Int)|str (x:Str)|byt (b:Array UInt8)|flt (b:UInt64)|ref (a:Addr)|ty (n:String)
 deriving DecidableEq
def RelV:V->Value->Prop
 | .non,u=>u=acU
 | .bl b,u=>u=abF b
 | .int i,u=> ∃t,u=acL i t
 | .str x,u=> ∃t,u=Value.str x t
 | .byt b,u=> ∃t,u=Value.bytes b t
 | .flt b,u=> ∃t,u=Value.float b t
 | .ref a,u=>u=aa8 a
 | .ty n,u=>u=acV n
abbrev Vals:List V->List Value->Prop:=Paired RelV
def Vals.length {xs:List V} {us:List Value} (r:Vals xs us):xs.length=us.length:=Paired.length r
theorem Vals.get: ∀ {xs:List V} {us:List Value} {i:Nat} {x:V},Vals xs us->xs[i]?=some x-> ∃u,us[i]?=some u/\RelV x u
 |_,_,_,_,.nil,e=>by simp at e
 |_,_,0,_,.cons r _,e=>by simp at e;subst e;exact ⟨_,rfl,r⟩
 |_,_,i+1,x,.cons _ t,e=>by
  obtain ⟨u,h1,h2⟩:=Vals.get (i:=i) (x:=x) t (by simpa using e);exact ⟨u,by simpa using h1,h2⟩
theorem Vals.append: ∀ {xs ys:List V} {us ws:List Value},Vals xs us->Vals ys ws->Vals (xs++ys) (us++ws)
 |_,_,_,_,.nil,s=>s
 |_,_,_,_,.cons r t,s=> .cons r (Vals.append t s)
theorem Vals.take: ∀ {xs:List V} {us:List Value} (n:Nat),Vals xs us->Vals (xs.take n) (us.take n)
 |_,_,0,_=> .nil
 |_,_,_+1,.nil=> .nil
 |_,_,n+1,.cons r t=> .cons r (Vals.take n t)
theorem Vals.drop: ∀ {xs:List V} {us:List Value} (n:Nat),Vals xs us->Vals (xs.drop n) (us.drop n)
 |_,_,0,r=>r
 |_,_,_+1,.nil=> .nil
 |_,_,n+1,.cons _ t=>Vals.drop n t
def RelO:Option V->Option Value->Prop
 |some v,some u=>RelV v u
 |none,none=>True
 |_,_=>False
def KV {κ:Type}:List (κ×V)->List (κ×Value)->Prop:=Paired fun (p:κ×V) (q:κ×Value)=>p.1=q.1/\RelV p.2 q.2
def kV:Key->V
 | .inl i=> .int i
 | .inr x=> .str x
inductive HO where
 |lst (xs:List V)
 |tup (xs:List V)
 |dK (kvs:List (Key×V))|dT (kvs:List (List Key×V))
 |set (S:Int->Bool) (n:Nat)
 |ins (C dx:Addr) (fs:List (Str×V))
 |own (x:Addr)
 |xd (fs:List (Str×V))
 |met (f x:Addr)
 |rng (lo hi:Int)
 |frz (o:Obj) (u:HO)
 |tbl (ps:Array Value)
 |ext (φ:Heap->Prop)
abbrev Hp:=Addr->Option HO
def upd (H:Hp) (a:Addr) (o:HO):Hp:=fun b=>if b=a then some o else H b
def jF {H:Hp} {a:Addr} {o:HO}:upd H a o a=some o:=by unfold upd;rw [if_pos rfl]
def jK {H:Hp} {a b:Addr} {o:HO} (h:b≠a):upd H a o b=H b:=by unfold upd;rw [if_neg h]
def qj {H:Hp} {a b:Addr} {o:HO} (h:H a=some o) (h':H b=none):a≠b:=by
 intro e;subst e;rw [h] at h';cases h'
section
variable (P:aaE) (w:World)
def ObjOk (H:Hp) (h:Heap) (a:Addr):HO->Prop
 | .lst xs=>xs.length<=aae/\ ∃(its:List Value) (n:Nat),Vals xs its/\h.get? a=some {cls:= .type "list",data:= .seq its.toArray n}
 | .tup xs=>xs.length<=aae/\ ∃its:List Value,Vals xs its/\IsTup h a its.toArray
 | .dK kvs=>kvs.length<=aae/\(a==sysModules)=false/\ ∃vs,KV kvs vs/\h.DictOf (ZB P w) a vs
 | .dT kvs=>kvs.length<=aae/\(a==sysModules)=false/\ ∃xs:List (List Key×Addr×Value),
  Paired (fun (p:List Key×V) (q:List Key×Addr×Value)=>p.1=q.1/\H q.2.1=some (.tup (p.1.map kV))/\RelV p.2 q.2.2) kvs xs/\
  ∃o es ep,h.get? a=some o/\o.ExactDict/\o.data= .dict es ep/\es.toList=xs.map (entryOfKey (tupleKind (ZB P w)))/\(xs.map (·.1)).Nodup
 | .set S n=>h.SetOf (intKind P w) a S n
 | .ins C dx fs=>H dx=some (.own a)/\fs.length<=1000/\dx≠a/\h.get? a=some (abm C dx)/\
  ∃mA,h.Ns1 dx mA/\(∀f,RelO (fs.lookup f) (mA f))/\PySem.Within mA (fs.map (·.1))
 | .own _=> ∃o,h.get? a=some o
 | .xd fs=> ∃mA,h.Ns1 a mA/\ ∀f,RelO (fs.lookup f) (mA f)
 | .rng lo hi=> ∃t u v,h.get? a=some {cls:= .type "range",data:= .fields #[.int lo t,.int hi u,.int 1 v]}
 | .frz o u=>h.get? a=some o/\ObjOk H h a u
 | .tbl ps=>h.get? a=some {cls:= .none,data:= .fields ps}
 | .met f x=>h.get? a=some (acA (.ref f) (.ref x))
 | .ext φ=>φ h/\(∃o,h.get? a=some o)/\ ∀h1 h2:Heap,φ h1->(∀o,h1.get? a=some o->h2.get? a=some o)->φ h2
def HOk (H:Hp) (h:Heap):Prop:= ∀a o,H a=some o->ObjOk P w H h a o
end
section
variable {P:aaE} {w:World} {H H':Hp} {h h':Heap} {a:Addr} {o:HO}
def ObjOk.lt (x:ObjOk P w H h a o):a<h.objs.size:=by
 cases o with
 |lst xs=>obtain ⟨_,_,_,_,e⟩:=x;exact aat e
 |tup xs=>obtain ⟨_,_,_,p⟩:=x;exact p.lt
 |dK kvs=>obtain ⟨_,_,_,_,o,_,_,e,_⟩:=x;exact aat e
 |dT kvs=>obtain ⟨_,_,_,_,o,_,_,e,_⟩:=x;exact aat e
 |set S n=>obtain ⟨o,_,_,_,e,_⟩:=x;exact aat e
 |ins C dx fs=>obtain ⟨_,_,_,e,_⟩:=x;exact aat e
 |own y=>obtain ⟨_,e⟩:=x;exact aat e
 |xd fs=>obtain ⟨_,⟨_,_,_,e,_⟩,_⟩:=x;exact aat e
 |rng lo hi=>obtain ⟨_,_,_,e⟩:=x;exact aat e
 |frz ob u=>obtain ⟨e,_⟩:=x;exact aat e
 |tbl ps=>exact aat (show h.get? a=some _ from x)
 |met f y=>exact aat (show h.get? a=some _ from x)
 |ext φ=>obtain ⟨_,⟨_,e⟩,_⟩:=x;exact aat e
theorem Paired.mapP {α β:Type} {F G:α->β->Prop}: ∀ {l₁:List α} {l₂:List β},Paired F l₁ l₂->(∀a b,F a b->G a b)->Paired G l₁ l₂
 |_,_,.nil,_=> .nil
 |_,_,.cons r t,f=> .cons (f _ _ r) (Paired.mapP t f)
def ObjOk.stay (x:ObjOk P w H h a o) (k: ∀b u,(b=a\/H b=some (.own a))->h.get? b=some u->h'.get? b=some u)
  (ho: ∀b,H b=some (.own a)->H' b=some (.own a)) (ht: ∀b xs,H b=some (.tup xs)->H' b=some (.tup xs)):ObjOk P w H' h' a o:=by
 induction o with
 |lst xs=>obtain ⟨z,its,n,r,e⟩:=x;exact ⟨z,its,n,r,k _ _ (.inl rfl) e⟩
 |tup xs=>obtain ⟨z,its,r,ob,e,c⟩:=x;exact ⟨z,its,r,ob,k _ _ (.inl rfl) e,c⟩
 |dK kvs=>obtain ⟨z,y,vs,r,ob,es,ep,e,c⟩:=x;exact ⟨z,y,vs,r,ob,es,ep,k _ _ (.inl rfl) e,c⟩
 |dT kvs=>
  obtain ⟨z,y,xs,r,ob,es,ep,e,c⟩:=x;exact ⟨z,y,xs,Paired.mapP r fun p q z=>⟨z.1,ht _ _ z.2.1,z.2.2⟩,ob,es,ep,k _ _ (.inl rfl) e,c⟩
 |set S n=>obtain ⟨ob,es,ep,t,e,c⟩:=x;exact ⟨ob,es,ep,t,k _ _ (.inl rfl) e,c⟩
 |ins C dx fs=>
  obtain ⟨d,z,ne,e,mA,⟨od,es,ep,e2,c⟩,r⟩:=x;exact ⟨ho _ d,z,ne,k _ _ (.inl rfl) e,mA,⟨od,es,ep,k _ _ (.inr d) e2,c⟩,r⟩
 |own y=>obtain ⟨ob,e⟩:=x;exact ⟨ob,k _ _ (.inl rfl) e⟩
 |xd fs=>obtain ⟨mA,⟨od,es,ep,e,c⟩,r⟩:=x;exact ⟨mA,⟨od,es,ep,k _ _ (.inl rfl) e,c⟩,r⟩
 |rng lo hi=>obtain ⟨t,u,v,e⟩:=x;exact ⟨t,u,v,k _ _ (.inl rfl) e⟩
 |frz ob u ih=>obtain ⟨e,q⟩:=x;exact ⟨k _ _ (.inl rfl) e,ih q⟩
 |tbl ps=>
  have e:h.get? a=some {cls:= .none,data:= .fields ps}:=x;show h'.get? a=some {cls:= .none,data:= .fields ps};exact k a _ (.inl rfl) e
 |met f y=>
  have e:h.get? a=some (acA (.ref f) (.ref y)):=x;show h'.get? a=some (acA (.ref f) (.ref y));exact k a _ (.inl rfl) e
 |ext φ=>obtain ⟨p,⟨o,e⟩,st⟩:=x;exact ⟨st _ _ p fun o q=>k _ _ (.inl rfl) q,⟨o,k _ _ (.inl rfl) e⟩,st⟩
def HOk.lt (x:HOk P w H h) (e:H a=some o):a<h.objs.size:=(x a o e).lt
def HOk.fresh (x:HOk P w H h) (e:h.objs.size<=a):H a=none:=by
 cases q:H a with
 |none=>rfl
 |some u=>exact absurd (aas (x.lt q) e) (aby _)
def HOk.kept (x:HOk P w H h) (k: ∀b u,h.get? b=some u->h'.get? b=some u):HOk P w H h':=fun a o e=>
 (x a o e).stay (fun b u _ q=>k b u q) (fun _ q=>q) fun _ _ q=>q
def HOk.laid (x:HOk P w H h) (k: ∀b u,h.get? b=some u->h'.get? b=some u) (hp:h.objs.size<=a) (new:ObjOk P w (upd H a o) h' a o):HOk P w (upd H a o) h':=fun b u e=>by
 have hn:=x.fresh hp
 by_cases hb:b=a
 · subst hb;rw [jF] at e;cases e;exact new
 · rw [jK hb] at e;exact (x b u e).stay (fun c v _ q=>k c v q) (fun c q=>by rw [jK (qj q hn)];exact q) fun c xs q=>by rw [jK (qj q hn)];exact q
end
def Rd (H:Hp) (a:Addr) (u:HO):Prop:=H a=some u\/ ∃o,H a=some (.frz o u)
def Rd.ok {P:aaE} {w:World} {H:Hp} {h:Heap} {a:Addr} {u:HO} (r:Rd H a u) (x:HOk P w H h):ObjOk P w H h a u:=by
 rcases r with r| ⟨o,r⟩
 · exact x a u r
 · obtain ⟨_,q⟩:=x a _ r;exact q
def Mut:Option HO->Prop
 |some (.lst _)=>True
 |some (.dK _)=>True
 |some (.dT _)=>True
 |some (.set _ _)=>True
 |some (.ins _ _ _)=>True
 |some (.ext _)=>True
 |_=>False
section
variable {P:aaE} {w:World} {H:Hp} {h h':Heap} {x e:Addr} {o':HO}
def HOk.write (ok:HOk P w H h) (mu:Mut (H x)) (he:e=x\/H e=some (.own x)) (k: ∀b u,b≠e->h.get? b=some u->h'.get? b=some u) (heo: ∃u,h'.get? e=some u)
   (new:ObjOk P w (upd H x o') h' x o'):HOk P w (upd H x o') h':=fun b u q=>by
 have nown: ∀c y,H c=some (.own y)->c≠x:=fun c y r z=>by subst z;rw [r] at mu;exact mu
 have ntup: ∀c xs,H c=some (.tup xs)->c≠x:=fun c xs r z=>by subst z;rw [r] at mu;exact mu
 by_cases hb:b=x
 · subst hb;rw [jF] at q;cases q;exact new
 · rw [jK hb] at q
   by_cases hbe:b=e
   · have q':H b=some (.own x):=by
       rcases he with z|z
       · exact absurd (hbe.trans z) hb
       · rw [hbe];exact z
     rw [q] at q';cases q';obtain ⟨v,hv⟩:=heo;exact ⟨v,by rw [hbe];exact hv⟩
   · refine (ok b u q).stay (fun c v hc r=>k c v ?_ r) (fun c r=>by rw [jK (nown c b r)];exact r) fun c xs r=>by rw [jK (ntup c xs r)];exact r
     rcases hc with rfl|hc
     · exact hbe
     · rintro rfl;rcases he with z|z
       · exact nown c b hc z
       · rw [hc] at z;cases z;exact hb rfl
end
structure Un (fs ex:List Addr) (H H':Hp) (h h':Heap):Prop where
 keep: ∀b o,h.get? b=some o->H b=none->b∉fs->b∉ex->h'.get? b=some o
 slot: ∀b o,h.get? b=some o->H b=none->b∈fs->b∉ex-> ∃sl,h'.get? b=some {o with slots:=sl}
 free: ∀b o,h.get? b=some o->H b=none->b∉ex->H' b=none
 there: ∀b o,h.get? b=some o->b∉ex-> ∃o',h'.get? b=some o'
 tups: ∀b xs,H b=some (.tup xs)->H' b=some (.tup xs)
 frzs: ∀b o u,H b=some (.frz o u)->H' b=some (.frz o u)
 tbls: ∀b ps,H b=some (.tbl ps)-> ∃more,H' b=some (.tbl (ps++more))
section
variable {fs fs' ex ex':List Addr} {H H1 H2:Hp} {h h1 h2 h':Heap} {a x e:Addr} {o:HO}
def Un.any (u:Un fs ex H H1 h h1) {b:Addr} {ob:Obj} (q:h.get? b=some ob) (n:H b=none) (hx:b∉ex): ∃sl,h1.get? b=some {ob with slots:=sl}:=by
 by_cases hb:b∈fs
 · exact u.slot b ob q n hb hx
 · exact ⟨ob.slots,u.keep b ob q n hb hx⟩
def Un.kept (k: ∀b u,h.get? b=some u->h'.get? b=some u):Un fs ex H H h h':=
 ⟨fun b ob q _ _ _=>k b ob q,fun b ob q _ _ _=>⟨ob.slots,k b ob q⟩,fun _ _ _ n _=>n,fun b ob q _=>⟨ob,k b ob q⟩,fun _ _ q=>q,fun _ _ _ q=>q,fun _ ps q=>⟨#[],by rw [q];simp⟩⟩
def Un.refl:Un fs ex H H h h:=Un.kept fun _ _ q=>q
def Un.laid (k: ∀b u,h.get? b=some u->h'.get? b=some u) (hp:h.objs.size<=a) (hn:H a=none):Un fs ex H (upd H a o) h h' where
 keep:=fun b u q _ _ _=>k b u q
 slot:=fun b u q _ _ _=>⟨u.slots,k b u q⟩
 free:=fun b u q n _=>by rw [jK (aaU (aas (aat q) hp))];exact n
 there:=fun b u q _=>⟨u,k b u q⟩
 tups:=fun b xs q=>by rw [jK (qj q hn)];exact q
 frzs:=fun b u xs q=>by rw [jK (qj q hn)];exact q
 tbls:=fun b ps q=>⟨#[],by rw [jK (qj q hn),q];simp⟩
def Un.write (mu:Mut (H x)) (he:e=x\/H e=some (.own x)) (k: ∀b u,b≠e->h.get? b=some u->h'.get? b=some u) (heo: ∃u,h'.get? e=some u):Un fs ex H (upd H x o) h h':=by
 have hx: ∀b,H b=none->b≠x:=fun b n z=>by subst z;rw [n] at mu;exact mu
 have hb: ∀b,H b=none->b≠e:=fun b n z=>by
   subst z;rcases he with r|r
   · exact hx b n r
   · rw [n] at r;cases r
 have hm: ∀b u,H b=some u-> ¬Mut (some u)->b≠x:=fun b u q nm z=>by subst z;rw [q] at mu;exact nm mu
 refine ⟨fun b u q n _ _=>k b u (hb b n) q,fun b u q n _ _=>⟨u.slots,k b u (hb b n) q⟩,fun b u q n _=>by rw [jK (hx b n)];exact n,fun b u q _=>?_,
   fun b xs q=>by rw [jK (hm b _ q fun z=>z)];exact q,fun b u xs q=>by rw [jK (hm b _ q fun z=>z)];exact q,fun b ps q=>⟨#[],by rw [jK (hm b _ q fun z=>z),q];simp⟩⟩
 by_cases hbe:b=e
 · subst hbe;exact heo
 · exact ⟨u,k b u hbe q⟩
end
def trk (h:Heap) (H:Hp):List Addr:=(aa0 h.objs.size).filter fun a=>(H a).isSome
def hidT (h:Heap) (H:Hp):Heap:=PySem.W.hideAll h (trk h H)
def YH (h:Heap) (H:Hp):(hidT h H).objs.size=h.objs.size:=PySem.W.hideAll_size _ _
def K4 {h:Heap} {H:Hp} {b:Addr} {o:Obj} (e:h.get? b=some o) (n:H b=none):(hidT h H).get? b=some o:=
 PySem.W.hideAll_get _ e fun hm=>by
  have q:(H b).isSome=true:=(List.mem_filter.mp hm).2;rw [n] at q;simp at q
def Ux {h:Heap} {H:Hp} {b:Addr} {o:Obj} (e:(hidT h H).get? b=some o):h.get? b=some o/\H b=none:=by
 have e':h.get? b=some o:=PySem.W.of_hideAll (trk h H) e;refine ⟨e',?_⟩
 cases q:H b with
 |none=>rfl
 |some x=>
  have hm:b∈trk h H:=List.mem_filter.mpr ⟨ab5.mpr (aat e'),by simp [q]⟩;have z:(hidT h H).get? b=none:=PySem.W.hideAll_none (trk h H) hm;rw [z] at e;cases e
def U1 (g h:Heap) (L:Addr):List (Addr×Obj):=(aa0 h.objs.size).filterMap fun a=>if a=L\/(g.get? a).isSome=true then none else (h.get? a).map fun o=>(a,o)
def rest (g h:Heap) (L d:Addr):List (Addr×Obj):=(U1 g h L).filter fun p=>decide (p.1≠d)
structure Mod (K:aaa) (mg:Zj) (base:Heap):Prop where
 kin:K.In base
 glob:base.Ns aam mg
 blt: ∃mb,base.Ns builtinsNs mb/\ ∀x:Str,x≠ "__name__" ->mb x=abq x
 nolimit:base.NoLimit
structure Cx where
 prog:aaE
 w:World
 K:aaa
 mg:Str->Option Value
 base:Heap
 A:aa5
 N:List Str
 s₀:aaf
 H₀:Hp
 env:Env
 outer:List Env
 stack:List Env
 ex:List Addr
 fn:Str->Bool
 calm:Bool
 pn:List (Addr×Obj)
 xe:Value->aaf->Prop
abbrev WV (X:Cx) (e:Expr) (es:List Expr):Prop:=aag (e::es) X.env=(false,eval e X.env)::aag es X.env
abbrev T9 (X:Cx) (p:Pos) (es:List Expr):Prop:=(aa7 p (aag es X.env)).any (·.1)=false
abbrev T8 (X:Cx) (x:Str):Prop:=X.fn x=true\/X.env.scope.names.lookup x=some .local
def frs (l:List Env):List Addr:=l.filterMap (·.frame)
abbrev Cx.fs (X:Cx):List Addr:=frs X.outer
def Vis (sc:Scope) (x:Str):Prop:=sc.names.lookup x=some .local\/sc.names.lookup x=some .cell\/sc.names.lookup x=some .free
def Loc (sc:Scope) (x:Str):Prop:=sc.names.lookup x=some .local\/sc.names.lookup x=some .cell
def Look (env:Env) (h:Heap) (m:Zj) (x:Str) (u:Value):Prop:=
 (env.kindOf x=some .local/\m x=some u)\/((env.kindOf x=some .cell\/env.kindOf x=some .free)/\ ∃c,env.cells.lookup x=some c/\h.IsCell c (some u))
structure Cx.Ok (X:Cx):Prop where
 mod:Mod X.K X.mg X.base
 kind:X.env.scope.kind= .function
 glob:X.env.globals=aam
 blt:X.env.builtins=builtinsNs
 above:X.s₀.heap.objs.size<=X.env.locals
 inj: ∀x y c,X.env.cells.lookup x=some c->X.env.cells.lookup y=some c->x=y
 has: ∀x,(X.env.kindOf x=some .cell\/X.env.kindOf x=some .free)-> ∃c,X.env.cells.lookup x=some c
 cab: ∀x c,X.fn x=true->X.env.cells.lookup x=some c->X.s₀.heap.objs.size<=c
 hd:X.calm=true->X.A.handled=none
 frames:X.A.frames=some X.stack
 stk:X.stack=X.outer\/(X.stack=X.env::X.outer/\X.env.frame=some X.env.locals)
 exf: ∀b∈X.ex,b≠X.env.locals/\ ∀x c,X.env.cells.lookup x=some c->c≠b
 bs: ∀b o,X.base.get? b=some o->X.s₀.heap.get? b=some o/\X.H₀ b=none
 bsz:X.base.objs.size<=X.s₀.heap.objs.size
 noex: ∀b o,X.base.get? b=some o->b∉X.ex
 exfs: ∀b∈X.ex,b∉X.fs
 funs:X.s₀.heap.FunFrames X.base X.outer
 frf: ∀b∈X.fs,X.H₀ b=none
structure Inv (X:Cx) (pins:List (Addr×Obj)) (σ:List (Option V)) (H:Hp) (s:aaf):Prop where
 ok:X.Ok
 os:s.os=X.s₀.os
 bare:acM s.gens
 base:Un X.fs X.ex X.H₀ H X.s₀.heap s.heap
 loc: ∃m,s.heap.Ns X.env.locals m/\ ∀(i:Nat) (x:Str) (v:V),X.N[i]?=some x->σ[i]?=some (some v)->Vis X.env.scope x-> ∃u,RelV v u/\Look X.env s.heap m x u
 cell: ∀x c,X.env.cells.lookup x=some c-> ∃v,s.heap.IsCell c v
 free:H X.env.locals=none
 freeC: ∀x c,X.env.cells.lookup x=some c->H c=none
 pin: ∀p∈X.pn++pins,s.heap.get? p.1=some p.2/\H p.1=none/\p.1≠X.env.locals/\p.1∉X.fs/\ ∀v,p.2.data≠ .cell v
 hok:HOk X.prog X.w H s.heap
 len:σ.length=X.N.length
section
variable {X:Cx} {pins:List (Addr×Obj)} {σ:List (Option V)} {H H':Hp} {s:aaf} {h':Heap}
def Cx.Ok.nofr (ok:X.Ok) {b:Addr} {o:Obj} (e:X.base.get? b=some o):b∉X.fs:=fun hb=>by
 have:=(ok.funs.mem hb).1;rw [e] at this;cases this
def Inv.bs (I:Inv X pins σ H s): ∀b o,X.base.get? b=some o->s.heap.get? b=some o/\H b=none:=fun b o e=>
 ⟨I.base.keep b o (I.ok.bs b o e).1 (I.ok.bs b o e).2 (I.ok.nofr e) (I.ok.noex b o e),I.base.free b o (I.ok.bs b o e).1 (I.ok.bs b o e).2 (I.ok.noex b o e)⟩
def Inv.bk (I:Inv X pins σ H s): ∀b o,X.base.get? b=some o->s.heap.get? b=some o:=fun b o e=>(I.bs b o e).1
def Inv.mod (I:Inv X pins σ H s):Mod X.K X.mg X.base:=I.ok.mod
def Inv.kIn (I:Inv X pins σ H s):X.K.In s.heap:=I.ok.mod.kin.keeps I.bk
def Inv.lt (I:Inv X pins σ H s):X.env.locals<s.heap.objs.size:=let ⟨_,hn,_⟩:=I.loc;hn.lt
def Inv.sz (I:Inv X pins σ H s):X.s₀.heap.objs.size<=s.heap.objs.size:=aau I.ok.above (Nat.le_of_lt I.lt)
def Inv.nofs (I:Inv X pins σ H s) {a:Addr} (h:s.heap.objs.size<=a):a∉X.fs:=fun hb=>by
 obtain ⟨_,o,ho,_⟩:=I.ok.funs.mem hb;exact absurd (aas (aat ho) (aau I.sz h)) (aby _)
def Inv.cne (I:Inv X pins σ H s): ∀x c,X.env.cells.lookup x=some c->c≠X.env.locals:=fun x c e z=>by
 obtain ⟨v,o,ho,hd⟩:=I.cell x c e;obtain ⟨m,⟨o',es,ep,ho',hd',_⟩,_⟩:=I.loc;rw [z,ho'] at ho;cases ho;rw [hd'] at hd;cases hd
def Inv.funs (I:Inv X pins σ H s):s.heap.FunFrames X.base X.outer:=by
 have all: ∀(l:List Env),(∀b∈frs l,b∈X.fs)->X.s₀.heap.FunFrames X.base l->s.heap.FunFrames X.base l:=by
  intro l
  induction l with
  |nil=>intro _ _;trivial
  |cons env r ih=>
   intro hs hl;obtain ⟨hk,⟨L,o,hf,hn,ho,hd⟩,hr⟩:=hl;have hL:L∈X.fs:=hs L (by unfold frs;rw [aci,hf];exact aaV);obtain ⟨sl,e⟩:=I.base.slot L o ho (I.ok.frf L hL) hL fun z=>I.ok.exfs L z hL
   exact ⟨hk,⟨L,_,hf,hn,e,hd⟩,ih (fun b hb=>hs b (by unfold frs;rw [aci,hf];exact aaI _ hb)) hr⟩
 exact all X.outer (fun _ hb=>hb) I.ok.funs
def Inv.stack (I:Inv X pins σ H s):s.heap.FunFrames X.base X.stack:=by
 rcases I.ok.stk with e| ⟨e,hf⟩
 · rw [e];exact I.funs
 · rw [e];obtain ⟨m,hn,_⟩:=I.loc;refine .cons (by rw [I.ok.kind];decide) hf hn ?_ I.funs;exact Heap.get?_none_of_le (aau I.ok.bsz I.ok.above)
def Inv.stkSub (I:Inv X pins σ H s): ∀b∈frs X.stack,b∈X.env.locals::X.fs:=fun b hb=>by
 rcases I.ok.stk with e| ⟨e,hf⟩
 · rw [e] at hb;exact aaI _ hb
 · rw [e] at hb;unfold frs at hb;rw [aci,hf] at hb;exact hb
def Inv.stkFree (I:Inv X pins σ H s): ∀b∈frs X.stack,H b=none:=fun b hb=>by
 rcases aaw.mp (I.stkSub b hb) with e|hb
 · rw [e];exact I.free
 · obtain ⟨_,o,ho,_⟩:=I.ok.funs.mem hb;exact I.base.free b o ho (I.ok.frf b hb) fun z=>I.ok.exfs b z hb
def Inv.step {g':Array GenState} {t':Nat} {d':Drawn} {ch:List Addr} (I:Inv X pins σ H s)
   (hch: ∀b∈ch,(b∈X.ex\/X.s₀.heap.objs.size<=b)/\b≠X.env.locals/\(∀x c,X.env.cells.lookup x=some c->c≠b)/\ ∀p∈X.pn++pins,p.1≠b)
   (keep: ∀b o,b≠X.env.locals->b∉X.fs->b∉ch->s.heap.get? b=some o->H b=none->h'.get? b=some o)
   (slot: ∀b o,b≠X.env.locals->b∈X.fs->b∉ch->s.heap.get? b=some o->H b=none-> ∃sl,h'.get? b=some {o with slots:=sl}) (free: ∀b o,b∉ch->s.heap.get? b=some o->H b=none->H' b=none)
   (there: ∀b o,b∉ch->s.heap.get? b=some o-> ∃o',h'.get? b=some o')
   (tups: ∀b xs,H b=some (.tup xs)->H' b=some (.tup xs)) (frzs: ∀b o u,H b=some (.frz o u)->H' b=some (.frz o u)) (tbls: ∀b ps,H b=some (.tbl ps)-> ∃more,H' b=some (.tbl (ps++more)))
   (ns: ∀m,s.heap.Ns X.env.locals m->h'.Ns X.env.locals m) (hok:HOk X.prog X.w H' h') (hg:acM g'):
   Inv X pins σ H' {s with heap:=h',gens:=g',drawn:=d',toks:=t'}:=by
 have neL: ∀b o,X.s₀.heap.get? b=some o->b≠X.env.locals:=fun b o e=>aaU (aas (aat e) I.ok.above)
 have neC: ∀b o,X.s₀.heap.get? b=some o->b∉X.ex->b∉ch:=fun b o e hx hb=>by
   rcases (hch b hb).1 with z|z
   · exact hx z
   · exact absurd (aas (aat e) z) (aby _)
 have cellK: ∀x c,X.env.cells.lookup x=some c-> ∀v,s.heap.IsCell c v->h'.IsCell c v:=fun x c e v ⟨o,ho,hd⟩=>by
   have nch:c∉ch:=fun z=>(hch c z).2.2.1 x c e rfl
   by_cases hc:c∈X.fs
   · obtain ⟨sl,q⟩:=slot c o (I.cne x c e) hc nch ho (I.freeC x c e);exact ⟨_,q,hd⟩
   · exact ⟨o,keep c o (I.cne x c e) hc nch ho (I.freeC x c e),hd⟩
 refine ⟨I.ok,I.os,hg,⟨fun b o e n hb hx=>?_,fun b o e n hb hx=>?_,fun b o e n hx=>?_,fun b o e hx=>?_,fun b xs e=>tups b xs (I.base.tups b xs e),fun b o xs e=>frzs b o xs (I.base.frzs b o xs e),fun b ps e=>?_⟩,?_,fun x c e=>?_,?_,fun x c e=>?_,fun p hp=>?_,hok,I.len⟩
 · exact keep b o (neL b o e) hb (neC b o e hx) (I.base.keep b o e n hb hx) (I.base.free b o e n hx)
 · obtain ⟨sl,e1⟩:=I.base.slot b o e n hb hx;obtain ⟨sl',e2⟩:=slot b _ (neL b o e) hb (neC b o e hx) e1 (I.base.free b o e n hx);exact ⟨sl',e2⟩
 · obtain ⟨o',e1⟩:=I.base.there b o e hx;exact free b o' (neC b o e hx) e1 (I.base.free b o e n hx)
 · obtain ⟨o',e1⟩:=I.base.there b o e hx;exact there b o' (neC b o e hx) e1
 · obtain ⟨m1,e1⟩:=I.base.tbls b ps e;obtain ⟨m2,e2⟩:=tbls b _ e1;exact ⟨m1++m2,by rw [e2,Array.append_assoc]⟩
 · obtain ⟨m,hn,hl⟩:=I.loc;refine ⟨m,ns m hn,fun i x v e1 e2 e3=>?_⟩;obtain ⟨u,r,l⟩:=hl i x v e1 e2 e3;refine ⟨u,r,?_⟩;rcases l with l| ⟨k,c,e,z⟩
   · exact .inl l
   · exact .inr ⟨k,c,e,cellK x c e _ z⟩
 · obtain ⟨v,z⟩:=I.cell x c e;exact ⟨v,cellK x c e v z⟩
 · obtain ⟨m,⟨o,_,_,ho,_⟩,_⟩:=I.loc;exact free _ o (fun z=>(hch _ z).2.1 rfl) ho I.free
 · obtain ⟨v,o,ho,hd⟩:=I.cell x c e;exact free c o (fun z=>(hch c z).2.2.1 x c e rfl) ho (I.freeC x c e)
 · obtain ⟨e,n,ne,nf,d⟩:=I.pin p hp;have nch:p.1∉ch:=fun z=>(hch p.1 z).2.2.2 p hp rfl
   exact ⟨keep p.1 p.2 ne nf nch e n,free p.1 p.2 nch e n,ne,nf,d⟩
def Inv.un {t':Nat} (I:Inv X pins σ H s) (u:Un X.fs [] H H' s.heap h') (hok:HOk X.prog X.w H' h'):Inv X pins σ H' {s with heap:=h',toks:=t'}:=by
 obtain ⟨m,⟨o,es,ep,ho,r⟩,_⟩:=id I.loc;obtain ⟨sl,hL⟩:=u.any ho I.free (by simp)
 exact I.step (g':=s.gens) (d':=s.drawn) (ch:=[]) (fun _ z=>nomatch z) (fun b o _ hb _ e n=>u.keep b o e n hb (by simp)) (fun b o _ hb _ e n=>u.slot b o e n hb (by simp)) (fun b o _ e n=>u.free b o e n (by simp)) (fun b o _ e=>u.there b o e (by simp)) u.tups u.frzs u.tbls (fun m' hm=>by
  obtain ⟨o',es',ep',ho',r'⟩:=hm;rw [ho] at ho';cases ho'
  exact ⟨_,es',ep',hL,r'⟩) hok I.bare
def Inv.call {g':Array GenState} {t':Nat} {d':Drawn} {ch:List Addr} (I:Inv X pins σ H s) (u:Un (frs X.stack) ch H H' s.heap h') (hok:HOk X.prog X.w H' h') (hg:acM g')
  (hch: ∀b∈ch,(b∈X.ex\/X.s₀.heap.objs.size<=b)/\b≠X.env.locals/\(∀x c,X.env.cells.lookup x=some c->c≠b)/\ ∀p∈X.pn++pins,p.1≠b):
  Inv X pins σ H' {s with heap:=h',gens:=g',drawn:=d',toks:=t'}:=by
 obtain ⟨m,⟨o,es,ep,ho,r⟩,_⟩:=id I.loc;obtain ⟨sl,hL⟩:=u.any ho I.free fun z=>(hch _ z).2.1 rfl
 exact I.step (ch:=ch) hch (fun b o hL hb hc e n=>u.keep b o e n (fun z=>(aaw.mp (I.stkSub b z)).elim hL hb) hc) (fun b o _ _ hc e n=>u.any e n hc) (fun b o hc e n=>u.free b o e n hc) (fun b o hc e=>u.there b o e hc) u.tups u.frzs u.tbls (fun m' hm=>by
  obtain ⟨o',es',ep',ho',r'⟩:=hm;rw [ho] at ho';cases ho'
  exact ⟨_,es',ep',hL,r'⟩) hok hg
def Inv.turned {t':Nat} {it:Addr} (I:Inv X pins σ H s) (k: ∀b o,b≠it->s.heap.get? b=some o->h'.get? b=some o) (hn:H it=none) (hL:it≠X.env.locals)
   (h1:it∈X.ex\/X.s₀.heap.objs.size<=it) (h2: ∀x c,X.env.cells.lookup x=some c->c≠it) (h3: ∀p∈X.pn++pins,p.1≠it):Inv X pins σ H {s with heap:=h',toks:=t'}:=by
 have nit: ∀b u,H b=some u->b≠it:=fun b u e z=>by rw [z,hn] at e;cases e
 refine I.step (g':=s.gens) (d':=s.drawn) (ch:=[it]) (fun b hb=>?_) (fun b o _ _ hc e _=>k b o (fun z=>hc (by simp [z])) e) (fun b o _ _ hc e _=>⟨o.slots,k b o (fun z=>hc (by simp [z])) e⟩) (fun _ _ _ _ n=>n)
   (fun b o hc e=>⟨o,k b o (fun z=>hc (by simp [z])) e⟩) (fun _ _ e=>e) (fun _ _ _ e=>e) (fun b ps e=>⟨#[],by rw [e];simp⟩) (fun m hm=>?_) (fun b u e=>?_) I.bare
 · have e:b=it:=by simpa using hb
   subst e;exact ⟨h1,hL,h2,h3⟩
 · obtain ⟨o,es,ep,ho,r⟩:=hm;exact ⟨o,es,ep,k _ o (Ne.symm hL) ho,r⟩
 · refine (I.hok b u e).stay (fun c v hc q=>k c v ?_ q) (fun _ q=>q) fun _ _ q=>q
   rcases hc with z|z
   · rw [z];exact nit b u e
   · exact nit c _ z
def Inv.tok (I:Inv X pins σ H s) (t:Nat):Inv X pins σ H {s with toks:=t}:=I.un (h':=s.heap) (t':=t) Un.refl I.hok
def Inv.kept {t':Nat} (I:Inv X pins σ H s) (k: ∀b u,s.heap.get? b=some u->h'.get? b=some u):Inv X pins σ H {s with heap:=h',toks:=t'}:=I.un (Un.kept k) (I.hok.kept k)
def Inv.laid {a:Addr} {o:HO} {t':Nat} (I:Inv X pins σ H s) (k: ∀b u,s.heap.get? b=some u->h'.get? b=some u) (hp:s.heap.objs.size<=a) (new:ObjOk X.prog X.w (upd H a o) h' a o):
 Inv X pins σ (upd H a o) {s with heap:=h',toks:=t'}:=I.un (Un.laid k hp (I.hok.fresh hp)) (I.hok.laid k hp new)
def Inv.write {x e:Addr} {o:HO} {t':Nat} (I:Inv X pins σ H s) (mu:Mut (H x)) (he:e=x\/H e=some (.own x)) (k: ∀b u,b≠e->s.heap.get? b=some u->h'.get? b=some u) (heo: ∃u,h'.get? e=some u)
 (new:ObjOk X.prog X.w (upd H x o) h' x o):Inv X pins σ (upd H x o) {s with heap:=h',toks:=t'}:=I.un (Un.write mu he k heo) (I.hok.write mu he k heo new)
def Inv.pins_of {pins':List (Addr×Obj)} (I:Inv X pins σ H s) (h: ∀p∈pins',s.heap.get? p.1=some p.2/\H p.1=none/\p.1≠X.env.locals/\p.1∉X.fs/\ ∀v,p.2.data≠ .cell v):Inv X pins' σ H s:=
 ⟨I.ok,I.os,I.bare,I.base,I.loc,I.cell,I.free,I.freeC,fun p hp=>(abn.mp hp).elim (fun z=>I.pin p (List.mem_append_left _ z)) (h p),I.hok,I.len⟩
def Wh {N:List Str} (hN:N.Nodup) {i j:Nat} {x:Str} (a:N[i]?=some x) (b:N[j]?=some x):i=j:=by
 obtain ⟨h1,e1⟩:=aaq.mp a;obtain ⟨h2,e2⟩:=aaq.mp b;exact (List.getElem_inj hN).mp (e1.trans e2.symm)
def XB {M:Model} {A:aa5} {E:XU} {i:Nat} {x:Str} {v:V} {u:Value} {Q:Unit->aaf->Prop} (I:Inv X pins σ H s) (hN:X.N.Nodup) (hi:X.N[i]?=some x) (hx:Loc X.env.scope x) (r:RelV v u)
   (h: ∀s',Inv X pins (σ.set i (some v)) H s'->(∃a,acN a s.heap s'.heap/\(a=X.env.locals\/X.env.cells.lookup x=some a))->Q () s') (hf:T8 X x:=by first|exact .inl rfl|exact .inr rfl|assumption):wpAny M A (storeName X.env x u) Q E s:=by
 obtain ⟨m,hn,hl⟩:=id I.loc;have hcls:(X.env.scope.kind== .class|| (X.env.scope.kind== .module&&X.env.locals !=X.env.globals))=false:=by rw [I.ok.kind];rfl
 have hiσ:i<σ.length:=by rw [I.len];exact (aaq.mp hi).1
 have cne:=I.cne
 have tracked: ∀ {a:Addr} {h':Heap},(∃o,s.heap.get? a=some o/\H a=none)->acN a s.heap h'->HOk X.prog X.w H h':=fun {a h'} ha hs b ob e=>by
   obtain ⟨_,_,hfree⟩:=ha;refine (I.hok b ob e).stay (fun c w' hc q=>(hs.2 c ?_).trans q) (fun _ q=>q) fun _ _ q=>q
   rintro rfl;rcases hc with rfl|hc
   · rw [hfree] at e;cases e
   · rw [hfree] at hc;cases hc
 rcases hx with hk|hk
 · refine wpAny_storeName_local hk hn (fun h' hn' hs=>?_) hcls;obtain ⟨oL,_,_,hoL,_⟩:=id hn;refine h _ ⟨I.ok,I.os,I.bare,⟨fun b o e n hb hx=>?_,fun b o e n hb hx=>?_,I.base.free,fun b o e hx=>?_,I.base.tups,I.base.frzs,I.base.tbls⟩,⟨_,hn',fun j y v' e1 e2 e3=>?_⟩,fun y c e=>?_,I.free,I.freeC,fun p hp=>?_,tracked ⟨oL,hoL,I.free⟩ hs,by simpa using I.len⟩ ⟨_,hs,.inl rfl⟩
   · exact (hs.2 b (aaU (aas (aat e) I.ok.above))).trans (I.base.keep b o e n hb hx)
   · obtain ⟨sl,e1⟩:=I.base.slot b o e n hb hx;exact ⟨sl,(hs.2 b (aaU (aas (aat e) I.ok.above))).trans e1⟩
   · obtain ⟨o',e1⟩:=I.base.there b o e hx;exact ⟨o',(hs.2 b (aaU (aas (aat e) I.ok.above))).trans e1⟩
   · by_cases hj:j=i
     · subst hj;rw [hi] at e1;cases e1;rw [aa9 hiσ] at e2;cases e2;exact ⟨u,r,.inl ⟨hk,by simp⟩⟩
     · rw [acd (Ne.symm hj)] at e2;obtain ⟨u',r',q⟩:=hl j y v' e1 e2 e3;refine ⟨u',r',?_⟩;rcases q with ⟨k,e⟩| ⟨k,c,e,z⟩
       · refine .inl ⟨k,?_⟩;have:y≠x:=fun e=>hj (Wh hN e1 (e▸hi))
         simp [this,e]
       · exact .inr ⟨k,c,e,z.sameBut hs (cne y c e)⟩
   · obtain ⟨w',z⟩:=I.cell y c e;exact ⟨w',z.sameBut hs (cne y c e)⟩
   · obtain ⟨e,n,ne,nf,d⟩:=I.pin p hp;exact ⟨(hs.2 p.1 ne).trans e,n,ne,nf,d⟩
 · have hfn:X.fn x=true:=by
     rcases hf with z|z
     · exact z
     · rw [z] at hk;cases hk
   obtain ⟨c,hc⟩:=I.ok.has x (.inl hk);obtain ⟨w',z⟩:=I.cell x c hc;refine wpAny_storeName_cell I.ok.kind hk hc z (fun h' hc' hs=>?_);obtain ⟨oc,hoc,hocd⟩:=id z;refine h {s with heap:=h'} ⟨I.ok,I.os,I.bare,⟨fun b o e n hb hx=>?_,fun b o e n hb hx=>?_,I.base.free,fun b o e hx=>?_,I.base.tups,I.base.frzs,I.base.tbls⟩,⟨m,hn.sameBut hs (Ne.symm (cne x c hc)),fun j y v' e1 e2 e3=>?_⟩,fun y c' e=>?_,I.free,I.freeC,fun p hp=>?_,tracked ⟨oc,hoc,I.freeC x c hc⟩ hs,by simpa using I.len⟩ ⟨c,hs,.inr hc⟩
   · exact (hs.2 b (aaU (aas (aat e) (I.ok.cab x c hfn hc)))).trans (I.base.keep b o e n hb hx)
   · obtain ⟨sl,e1⟩:=I.base.slot b o e n hb hx;exact ⟨sl,(hs.2 b (aaU (aas (aat e) (I.ok.cab x c hfn hc)))).trans e1⟩
   · obtain ⟨o',e1⟩:=I.base.there b o e hx;exact ⟨o',(hs.2 b (aaU (aas (aat e) (I.ok.cab x c hfn hc)))).trans e1⟩
   · by_cases hj:j=i
     · subst hj;rw [hi] at e1;cases e1;rw [aa9 hiσ] at e2;cases e2;exact ⟨u,r,.inr ⟨.inl hk,c,hc,hc'⟩⟩
     · rw [acd (Ne.symm hj)] at e2;obtain ⟨u',r',q⟩:=hl j y v' e1 e2 e3;refine ⟨u',r',?_⟩;rcases q with q| ⟨k,c',e,z'⟩
       · exact .inl q
       · refine .inr ⟨k,c',e,z'.sameBut hs ?_⟩;rintro rfl;exact hj (Wh hN e1 (I.ok.inj _ _ _ e hc▸hi))
   · by_cases hcc:c'=c
     · subst hcc;exact ⟨_,hc'⟩
     · obtain ⟨w2,z2⟩:=I.cell y c' e;exact ⟨w2,z2.sameBut hs hcc⟩
   · obtain ⟨e,n,ne,nf,d⟩:=I.pin p hp;refine ⟨(hs.2 p.1 ?_).trans e,n,ne,nf,d⟩;intro q;rw [q,hoc] at e;have q':oc=p.2:=aaG e;exact d w' (by rw [←q'];exact hocd)
def JK {M:Model} {A:aa5} {E:XU} {i:Nat} {x:Str} {v:V} {u:Value} {Q:Unit->aaf->Prop} (I:Inv X pins σ H s) (hN:X.N.Nodup) (hi:X.N[i]?=some x) (hx:Loc X.env.scope x) (r:RelV v u)
  (h: ∀s',Inv X pins (σ.set i (some v)) H s'->Q () s') (hf:T8 X x:=by first|exact .inl rfl|exact .inr rfl|assumption):wpAny M A (storeName X.env x u) Q E s:=
 XB I hN hi hx r (fun s' I' _=>h s' I') hf
def Inv.call' {s':aaf} {ch:List Addr} (I:Inv X pins σ H s) (ho:s'.os=s.os) (u:Un (frs X.stack) ch H H' s.heap s'.heap) (hok:HOk X.prog X.w H' s'.heap) (hg:acM s'.gens)
  (hch: ∀b∈ch,(b∈X.ex\/X.s₀.heap.objs.size<=b)/\b≠X.env.locals/\(∀x c,X.env.cells.lookup x=some c->c≠b)/\ ∀p∈X.pn++pins,p.1≠b):Inv X pins σ H' s':=by
 obtain ⟨h',g',d',t',o'⟩:=s';have e:o'=s.os:=ho;subst e;exact I.call (g':=g') (t':=t') (d':=d') u hok hg hch
end
abbrev XK:=Value->Option Addr->Hp->Prop
abbrev St:=List (Option V)
abbrev VK:=V->Hp->Prop
abbrev TE:=St->Hp->VK->Prop
abbrev TT:=St->Hp->(Bool->Hp->Prop)->Prop
abbrev TA:=St->Hp->(List V->Hp->Prop)->Prop
structure Ends where
 nx:St->Hp->Prop
 rt:VK
 bk:St->Hp->Prop:=fun _ _=>False
 ct:St->Hp->Prop:=fun _ _=>False
abbrev TS:=Ends->St->Hp->Prop
def EP (X:Cx) (pins:List (Addr×Obj)) (σ:St) (Q:VK) (u:Value) (s':aaf):Prop:= ∃v H',Inv X pins σ H' s'/\RelV v u/\Q v H'
def TP (X:Cx) (pins:List (Addr×Obj)) (σ:St) (Q:Bool->Hp->Prop) (b:Bool) (s':aaf):Prop:= ∃H',Inv X pins σ H' s'/\Q b H'
def AP (X:Cx) (pins:List (Addr×Obj)) (σ:St) (Q:List V->Hp->Prop) (us:List Value) (s':aaf):Prop:= ∃vs H',Inv X pins σ H' s'/\Vals vs us/\Q vs H'
def SP (X:Cx) (pins:List (Addr×Obj)) (D:Ends) (f:Flow) (s':aaf):Prop:=
 match f with
 | .next=> ∃σ' H',Inv X pins σ' H' s'/\D.nx σ' H'
 | .brk=> ∃σ' H',Inv X pins σ' H' s'/\D.bk σ' H'
 | .cont=> ∃σ' H',Inv X pins σ' H' s'/\D.ct σ' H'
 | .ret u=> ∃v σ' H',Inv X pins σ' H' s'/\RelV v u/\D.rt v H'
def PE (X:Cx) (e:Expr) (t:TE):Prop:=
 ∀(pins:List (Addr×Obj)) (s:aaf) (σ:St) (H:Hp) (Q:VK),Inv X pins σ H s->t σ H Q->wpAny (model X.prog X.w) X.A (eval e X.env) (EP X pins σ Q) X.xe s
def PT (X:Cx) (e:Expr) (t:TT):Prop:=
 ∀(pins:List (Addr×Obj)) (s:aaf) (σ:St) (H:Hp) (Q:Bool->Hp->Prop),Inv X pins σ H s->t σ H Q->wpAny (model X.prog X.w) X.A (isTrue e X.env (eval e X.env)) (TP X pins σ Q) X.xe s
def PW (X:Cx) (e:Expr) (t:TT):Prop:=
 ∀(whole:Sem Value) (pins:List (Addr×Obj)) (s:aaf) (σ:St) (H:Hp) (Q:Bool->Hp->Prop),Inv X pins σ H s->t σ H Q->wpAny (model X.prog X.w) X.A (isTrue e X.env whole) (TP X pins σ Q) X.xe s
def PW.pt {X:Cx} {e:Expr} {t:TT} (h:PW X e t):PT X e t:=h _
def PA (X:Cx) (es:List Expr) (t:TA):Prop:=
 ∀(pos:Pos) (pins:List (Addr×Obj)) (s:aaf) (σ:St) (H:Hp) (Q:List V->Hp->Prop),Inv X pins σ H s->t σ H Q->wpAny (model X.prog X.w) X.A (spliced (aa7 pos (aag es X.env))) (AP X pins σ Q) X.xe s
def PS (X:Cx) (st:Stmt) (t:TS):Prop:=
 ∀(pins:List (Addr×Obj)) (s:aaf) (σ:St) (H:Hp) (D:Ends),Inv X pins σ H s->t D σ H->wpAny (model X.prog X.w) X.A (exec st X.env) (SP X pins D) X.xe s
def PSs (X:Cx) (st:List Stmt) (t:TS):Prop:=
 ∀(pins:List (Addr×Obj)) (s:aaf) (σ:St) (H:Hp) (D:Ends),Inv X pins σ H s->t D σ H->wpAny (model X.prog X.w) X.A (execs st X.env) (SP X pins D) X.xe s
def thn {α:Type} {t:Sem α} {Q Q':α->aaf->Prop} {M:Model} {A:aa5} {E:XU} {s:aaf} (h:wpAny M A t Q E s) (hQ: ∀a s,Q a s->Q' a s):wpAny M A t Q' E s:=abP h hQ fun _ _ x=>x
section
variable {X:Cx}
def tVar (i:Nat):TE:=fun σ H Q=> ∃v,σ[i]?=some (some v)/\Q v H
def tC (v:V):TE:=fun _ H Q=>Q v H
def zI {i:Nat} {x:Str} {pos:Pos} (hN:X.N[i]?=some x) (hv:Vis X.env.scope x) (hd:Z2 x:=by decide) (hcd:Zk x:=by decide):PE X (.Name x pos) (tVar i):=by
 intro pins s σ H Q I h;obtain ⟨v,e,h⟩:=h;obtain ⟨m,hn,hl⟩:=I.loc;obtain ⟨u,r,l⟩:=hl i x v hN e hv;have fin:EP X pins σ Q u s:=⟨v,H,I,r,h⟩
 rcases l with ⟨hk,hm⟩| ⟨hk,c,hc,hcell⟩
 · exact wpAny_Name (wpAny_loadName_local I.ok.kind hk hn hm fin) hd
 · rcases hk with hk|hk
   · exact wpAny_Name (wpAny_loadName_cell I.ok.kind hk hc hcell fin) hd
   · exact wpAny_Name (wpAny_loadName_free I.ok.kind hk hc hcell fin hcd) hd
def kD {i j pos}:PE X (.Constant (.int i) j pos) (tC (.int i)):=fun _ _ _ H _ I h=>wpAny_Constant_int ⟨.int i,H,I.tok _,⟨_,rfl⟩,h⟩
def v5 {b j pos}:PE X (.Constant (.bool b) j pos) (tC (.bl b)):=fun _ _ _ H _ I h=>Constant_bool ⟨.bl b,H,I,rfl,h⟩
def kz {x j pos}:PE X (.Constant (.str x) j pos) (tC (.str x)):=fun _ _ _ H _ I h=>Calls.Constant_str ⟨.str x,H,I.tok _,⟨_,rfl⟩,h⟩
def Gl (X:Cx) (x:Str):Prop:=X.env.kindOf x=some .globalImplicit
def ZD {E:XU} {pins:List (Addr×Obj)} {s:aaf} {σ:St} {H:Hp} {x:Str} {u:Value} {pos:Pos} {Q:XU} (I:Inv X pins σ H s) (hg:Gl X x) (hm:X.mg x=some u) (h:Q u s)
  (hd:Z2 x:=by decide):wpAny (model X.prog X.w) X.A (eval (.Name x pos) X.env) Q E s:=
 Calls.Name_function_global I.ok.kind hg (Calls.loadGlobal_global (by rw [I.ok.glob];exact I.mod.glob.keeps I.bk) hm h) hd
def QO {E:XU} {pins:List (Addr×Obj)} {s:aaf} {σ:St} {H:Hp} {x:Str} {u:Value} {pos:Pos} {Q:XU} (I:Inv X pins σ H s) (hg:Gl X x) (hm:X.mg x=none) (hv:abq x=some u) (h:Q u s)
  (hn:x≠ "__name__" :=by decide) (hd:Z2 x:=by decide):wpAny (model X.prog X.w) X.A (eval (.Name x pos) X.env) Q E s:=by
 obtain ⟨mb,h1,h2⟩:=I.mod.blt;exact Calls.Name_function_global I.ok.kind hg (Calls.loadGlobal_builtin (by rw [I.ok.glob];exact I.mod.glob.keeps I.bk) hm (by rw [I.ok.blt];exact h1.keeps I.bk) ((h2 x hn).trans hv) h) hd
def X9 {x:Str} {v:V} {u:Value} {pos:Pos} (hg:Gl X x) (hm:X.mg x=some u) (r:RelV v u) (hd:Z2 x:=by decide):PE X (.Name x pos) (tC v):=
 fun _ _ _ H _ I h=>ZD I hg hm ⟨v,H,I,r,h⟩ hd
def Us {x:Str} {v:V} {u:Value} {pos:Pos} (hg:Gl X x) (hm:X.mg x=none) (hv:abq x=some u) (r:RelV v u) (hn:x≠ "__name__" :=by decide) (hd:Z2 x:=by decide):PE X (.Name x pos) (tC v):=
 fun _ _ _ H _ I h=>QO I hg hm hv ⟨v,H,I,r,h⟩ hn hd
variable {a b:Expr} {ta tb:TE} {pos:Pos}
def tB (t:TE):TT:=fun σ H Q=>t σ H fun x H1=> ∃c,x= .bl c/\Q c H1
def Vs {e:Expr} {t:TE} (h:PE X e t) (he: ∀whole,isTrue e X.env whole=(do let v←whole;acO e.pos;acP [v] (truthy v)):=by intro _;rfl):PT X e (tB t):=by
 intro pins s σ H Q I hw;refine isTrue_plain (thn (h pins s σ H _ I hw) fun v s1 ⟨x,H1,I1,r1,q1⟩=>?_) (he _);obtain ⟨d,rfl,q⟩:=q1;cases r1;exact aa1 ⟨H1,I1,q⟩
variable {tA tB':TT} {rest:List Expr}
def tAnd (t u:TT):TT:=fun σ H Q=>t σ H fun c H1=>if c=true then u σ H1 Q else Q false H1
def tOr (t u:TT):TT:=fun σ H Q=>t σ H fun c H1=>if c=true then Q true H1 else u σ H1 Q
def tNot (t:TT):TT:=fun σ H Q=>t σ H fun c H1=>Q (!c) H1
def Uh (ha:PT X a tA):PW X (.BoolOp .And [a] pos) tA:=by
 intro wh pins s σ H Q I h;refine isTrue_and (thn (ha pins s σ H Q I h) fun c s1 e=>?_)
 cases c with
 |true=>exact isTrue_and_nil e
 |false=>exact e
def ko (ha:PT X a tA):PW X (.BoolOp .Or [a] pos) tA:=by
 intro wh pins s σ H Q I h;refine isTrue_or (thn (ha pins s σ H Q I h) fun c s1 e=>?_)
 cases c with
 |false=>exact isTrue_or_nil e
 |true=>exact e
def kq (ha:PT X a tA) (hb:PW X (.BoolOp .And (b::rest) pos) tB'):PW X (.BoolOp .And (a::b::rest) pos) (tAnd tA tB'):=by
 intro wh pins s σ H Q I h;refine isTrue_and (thn (ha pins s σ H _ I h) fun c s1 ⟨H1,I1,q1⟩=>?_)
 cases c with
 |true=>exact hb wh pins s1 σ H1 Q I1 q1
 |false=>exact ⟨H1,I1,q1⟩
def vY (ha:PT X a tA) (hb:PW X (.BoolOp .Or (b::rest) pos) tB'):PW X (.BoolOp .Or (a::b::rest) pos) (tOr tA tB'):=by
 intro wh pins s σ H Q I h;refine isTrue_or (thn (ha pins s σ H _ I h) fun c s1 ⟨H1,I1,q1⟩=>?_)
 cases c with
 |true=>exact ⟨H1,I1,q1⟩
 |false=>exact hb wh pins s1 σ H1 Q I1 q1
def Vt (ha:PT X a tA):PT X (.UnaryOp .Not a pos) (tNot tA):=by
 intro pins s σ H Q I h;exact isTrue_not (ha pins s σ H (fun c H1=>Q (!c) H1) I h)
def vU (ta tb:TE):TE:=fun σ H Q=>ta σ H fun x H1=> ∃c,x= .bl c/\if c=true then tb σ H1 Q else Q (.bl false) H1
def vM (ta:TE):TE:=fun σ H Q=>ta σ H fun x H1=> ∃c,x= .bl c/\Q (.bl (!c)) H1
def kA {op} {t:TE} (h:PE X a t):PE X (.BoolOp op [a] pos) t:=fun pins s σ H Q I hw=>BoolOp_one (h pins s σ H Q I hw)
def kF (ha:PE X a ta) (hb:PE X (.BoolOp .And (b::rest) pos) tb):PE X (.BoolOp .And (a::b::rest) pos) (vU ta tb):=by
 intro pins s σ H Q I h;refine BoolOp_and (thn (ha pins s σ H _ I h) fun v s1 ⟨x,H1,I1,r1,q1⟩=>?_);obtain ⟨c,rfl,q1⟩:=q1;cases r1;refine aa1 ?_
 cases c with
 |true=>exact hb pins s1 σ H1 Q I1 q1
 |false=>exact ⟨.bl false,H1,I1,rfl,q1⟩
def kB (ha:PE X a ta):PE X (.UnaryOp .Not a pos) (vM ta):=by
 intro pins s σ H Q I h;refine UnaryOp_ (thn (ha pins s σ H _ I h) fun v s1 ⟨x,H1,I1,r1,q1⟩=>?_);obtain ⟨c,rfl,q1⟩:=q1;cases r1;exact not_of (aa1 ⟨.bl (!c),H1,I1,rfl,q1⟩)
def tIf (t:TT) (ta tb:TE):TE:=fun σ H Q=>t σ H fun c H1=>if c=true then ta σ H1 Q else tb σ H1 Q
def KK {c:Expr} (hc:PT X c tA) (ha:PE X a ta) (hb:PE X b tb):PE X (.IfExp c a b pos) (tIf tA ta tb):=by
 intro pins s σ H Q I h;refine wpAny_IfExp (thn (hc pins s σ H _ I h) fun d s1 ⟨H1,I1,q1⟩=>?_)
 cases d with
 |true=>exact ha pins s1 σ H1 Q I1 q1
 |false=>exact hb pins s1 σ H1 Q I1 q1
end
def SqL (K:aaa) (H:Hp) (a:Addr) (xs:List V):Prop:=
 Rd H a (.lst xs)\/
  ∃(o:Obj) (its:Array Value) (n:Nat),K.lookup a=some o/\o.cls= .type "list" /\o.dict=none/\o.data= .seq its n/\its.size<=aae/\Vals xs its.toList
def SqT (K:aaa) (H:Hp) (a:Addr) (xs:List V):Prop:=
 Rd H a (.tup xs)\/
  ∃(o:Obj) (its:Array Value) (n:Nat),K.lookup a=some o/\o.cls= .type "tuple" /\o.data= .seq its n/\its.size<=aae/\Vals xs its.toList
def absV:Value->Option V
 | .none=>some .non
 | .bool b=>some (.bl b)
 | .int i _=>some (.int i)
 | .str x _=>some (.str x)
 | .bytes b _=>some (.byt b)
 | .float b _=>some (.flt b)
 | .ref a=>some (.ref a)
 | .type n=>some (.ty n)
 |_=>none
def RelV.abs {x:V} {u:Value} (r:RelV x u):absV u=some x:=by
 cases x with
 |non=>cases r;rfl
 |bl _=>cases r;rfl
 |int _=>obtain ⟨t,rfl⟩:=r;rfl
 |str _=>obtain ⟨t,rfl⟩:=r;rfl
 |byt _=>obtain ⟨t,rfl⟩:=r;rfl
 |flt _=>obtain ⟨t,rfl⟩:=r;rfl
 |ref _=>cases r;rfl
 |ty _=>cases r;rfl
def RelV.inj {x y:V} {u:Value} (r:RelV x u) (q:RelV y u):x=y:=aaG (r.abs.symm.trans q.abs)
theorem Vals.inj: ∀ {xs ys:List V} {us:List Value},Vals xs us->Vals ys us->xs=ys
 |_,_,_,.nil,.nil=>rfl
 |_,_,_,.cons r t,.cons r' t'=>by rw [r.inj r',Vals.inj t t']
section
variable {X:Cx} {pins:List (Addr×Obj)} {σ:St} {H:Hp} {s:aaf} {a:Addr} {xs ys:List V}
def SqL.of {K:aaa} (h:H a=some (.lst xs)):SqL K H a xs:= .inl (.inl h)
def SqT.of {K:aaa} (h:H a=some (.tup xs)):SqT K H a xs:= .inl (.inl h)
def Inv.list (I:Inv X pins σ H s) (h:SqL X.K H a xs): ∃its:List Value,Vals xs its/\PlainL s.heap a its.toArray/\xs.length<=aae:=by
 rcases h with h| ⟨o,its,n,hk,hc,hd,hs,hz,r⟩
 · obtain ⟨z,its,n,r,e⟩:=h.ok I.hok;exact ⟨its,r,⟨_,n,e,rfl,rfl,rfl⟩,z⟩
 · refine ⟨its.toList,r,⟨o,n,I.kIn a o hk,hc,hd,by simpa using hs⟩,?_⟩;have e:=r.length;simp only [abN] at e;omega
def Inv.tuple (I:Inv X pins σ H s) (h:SqT X.K H a xs): ∃its:List Value,Vals xs its/\IsTup s.heap a its.toArray/\xs.length<=aae:=by
 rcases h with h| ⟨o,its,n,hk,hc,hs,hz,r⟩
 · obtain ⟨z,its,r,p⟩:=h.ok I.hok;exact ⟨its,r,p,z⟩
 · refine ⟨its.toList,r,⟨o,I.kIn a o hk,hc,n,by simpa using hs⟩,?_⟩;have e:=r.length;simp only [abN] at e;omega
def Inv.list_inj (I:Inv X pins σ H s) (h:SqL X.K H a xs) (h':SqL X.K H a ys):xs=ys:=by
 obtain ⟨its,r,⟨o,n,e,_,_,d⟩,_⟩:=I.list h;obtain ⟨its',r',⟨o',n',e',_,_,d'⟩,_⟩:=I.list h';rw [e] at e';cases e';rw [d] at d';injection d' with d1 _;have:its=its':=by simpa using congrArg Array.toList d1
 subst this;exact r.inj r'
def Inv.tuple_inj (I:Inv X pins σ H s) (h:SqT X.K H a xs) (h':SqT X.K H a ys):xs=ys:=by
 obtain ⟨its,r,⟨o,e,_,n,d⟩,_⟩:=I.tuple h;obtain ⟨its',r',⟨o',e',_,n',d'⟩,_⟩:=I.tuple h';rw [e] at e';cases e';rw [d] at d';injection d' with d1 _;have:its=its':=by simpa using congrArg Array.toList d1
 subst this;exact r.inj r'
end
abbrev Cx.wish (X:Cx) (E:XU):Cx:={X with xe:=E}
abbrev Cx.nox (X:Cx):Cx:=X.wish fun _ _=>False
def Cx.Ok.wish {X:Cx} (ok:X.Ok) (E:XU):(X.wish E).Ok:=
 ⟨ok.mod,ok.kind,ok.glob,ok.blt,ok.above,ok.inj,ok.has,ok.cab,ok.hd,ok.frames,ok.stk,ok.exf,ok.bs,ok.bsz,ok.noex,ok.exfs,ok.funs,ok.frf⟩
def Cx.Ok.unwish {X:Cx} {E:XU} (ok:(X.wish E).Ok):X.Ok:=
 ⟨ok.mod,ok.kind,ok.glob,ok.blt,ok.above,ok.inj,ok.has,ok.cab,ok.hd,ok.frames,ok.stk,ok.exf,ok.bs,ok.bsz,ok.noex,ok.exfs,ok.funs,ok.frf⟩
section
variable {X:Cx} {pins:List (Addr×Obj)} {σ:St} {H:Hp} {s:aaf} {E:XU}
def Inv.wish (I:Inv X pins σ H s) (E:XU):Inv (X.wish E) pins σ H s:=⟨I.ok.wish E,I.os,I.bare,I.base,I.loc,I.cell,I.free,I.freeC,I.pin,I.hok,I.len⟩
def Inv.unwish (I:Inv (X.wish E) pins σ H s):Inv X pins σ H s:=⟨I.ok.unwish,I.os,I.bare,I.base,I.loc,I.cell,I.free,I.freeC,I.pin,I.hok,I.len⟩
def SP.unwish {D:Ends} {f:Flow} {s':aaf} (h:SP (X.wish E) pins D f s'):SP X pins D f s':=by
 cases f with
 |next=>obtain ⟨σ',H',I,q⟩:=h;exact ⟨σ',H',I.unwish,q⟩
 |brk=>obtain ⟨σ',H',I,q⟩:=h;exact ⟨σ',H',I.unwish,q⟩
 |cont=>obtain ⟨σ',H',I,q⟩:=h;exact ⟨σ',H',I.unwish,q⟩
 |ret u=>obtain ⟨v,σ',H',I,r,q⟩:=h;exact ⟨v,σ',H',I.unwish,r,q⟩
def PSs.nox {st:List Stmt} {t:TS} (h:PSs X.nox st t):PSs X st t:=fun pins s σ H D I hw=>
 abP (h pins s σ H D (I.wish _) hw) (fun _ _ q=>q.unwish) fun _ _ z=>abp z
end
section
variable {X:Cx} {st:Stmt} {rest:List Stmt} {t u:TS} {e:Expr} {te:TE} {pos:Pos}
def vN:TS:=fun D σ H=>D.nx σ H
def tSeq (t u:TS):TS:=fun D σ H=>t {D with nx:=u D} σ H
def X2:PSs X [] vN:=fun _ _ σ H _ I h=>acj ⟨σ,H,I,h⟩
def Z4 (h1:PS X st t) (h2:PSs X rest u):PSs X (st::rest) (tSeq t u):=by
 intro pins s σ H D I h;refine wpAny_execs_cons (thn (h1 pins s σ H {D with nx:=u D} I h) fun f s1 q=>?_)
 cases f with
 |next=>
  obtain ⟨σ',H',I',q⟩:=q;exact h2 pins s1 σ' H' D I' q
 |ret v=>exact q
 |brk=>exact q
 |cont=>exact q
def X1 (h1:PS X st t):PSs X [st] t:=by
 intro pins s σ H D I h;refine wpAny_execs_cons (thn (h1 pins s σ H D I h) fun f s1 q=>?_)
 cases f with
 |next=>exact acj q
 |ret v=>exact q
 |brk=>exact q
 |cont=>exact q
def Inv.quiet {pins:List (Addr×Obj)} {σ:St} {H:Hp} {s:aaf} (I:Inv X pins σ H s):interactive X.env=false:=by simp [interactive,I.ok.kind]
def vP (te:TE):TS:=fun D σ H=>te σ H fun _ H1=>D.nx σ H1
def JU (he:PE X e te) (hs:abB e none pos.line X.env=pure false:=by rfl):PS X (.Expr e pos) (vP te):=by
 intro pins s σ H D I h;exact wpAny_Expr_any (thn (he pins s σ H _ I h) fun v s1 ⟨x,H1,I1,r1,q1⟩=>⟨σ,H1,I1,q1⟩) I.quiet hs
def tRet (te:TE):TS:=fun D σ H=>te σ H D.rt
def Z6 (he:PE X e te):PS X (.Return (some e) pos) (tRet te):=by
 intro pins s σ H D I h;exact wpAny_Return_some (thn (he pins s σ H _ I h) fun v s1 ⟨x,H1,I1,r1,q1⟩=>⟨x,σ,H1,I1,r1,q1⟩)
def tIfS (c:TT) (t u:TS):TS:=fun D σ H=>c σ H fun b H1=>if b=true then t D σ H1 else u D σ H1
def Uj {c:Expr} {a b:List Stmt} {tc:TT} (hc:PT X c tc) (ha:PSs X a t) (hb:PSs X b u):PS X (.If c a b pos) (tIfS tc t u):=by
 intro pins s σ H D I h;refine wpAny_If (thn (hc pins s σ H _ I h) fun d s1 ⟨H1,I1,q1⟩=>?_)
 cases d with
 |true=>exact ha pins s1 σ H1 D I1 q1
 |false=>exact hb pins s1 σ H1 D I1 q1
def kg:TS:=fun _ _ _=>False
def X3 {sts:List Stmt}:PSs X sts kg:=fun _ _ _ _ _ _ h=>h.elim
end
abbrev TG:=V->St->Hp->(St->Hp->Prop)->Prop
abbrev TGs:=List V->St->Hp->(St->Hp->Prop)->Prop
def PG (X:Cx) (target:Expr) (t:TG):Prop:=
 ∀(pins:List (Addr×Obj)) (s:aaf) (σ:St) (H:Hp) (v:V) (u:Value) (Q:St->Hp->Prop),Inv X pins σ H s->RelV v u->t v σ H Q->
  wpAny (model X.prog X.w) X.A (assign target X.env u) (fun _ s'=> ∃σ' H',Inv X pins σ' H' s'/\Q σ' H') X.xe s
def PGs (X:Cx) (ts:List Expr) (t:TGs):Prop:=
 ∀(pins:List (Addr×Obj)) (s:aaf) (σ:St) (H:Hp) (vs:List V) (us:List Value) (Q:St->Hp->Prop),Inv X pins σ H s->Vals vs us->t vs σ H Q->
  wpAny (model X.prog X.w) X.A (assignInOrder ((abl ts X.env).map (·.2)) us) (fun _ s'=> ∃σ' H',Inv X pins σ' H' s'/\Q σ' H') X.xe s
abbrev TIp:=V->V->Hp->VK->Prop
def PIp (X:Cx) (op:ab6) (t:TIp):Prop:=
 ∀(pins:List (Addr×Obj)) (s:aaf) (σ:St) (H:Hp) (x y:V) (v u:Value) (Q:VK),Inv X pins σ H s->RelV x v->RelV y u->t x y H Q->
  wpAny (model X.prog X.w) X.A (inplaceOp op v u) (EP X pins σ Q) X.xe s
section
variable {X:Cx} {pos:Pos}
def vc (i:Nat):TG:=fun v σ H Q=>Q (σ.set i (some v)) H
def Uo {i:Nat} {x:Str} (hN:X.N.Nodup) (hi:X.N[i]?=some x) (hx:Loc X.env.scope x) (hf:T8 X x:=by first|exact .inl rfl|exact .inr rfl|assumption):PG X (.Name x pos) (vc i):=by
 intro pins s σ H v u Q I r h;exact wpAny_assign_Name (JK I hN hi hx r (fun s' I'=>⟨_,H,I',h⟩) hf)
def gNil:TGs:=fun vs σ H Q=>vs=[]/\Q σ H
def ud (t:TG) (u:TGs):TGs:=fun vs σ H Q=> ∃v r,vs=v::r/\t v σ H fun σ' H'=>u r σ' H' Q
def Um:PGs X [] gNil:=by
 intro pins s σ H vs us Q I r h;obtain ⟨e,h⟩:=h;subst e;cases r;exact assignInOrder_nil ⟨σ,H,I,h⟩
def Z7 {e:Expr} {es:List Expr} {t:TG} {u:TGs} (h1:PG X e t) (h2:PGs X es u)
  (hs:(abl (e::es) X.env).map (·.2)=assign e X.env::(abl es X.env).map (·.2):=by rfl):PGs X (e::es) (ud t u):=by
 intro pins s σ H vs us Q I r h;obtain ⟨v,vr,e1,h⟩:=h;subst e1
 cases r with
 |cons r rr=>
  rw [hs];refine assignInOrder_cons (thn (h1 pins s σ H _ _ _ I r h) fun _ s1 ⟨σ1,H1,I1,q1⟩=>?_);exact h2 pins s1 σ1 H1 _ _ Q I1 rr q1
def gTup (K:aaa) (n:Nat) (t:TGs):TG:=fun v σ H Q=> ∃a xs,v= .ref a/\SqT K H a xs/\xs.length=n/\t xs σ H Q
def ky {es:List Expr} {k:Nat} {t:TGs} {n:Nat} (hc:X.calm=true) (h:PGs X es t)
  (hn:(abl es X.env).length=n:=by rfl) (hst:(abl es X.env).findIdx? (·.1)=none:=by rfl):PG X (.Tuple es k pos) (gTup X.K n t):=by
 intro pins s σ H v u Q I r hw;obtain ⟨a,xs,e1,hq,hl,hw⟩:=hw;subst e1;cases r;obtain ⟨its,rv,ht,hz⟩:=I.tuple hq;refine assign_Tuple_tuple (I.ok.hd hc) ht (by simp [hn,←hl,rv.length]) hst fun h' hx=>?_
 have I1:Inv X pins σ H {s with heap:=h'}:=I.kept (t':=s.toks) fun b o e=>hx b o (aaU (aat e)) e
 exact h pins _ σ H xs _ Q I1 (by simpa using rv) hw
def tAsg (te:TE) (g:TG):TS:=fun D σ H=>te σ H fun x H1=>g x σ H1 D.nx
def Vu {tg e:Expr} {te:TE} {g:TG} (he:PE X e te) (hg:PG X tg g) (hs:swapsWithSole [tg] e pos.line X.env=pure false:=by rfl) (hw:swappedStores [tg] e X.env=pure none:=by rfl)
  (h1:(abl [tg] X.env).map (·.2)=[assign tg X.env]:=by rfl):PS X (.Assign [tg] e pos) (tAsg te g):=by
 intro pins s σ H D I h;refine wpAny_Assign_stores (thn (he pins s σ H _ I h) fun v s1 ⟨x,H1,I1,r1,q1⟩=>?_) hs hw;rw [h1];exact thn (hg pins s1 σ H1 x v _ I1 r1 q1) fun _ s2 q=>q
def QB {i:Nat} {x:Str} {e:Expr} {te:TE} {pos':Pos} (hN:X.N.Nodup) (hi:X.N[i]?=some x) (hx:Loc X.env.scope x) (he:PE X e te) (hs:abB e (some (.Name x pos')) pos.line X.env=pure false:=by rfl) (hf:T8 X x:=by first|exact .inl rfl|exact .inr rfl|assumption):
  PS X (.Assign [.Name x pos'] e pos) (tAsg te (vc i)):=by
 intro pins s σ H D I h;refine wpAny_Assign_Name (thn (he pins s σ H _ I h) fun v s1 ⟨y,H1,I1,r1,q1⟩=>?_) hs;exact JK I1 hN hi hx r1 (fun s2 I2=>⟨_,H1,I2,q1⟩) hf
def tAug (i:Nat) (te:TE) (ti:TIp):TS:=fun D σ H=> ∃x,σ[i]?=some (some x)/\te σ H fun y H1=>ti x y H1 fun z H2=>D.nx (σ.set i (some z)) H2
def ku {i:Nat} {x:Str} {e:Expr} {te:TE} {op:ab6} {ti:TIp} {pos':Pos} (hN:X.N.Nodup) (hi:X.N[i]?=some x) (hx:Loc X.env.scope x) (he:PE X e te) (ho:PIp X op ti) (hf:T8 X x:=by first|exact .inl rfl|exact .inr rfl|assumption):
   PS X (.AugAssign (.Name x pos') op e pos) (tAug i te ti):=by
 intro pins s σ H D I h;obtain ⟨v,e1,h⟩:=h;obtain ⟨m,hn,hl⟩:=I.loc;have vis:Vis X.env.scope x:=by rcases hx with k|k;exact .inl k;exact .inr (.inl k)
 obtain ⟨u,r,l⟩:=hl i x v hi e1 vis;refine wpAny_AugAssign_Name ?_
 have go:wpAny (model X.prog X.w) X.A (eval e X.env) (fun w s₂=>wpAny (model X.prog X.w) X.A (inplaceOp op u w) (fun r s₃=>wpAny (model X.prog X.w) X.A (storeName X.env x r) (fun _=>SP X pins D .next) X.xe s₃) X.xe s₂) X.xe s:=by
   refine thn (he pins s σ H _ I h) fun w s1 ⟨y,H1,I1,r1,q1⟩=>?_
   refine thn (ho pins s1 σ H1 v y u w _ I1 r r1 q1) fun z s2 ⟨zv,H2,I2,r2,q2⟩=>?_
   exact JK I2 hN hi hx r2 (fun s3 I3=>⟨_,H2,I3,q2⟩) hf
 rcases l with ⟨hk,hm⟩| ⟨hk,c,hc,hcell⟩
 · exact wpAny_loadName_local I.ok.kind hk hn hm go
 · rcases hk with hk|hk
   · exact wpAny_loadName_cell I.ok.kind hk hc hcell go
   · rcases hx with k|k
     · have:X.env.scope.names.lookup x=some .free:=hk;rw [k] at this;cases this
     · have:X.env.scope.names.lookup x=some .free:=hk;rw [k] at this;cases this
def ipI (f:Int->Int->Int):TIp:=fun x y H Q=> ∃i j,x= .int i/\y= .int j/\Q (.int (f i j)) H
def VG:PIp X .Add (ipI fun i j=>i+j):=by
 intro pins s σ H x y v u Q I r1 r2 h;obtain ⟨i,j,e1,e2,q⟩:=h;subst e1;subst e2;obtain ⟨t,rfl⟩:=r1;obtain ⟨t',rfl⟩:=r2;exact iadd_int ⟨.int _,H,I.tok _,⟨_,rfl⟩,q⟩
def kf (c:TT) (tb:TS):TS:=fun D σ H=> ∃W:Nat->St->Hp->Prop,(∃m,W m σ H)/\ ∀m σ H,W m σ H->
 c σ H fun b H1=>if b=true then∃N:St->Hp->Prop,(∀σ' H',N σ' H'-> ∃m',m'<m/\W m' σ' H')/\tb {D with nx:=N,ct:=N,bk:=D.nx} σ H1 else D.nx σ H1
def Z5 {c:Expr} {body:List Stmt} {tc:TT} {tb:TS} (hp:PassesOwn (model X.prog X.w) X.A X.env X.xe) (hc:PT X c tc) (hb:PSs X body tb):PS X (.While c body [] pos) (kf tc tb):=by
 intro pins s σ H D I h;obtain ⟨W,⟨m0,w0⟩,turn⟩:=h;refine wpAny_While (codeAny_whileLoop (fun n s'=> ∃σ' H',Inv X pins σ' H' s'/\W n σ' H') ?_ m0 ⟨σ,H,I,w0⟩);rintro n s1 ⟨σ1,H1,I1,w1⟩;refine abv hp (thn (hc pins s1 σ1 H1 _ I1 (turn n σ1 H1 w1)) fun b s2 ⟨H2,I2,q2⟩=>?_)
 cases b with
 |true=>
  obtain ⟨N,hN,q2⟩:=q2;rw [if_pos rfl];refine abv hp (thn (hb pins s2 σ1 H2 _ I2 q2) fun f s3 q3=>?_)
  cases f with
  |next=>
   obtain ⟨σ3,H3,I3,n3⟩:=q3;obtain ⟨m',hm,w3⟩:=hN σ3 H3 n3;exact ⟨m',hm,σ3,H3,I3,w3⟩
  |cont=>
   obtain ⟨σ3,H3,I3,n3⟩:=q3;obtain ⟨m',hm,w3⟩:=hN σ3 H3 n3;exact ⟨m',hm,σ3,H3,I3,w3⟩
  |brk=>exact q3
  |ret v=>exact q3
 |false=>
  rw [if_neg aaB];exact acj ⟨σ1,H2,I2,q2⟩
end
structure It where
 go:Nat->Hp->Prop
 yld:Nat->Hp->V->Hp->Prop
 stop:Nat->Hp->Prop
def FpOk (X:Cx) (pins:List (Addr×Obj)) (H:Hp) (b:Addr):Prop:=
 H b=none/\b≠X.env.locals/\b∉X.fs/\(b∈X.ex\/X.s₀.heap.objs.size<=b)/\(∀x c,X.env.cells.lookup x=some c->c≠b)/\ ∀p∈X.pn++pins,p.1≠b
def Inv.fpOk {X:Cx} {pins:List (Addr×Obj)} {σ:St} {H H':Hp} {s:aaf} {b:Addr} (I:Inv X pins σ H s) (hb:s.heap.objs.size<=b) (hn:H' b=none):FpOk X pins H' b:=by
 refine ⟨hn,Nat.ne_of_gt (aas I.lt hb),I.nofs hb,.inr (aau I.sz hb),fun x c e z=>?_,fun p hp z=>?_⟩
 · obtain ⟨v,q⟩:=I.cell x c e;exact absurd (aas q.lt (by rw [z];exact hb)) (aby _)
 · exact absurd (aas (aat (I.pin p hp).1) (by rw [z];exact hb)) (aby _)
structure Turn (P:aaE) (w:World) (K:aaa) (tg:Expr) (J:It) (fp:List Addr) (it:Addr) (tn:Nat->Heap->Prop):Prop where
 mem:it∈fp
 obj: ∀i h,tn i h-> ∀b∈fp,∃o,h.get? b=some o/\ ∀v,o.data≠ .cell v
 keep: ∀i h h',tn i h->(∀b∈fp,∀o,h.get? b=some o->h'.get? b=some o)->tn i h'
 item: ∀(X:Cx),X.prog=P->X.w=w->X.K=K->X.calm=true-> ∀(i:Nat) (pins:List (Addr×Obj)) (s:aaf) (σ:St) (H:Hp) (E:XU),Inv X pins σ H s->(∀b∈fp,FpOk X pins H b)->tn i s.heap->J.go i H->
  wpAny (model P w) X.A (pyNext (.ref it)) (fun r s1=> ∃u,r=some u/\
   wpAny (model P w) X.A (ack tg (.ref it) u) (fun _ s2=> ∃x H',Inv X pins σ H' s2/\RelV x u/\J.yld i H x H'/\tn (i+1) s2.heap/\ ∀b∈fp,H' b=none) E s1) E s
 done: ∀(X:Cx),X.prog=P->X.w=w->X.K=K->X.calm=true-> ∀(i:Nat) (pins:List (Addr×Obj)) (s:aaf) (σ:St) (H:Hp) (E:XU),Inv X pins σ H s->(∀b∈fp,FpOk X pins H b)->tn i s.heap->J.stop i H->
  wpAny (model P w) X.A (pyNext (.ref it)) (fun r s1=>r=none/\Inv X pins σ H s1) E s
 self: ∀(A:aa5) (i:Nat) (s:aaf) (Q:XU) (E:XU),tn i s.heap->Q (.ref it) s->wpAny (model P w) A (pyIter (.ref it)) Q E s
abbrev TI:=St->Hp->(It->Hp->Prop)->Prop
def PIE (X:Cx) (pins:List (Addr×Obj)) (σ:St) (tg:Expr) (R:It->Hp->Prop) (itv:Value) (s2:aaf):Prop:=
 ∃(it:Addr) (fp:List Addr) (tn:Nat->Heap->Prop) (J:It) (H':Hp),itv= .ref it/\Inv X pins σ H' s2/\Turn X.prog X.w X.K tg J fp it tn/\tn 0 s2.heap/\(∀b∈fp,FpOk X pins H' b)/\R J H'
def PI (X:Cx) (tg iter:Expr) (wi:TI):Prop:=
 ∀(pins:List (Addr×Obj)) (s:aaf) (σ:St) (H:Hp) (R:It->Hp->Prop),Inv X pins σ H s->wi σ H R->
  wpAny (model X.prog X.w) X.A (eval iter X.env) (fun v s1=>wpAny (model X.prog X.w) X.A (pyIter v) (PIE X pins σ tg R) X.xe s1) X.xe s
def Xb {M : Model} {A : aa5} {E : Value -> aaf -> Prop} {s : aaf} {tg : Expr} {it : Addr} {u : Value} {o : Obj} {n : String} {vs : Array Value} {Q : Unit -> aaf -> Prop} (ho : s.heap.get? it = some o) (hc : o.cls = .type n) (hd : o.data = .fields vs)
    (hn : ["enumerate", "zip", "dict_itemiterator", "dict_reverseitemiterator", "odict_iterator", "itertools.zip_longest", "itertools.pairwise"].contains n = false) (hQ : Q () s) : wpAny M A (ack tg (.ref it) u) Q E s := by
  unfold ack
  cases tg <;> first
    | exact aax hQ
    | (cases u <;> first
        | exact aax hQ
        | (refine aap (wpAny_load ho ?_)
           rw [hc, hd]
           show wpAny M A (if (["enumerate", "zip", "dict_itemiterator", "dict_reverseitemiterator", "odict_iterator", "itertools.zip_longest", "itertools.pairwise"].contains n && vs[0]? == some (rawInt _)) = true then _ else _) Q E s
           rw [if_neg (by intro h; rw [hn, Bool.false_and] at h; cases h)]
           exact aax hQ))
def Itl (K:aaa) (a:Addr):It:=
 ⟨fun i H=> ∃xs x,SqL K H a xs/\xs[i]?=some x,fun i H x H'=>H'=H/\ ∀xs,SqL K H a xs->xs[i]?=some x,fun i H=> ∃xs,SqL K H a xs/\xs.length<=i⟩
def Itt (K:aaa) (a:Addr):It:=
 ⟨fun i H=> ∃xs x,SqT K H a xs/\xs[i]?=some x,fun i H x H'=>H'=H/\ ∀xs,SqT K H a xs->xs[i]?=some x,fun i H=> ∃xs,SqT K H a xs/\xs.length<=i⟩
def Itr (lo:Int) (n:Nat):It:=⟨fun i _=>i<n,fun i H x H'=>H'=H/\x= .int (lo+i),fun i _=>n<=i⟩
def Qt {P:aaE} {w:World} {K:aaa} {tg:Expr} (a it:Addr):Turn P w K tg (Itl K a) [it] it (fun i h=>h.IsListIter it a i) where
 mem:=by simp
 obj:=fun i h st b hb=>by
  have e:b=it:=by simpa using hb
  subst e;obtain ⟨o,e,c,d⟩:=st;exact ⟨o,e,fun v z=>by rw [d] at z;cases z⟩
 keep:=fun i h h' st k=>st.at fun o e=>k it (by simp) o e
 item:=by
  intro X hP hw hK hc i pins s σ H E I hf st hg;subst hP hw hK;obtain ⟨xs,x,hq,hx⟩:=hg;obtain ⟨its,rv,p,hz⟩:=I.list hq;obtain ⟨u,hu,ru⟩:=rv.get hx;obtain ⟨f0,f1,f2,f3,f4,f5⟩:=hf it (by simp);refine wpAny_pyNext_list_item st p.isList (x:=u) (by simpa using hu) fun h' st' sb=>?_
  have I1:Inv X pins σ H {s with heap:=h'}:=I.turned (t':=s.toks) (fun b o hb e=>(sb.2 b hb).trans e) f0 f1 f3 f4 f5;obtain ⟨o,e,c,d⟩:=id st';exact ⟨u,rfl,Xb (s:={s with heap:=h'}) e c d (by decide) ⟨x,H,I1,ru,⟨rfl,fun ys hy=>by rw [I.list_inj hy hq];exact hx⟩,st',fun b hb=>(hf b hb).1⟩⟩
 done:=by
  intro X hP hw hK hc i pins s σ H E I hf st hg;subst hP hw hK;obtain ⟨xs,hq,hx⟩:=hg;obtain ⟨its,rv,p,hz⟩:=I.list hq;obtain ⟨f0,f1,f2,f3,f4,f5⟩:=hf it (by simp);have hl:=rv.length;exact wpAny_pyNext_list_end (I.ok.hd hc) st p.isList (by simp;omega) fun h' eb=>⟨rfl,I.turned (t':=s.toks) (fun b o hb e=>eb b o hb e) f0 f1 f3 f4 f5⟩
 self:=fun _ _ _ _ _ st h=>wpAny_pyIter_listiter st h
def WQ {P:aaE} {w:World} {K:aaa} {tg:Expr} (a it:Addr):Turn P w K tg (Itt K a) [it] it (fun i h=>h.IsTupleIter it a i) where
 mem:=by simp
 obj:=fun i h st b hb=>by
  have e:b=it:=by simpa using hb
  subst e;obtain ⟨o,e,c,d⟩:=st;exact ⟨o,e,fun v z=>by rw [d] at z;cases z⟩
 keep:=fun i h h' st k=>st.at fun o e=>k it (by simp) o e
 item:=by
  intro X hP hw hK hc i pins s σ H E I hf st hg;subst hP hw hK;obtain ⟨xs,x,hq,hx⟩:=hg;obtain ⟨its,rv,p,hz⟩:=I.tuple hq;obtain ⟨u,hu,ru⟩:=rv.get hx;obtain ⟨f0,f1,f2,f3,f4,f5⟩:=hf it (by simp);refine wpAny_pyNext_tuple_item st (show s.heap.IsTuple a its.toArray from p) (x:=u) (by simpa using hu) fun h' st' sb=>?_
  have I1:Inv X pins σ H {s with heap:=h'}:=I.turned (t':=s.toks) (fun b o hb e=>(sb.2 b hb).trans e) f0 f1 f3 f4 f5;obtain ⟨o,e,c,d⟩:=id st';exact ⟨u,rfl,Xb (s:={s with heap:=h'}) e c d (by decide) ⟨x,H,I1,ru,⟨rfl,fun ys hy=>by rw [I.tuple_inj hy hq];exact hx⟩,st',fun b hb=>(hf b hb).1⟩⟩
 done:=by
  intro X hP hw hK hc i pins s σ H E I hf st hg;subst hP hw hK;obtain ⟨xs,hq,hx⟩:=hg;obtain ⟨its,rv,p,hz⟩:=I.tuple hq;obtain ⟨f0,f1,f2,f3,f4,f5⟩:=hf it (by simp);have hl:=rv.length;exact wpAny_pyNext_tuple_end (I.ok.hd hc) st (show s.heap.IsTuple a its.toArray from p) (by simp;omega) fun h' eb=>⟨rfl,I.turned (t':=s.toks) (fun b o hb e=>eb b o hb e) f0 f1 f3 f4 f5⟩
 self:=fun _ _ _ _ _ st h=>wpAny_pyIter_tupleiter st h
def WR {P:aaE} {w:World} {K:aaa} {tg:Expr} (it:Addr) (lo:Int) (n:Nat):Turn P w K tg (Itr lo n) [it] it (fun i h=>IsRangeIter h it (lo+(i:Nat)*1) ((n:Int)-(i:Nat)) 1) where
 mem:=by simp
 obj:=fun i h st b hb=>by
  have e:b=it:=by simpa using hb
  subst e
  exact ⟨_,st,fun v z=>by
   have z':Data.fields _=Data.cell v:=z
   cases z'⟩
 keep:=fun i h h' st k=>k it (by simp) _ st
 item:=by
  intro X hP hw hK hc i pins s σ H E I hf st hg;subst hP hw hK;obtain ⟨f0,f1,f2,f3,f4,f5⟩:=hf it (by simp);have W:=Walks.range (prog:=X.prog) (w:=X.w) (I.ok.hd hc) it lo 1 n;refine W.item i s _ _ hg st fun v h' tk hv st' kk=>?_
  obtain ⟨t,rfl⟩:=hv;have I1:Inv X pins σ H {s with heap:=h',toks:=tk}:=I.turned (fun b o hb e=>kk b o (by simpa using hb) e) f0 f1 f3 f4 f5;refine ⟨_,rfl,Xb (s:={s with heap:=h',toks:=tk}) (n:= "range_iterator") st' rfl rfl (by decide) ⟨.int (lo+i),H,I1,⟨t,?_⟩,⟨rfl,rfl⟩,st',fun b hb=>(hf b hb).1⟩⟩;rw [Int.mul_one]
 done:=by
  intro X hP hw hK hc i pins s σ H E I hf st hg;subst hP hw hK;obtain ⟨f0,f1,f2,f3,f4,f5⟩:=hf it (by simp);exact wpAny_pyNext_range_end (I.ok.hd hc) st (by have:n<=i:=hg;omega) fun h' eb=>⟨rfl,I.turned (t':=s.toks) (fun b o hb e=>eb b o hb e) f0 f1 f3 f4 f5⟩
 self:=fun _ _ _ _ _ st h=>wpAny_pyIter_rangeiter st h
section
variable {X:Cx} {tg:Expr}
def KB {pins:List (Addr×Obj)} {σ:St} {H:Hp} {s:aaf} {R:It->Hp->Prop} {E:XU} {lo hi:Int} {t u v:Tok} {tk:Nat} (I:Inv X pins σ H s) (h1: -(2^62)<=lo) (h2:lo<2^62) (h3: -(2^62)<=hi) (h4:hi<2^62)
   (q:R (Itr lo (hi-lo).toNat) H):wpAny (model X.prog X.w) X.A (pyIter (.ref s.heap.objs.size)) (PIE X pins σ tg R) E {s with heap:=s.heap.push {cls:= .type "range",data:= .fields #[.int lo t,.int hi u,.int 1 v]},toks:=tk}:=by
 refine wpAny_pyIter_range (IsRange.new ..) (small_one h1 h2 h3 h4) ?_;have I1:Inv X pins σ H {s with heap:=s.heap.push {cls:= .type "range",data:= .fields #[.int lo t,.int hi u,.int 1 v]},toks:=tk}:=I.kept fun b o e=>aah _ e
 refine ⟨(s.heap.push {cls:= .type "range",data:= .fields #[.int lo t,.int hi u,.int 1 v]}).objs.size,[(s.heap.push {cls:= .type "range",data:= .fields #[.int lo t,.int hi u,.int 1 v]}).objs.size],_,_,H,rfl,
   I1.kept (t':=tk) fun b o e=>aah _ e,WR _ lo (hi-lo).toNat,?_,fun b hb=>?_,q⟩
 · have e1:lo+((0:Nat):Int)*1=lo:=by simp
   have e2:(((hi-lo).toNat:Nat):Int)-((0:Nat):Int)=aaA lo hi 1:=by rw [rangeSize_one];split<;>omega
   show IsRangeIter _ _ (lo+((0:Nat):Int)*1) ((((hi-lo).toNat:Nat):Int)-((0:Nat):Int)) 1;rw [e1,e2];exact aay _ rfl
 · have e:b=(s.heap.push {cls:= .type "range",data:= .fields #[.int lo t,.int hi u,.int 1 v]}).objs.size:=by simpa using hb
   subst e;exact I1.fpOk (aan _) (I1.hok.fresh (aan _))
def uc (ta:TA):TI:=fun σ H R=>ta σ H fun vs H1=> ∃j:Int,vs=[.int j]/\ -(2^62)<=j/\j<2^62/\R (Itr 0 j.toNat) H1
def X8 {a:Expr} {ta:TA} {p pos:Pos} (hg:Gl X "range") (hm:X.mg "range" =none) (ha:PA X [a] ta) (hs:aag [a] X.env=[(false,eval a X.env)]:=by rfl):PI X tg (.Call (.Name "range" p) [a] [] pos) (uc ta):=by
 intro pins s σ H R I h;refine Call_ (QO I hg hm boot_range (abD (thn (ha pos pins s σ H _ I h) fun us s1 ⟨vs,H1,I1,r1,q1⟩=>?_) hs rfl));obtain ⟨j,e,q1,q2,q⟩:=q1;subst e
 cases r1 with
 |cons r rr=>
  cases rr;obtain ⟨t,rfl⟩:=r;exact call_range_1 (KB I1 (by omega) (by omega) q1 q2 (by simpa using q))
def tFor (wi:TI) (g:TG) (tb:TS):TS:=fun D σ H=>wi σ H fun J H1=> ∃W:Nat->Nat->St->Hp->Prop,(∃m,W 0 m σ H1)/\ ∀i m σ H,W i m σ H->
 (J.stop i H/\D.nx σ H)\/(J.go i H/\ ∃N:St->Hp->Prop,(∀σ' H',N σ' H'-> ∃m',m'<m/\W (i+1) m' σ' H')/\ ∀x H',J.yld i H x H'->g x σ H' fun σ2 H2=>tb {D with nx:=N,ct:=N,bk:=D.nx} σ2 H2)
def QC (fp:List Addr) (h:Heap):List (Addr×Obj):=fp.filterMap fun b=>(h.get? b).map fun o=>(b,o)
def xc {fp:List Addr} {h:Heap} {b:Addr} {o:Obj} (hb:b∈fp) (e:h.get? b=some o):(b,o)∈QC fp h:=acv.mpr ⟨b,hb,by rw [e];rfl⟩
def Ym {fp:List Addr} {h:Heap} {p:Addr×Obj} (hp:p∈QC fp h):p.1∈fp/\h.get? p.1=some p.2:=by
 obtain ⟨b,hb,e⟩:=acv.mp hp
 cases q:h.get? b with
 |none=>rw [q] at e;cases e
 |some o=>
  rw [q] at e;have e':(b,o)=p:=aaG e;subst e';exact ⟨hb,q⟩
def Inv.pinned {pins:List (Addr×Obj)} {σ:St} {H:Hp} {s:aaf} {fp:List Addr} (I:Inv X pins σ H s) (hf: ∀b∈fp,FpOk X pins H b) (ho: ∀b∈fp,∃o,s.heap.get? b=some o/\ ∀v,o.data≠ .cell v):Inv X (pins++QC fp s.heap) σ H s:=
 I.pins_of fun p hp=>(abn.mp hp).elim (fun z=>I.pin p (aaH _ z)) fun z=>by
  obtain ⟨hb,e⟩:=Ym z;obtain ⟨f0,f1,f2,_⟩:=hf p.1 hb;obtain ⟨o,e',d⟩:=ho p.1 hb;rw [e] at e';cases e';exact ⟨e,f0,f1,f2,d⟩
def Inv.unpinned {pins pl:List (Addr×Obj)} {σ:St} {H:Hp} {s:aaf} (I:Inv X (pins++pl) σ H s):Inv X pins σ H s:=I.pins_of fun p hp=>I.pin p (aaH _ (List.mem_append_left _ hp))
def kr {iter:Expr} {body:List Stmt} {wi:TI} {g:TG} {tb:TS} {pos:Pos} (hp:PassesOwn (model X.prog X.w) X.A X.env X.xe) (hc:X.calm=true) (hi:PI X tg iter wi) (hg:PG X tg g) (hb:PSs X body tb)
   (hs: ∀x,ab1 iter X.env x=pure x:=by intro _;rfl):PS X (.For tg iter body [] pos) (tFor wi g tb):=by
 intro pins s σ H D I h;refine wpAny_For (thn (hi pins s σ H _ I h) fun v s1 h1=>thn h1 fun itv s2 h2=>?_) hs;obtain ⟨it,fp,tn,J,H2,e,I2,T,st2,f2,W,⟨m0,w0⟩,turn⟩:=h2;subst e;have stat: ∀ {H':Hp},(∀b∈fp,H' b=none)-> ∀b∈fp,FpOk X pins H' b:=fun hn b hb=>⟨hn b hb,(f2 b hb).2⟩
 refine codeAny_forLoop_any (fun n s'=> ∃i σ' H',Inv X pins σ' H' s'/\tn i s'.heap/\(∀b∈fp,H' b=none)/\W i n σ' H') ?_ m0 ⟨0,σ,H2,I2,st2,fun b hb=>(f2 b hb).1,w0⟩;rintro n s3 ⟨i,σ3,H3,I3,st3,fr3,w3⟩;rcases turn i n σ3 H3 w3 with ⟨stop,qn⟩| ⟨go,N,hN,step⟩
 · refine abv hp (thn (T.done X rfl rfl rfl hc i pins s3 σ3 H3 X.xe I3 (stat fr3) st3 stop) fun r s4 ⟨hr,I4⟩=>?_);subst hr;exact acj ⟨σ3,H3,I4,qn⟩
 · refine abv hp (thn (T.item X rfl rfl rfl hc i pins s3 σ3 H3 X.xe I3 (stat fr3) st3 go) fun r s4 ⟨u,hr,h4⟩=>?_);subst hr;refine abv hp (thn h4 fun _ s5 ⟨x,H5,I5,r5,y5,st5,fr5⟩=>?_);have I5':=I5.pinned (stat fr5) (T.obj _ _ st5);refine abv hp (thn (hg _ s5 σ3 H5 x u _ I5' r5 (step x H5 y5)) fun _ s6 ⟨σ6,H6,I6,q6⟩=>?_);refine abv hp (thn (hb _ s6 σ6 H6 _ I6 q6) fun f s7 q7=>?_)
   have again: ∀ {σ7:St} {H7:Hp},Inv X (pins++QC fp s5.heap) σ7 H7 s7->N σ7 H7-> ∃m,m<n/\ ∃i σ' H',Inv X pins σ' H' s7/\tn i s7.heap/\(∀b∈fp,H' b=none)/\W i m σ' H':=fun {σ7 H7} I7 n7=>by
    obtain ⟨m',hm,w7⟩:=hN σ7 H7 n7;refine ⟨m',hm,i+1,σ7,H7,I7.unpinned,T.keep _ _ _ st5 fun b hb o e=>(I7.pin (b,o) (aaH _ (aaH _ (xc hb e)))).1,fun b hb=>?_,w7⟩;obtain ⟨o,e,d⟩:=T.obj _ _ st5 b hb;exact (I7.pin (b,o) (aaH _ (aaH _ (xc hb e)))).2.1
   cases f with
   |next=>obtain ⟨σ7,H7,I7,n7⟩:=q7;exact again I7 n7
   |cont=>obtain ⟨σ7,H7,I7,n7⟩:=q7;exact again I7 n7
   |brk=>obtain ⟨σ7,H7,I7,q7⟩:=q7;exact ⟨σ7,H7,I7.unpinned,q7⟩
   |ret v=>obtain ⟨x7,σ7,H7,I7,r7,q7⟩:=q7;exact ⟨x7,σ7,H7,I7.unpinned,r7,q7⟩
end
abbrev R2:=V->V->Hp->VK->Prop
def OpR (X:Cx) (f:Value->Value->Sem Value) (r:R2):Prop:=
 ∀(pins:List (Addr×Obj)) (s:aaf) (σ:St) (H:Hp) (x y:V) (v u:Value) (Q:VK),Inv X pins σ H s->RelV x v->RelV y u->r x y H Q->
  wpAny (model X.prog X.w) X.A (f v u) (EP X pins σ Q) X.xe s
def UnR (X:Cx) (f:Value->Sem Value) (r:V->Hp->VK->Prop):Prop:=
 ∀(pins:List (Addr×Obj)) (s:aaf) (σ:St) (H:Hp) (x:V) (v:Value) (Q:VK),Inv X pins σ H s->RelV x v->r x H Q->
  wpAny (model X.prog X.w) X.A (f v) (EP X pins σ Q) X.xe s
def CallR (X:Cx) (f:Value) (r:List V->Hp->VK->Prop):Prop:=
 ∀(pins:List (Addr×Obj)) (s:aaf) (σ:St) (H:Hp) (xs:List V) (us:List Value) (Q:VK),Inv X pins σ H s->Vals xs us->r xs H Q->
  wpAny (model X.prog X.w) X.A (call f us) (EP X pins σ Q) X.xe s
def TruR (X:Cx) (r:V->Hp->(Bool->Hp->Prop)->Prop):Prop:=
 ∀(pins:List (Addr×Obj)) (s:aaf) (σ:St) (H:Hp) (x:V) (v:Value) (Q:Bool->Hp->Prop),Inv X pins σ H s->RelV x v->r x H Q->
  wpAny (model X.prog X.w) X.A (truthy v) (TP X pins σ Q) X.xe s
def tOp (r:R2) (ta tb:TE):TE:=fun σ H Q=>ta σ H fun x H1=>tb σ H1 fun y H2=>r x y H2 Q
def tUn (r:V->Hp->VK->Prop) (ta:TE):TE:=fun σ H Q=>ta σ H fun x H1=>r x H1 Q
def rI (C:Int->Int->Prop) (g:Int->Int->V):R2:=fun x y H Q=> ∃i j,x= .int i/\y= .int j/\C i j/\Q (g i j) H
def rI0 (g:Int->Int->V):R2:=fun x y H Q=> ∃i j,x= .int i/\y= .int j/\Q (g i j) H
def rU (g:Int->V):V->Hp->VK->Prop:=fun x H Q=> ∃i,x= .int i/\Q (g i) H
section
variable {X:Cx} {a b c:Expr} {ta tb tc:TE} {pos:Pos}
def binT (ha:PE X a ta) (hb:PE X b tb) {pins:List (Addr×Obj)} {s:aaf} {σ:St} {H:Hp} {R:V->V->Hp->Prop} (I:Inv X pins σ H s)
  (h:ta σ H fun x H1=>tb σ H1 fun y H2=>R x y H2) {Q:XU} {f:Value->Value->Sem Value}
  (hf: ∀v u s2 x y H2,Inv X pins σ H2 s2->RelV x v->RelV y u->R x y H2->wpAny (model X.prog X.w) X.A (f v u) Q X.xe s2):
  wpAny (model X.prog X.w) X.A (eval a X.env) (fun v s₁=>wpAny (model X.prog X.w) X.A (eval b X.env) (fun u s₂=>wpAny (model X.prog X.w) X.A (f v u) Q X.xe s₂) X.xe s₁) X.xe s:=by
 refine thn (ha pins s σ H _ I h) fun v s1 ⟨x,H1,I1,r1,q1⟩=>?_
 refine thn (hb pins s1 σ H1 _ I1 q1) fun u s2 ⟨y,H2,I2,r2,q2⟩=>?_
 exact hf v u s2 x y H2 I2 r1 r2 q2
def KI {op:ab6} {r:R2} (ho:OpR X (abu op) r) (ha:PE X a ta) (hb:PE X b tb):PE X (.BinOp a op b pos) (tOp r ta tb):=by
 intro pins s σ H Q I h;exact wpAny_BinOp (binT ha hb I h fun v u s2 x y H2 I2 rx ry q=>ho pins s2 σ H2 x y v u Q I2 rx ry q)
def v3 {op:UnaryOp} {r:V->Hp->VK->Prop} (ho:UnR X (unaryOp op) r) (ha:PE X a ta):PE X (.UnaryOp op a pos) (tUn r ta):=by
 intro pins s σ H Q I h;exact UnaryOp_ (thn (ha pins s σ H _ I h) fun v s1 ⟨x,H1,I1,r1,q1⟩=>ho pins s1 σ H1 x v Q I1 r1 q1)
def opI {f:Value->Value->Sem Value} {C:Int->Int->Prop} {g:Int->Int->Int}
  (rule: ∀(i j:Int) (t u:Tok) (s:aaf) (Q:XU) (E:XU),C i j->Q (.int (g i j) s.toks) {s with toks:=s.toks+1}->wpAny (model X.prog X.w) X.A (f (.int i t) (.int j u)) Q E s):
  OpR X f (rI C fun i j=> .int (g i j)):=by
 intro pins s σ H x y v u Q I rx ry h;obtain ⟨i,j,rfl,rfl,hc,q⟩:=h;obtain ⟨t,rfl⟩:=rx;obtain ⟨t',rfl⟩:=ry;exact rule i j t t' s _ _ hc ⟨.int (g i j),H,I.tok _,⟨_,rfl⟩,q⟩
def opI0 {f:Value->Value->Sem Value} {g:Int->Int->Int}
  (rule: ∀(i j:Int) (t u:Tok) (s:aaf) (Q:XU) (E:XU),Q (.int (g i j) s.toks) {s with toks:=s.toks+1}->wpAny (model X.prog X.w) X.A (f (.int i t) (.int j u)) Q E s):
  OpR X f (rI0 fun i j=> .int (g i j)):=by
 intro pins s σ H x y v u Q I rx ry h;obtain ⟨i,j,rfl,rfl,q⟩:=h;obtain ⟨t,rfl⟩:=rx;obtain ⟨t',rfl⟩:=ry;exact rule i j t t' s _ _ ⟨.int (g i j),H,I.tok _,⟨_,rfl⟩,q⟩
def opB0 {f:Value->Value->Sem Value} {g:Int->Int->Bool}
  (rule: ∀(i j:Int) (t u:Tok) (s:aaf) (Q:XU) (E:XU),Q (.bool (g i j)) s->wpAny (model X.prog X.w) X.A (f (.int i t) (.int j u)) Q E s):
  OpR X f (rI0 fun i j=> .bl (g i j)):=by
 intro pins s σ H x y v u Q I rx ry h;obtain ⟨i,j,rfl,rfl,q⟩:=h;obtain ⟨t,rfl⟩:=rx;obtain ⟨t',rfl⟩:=ry;exact rule i j t t' s _ _ ⟨.bl (g i j),H,I,rfl,q⟩
def CDiv (i j:Int):Prop:=0<j/\j<1073741824
def CPow (i j:Int):Prop:=0<=j/\j<=1000000/\i.natAbs<2^64
def op_add:OpR X (abu .Add) (rI0 fun i j=> .int (i+j)):=opI0 fun _ _ _ _ _ _ _ q=>add_int q
def Wb:OpR X (abu .Sub) (rI0 fun i j=> .int (i-j)):=opI0 fun _ _ _ _ _ _ _ q=>sub_int q
def qV:OpR X (abu .FloorDiv) (rI CDiv fun i j=> .int (i/j)):=opI fun i j _ _ _ _ _ hc q=>by
 have h1:(0:Int)<j:=hc.1;have h2:j<1073741824:=hc.2;exact floordiv_int (by omega) (by rw [Int.fdiv_eq_ediv_of_nonneg i (by omega)];exact q) (.inl (PyProof.noPylong_small (by omega)))
def wC:OpR X (abu .Mod) (rI (fun _ j=>0<j) fun i j=> .int (i%j)):=opI fun i j _ _ _ _ _ hc q=>by
 have h1:(0:Int)<j:=hc;exact mod_int' (by omega) (by rw [Int.fmod_eq_emod_of_nonneg i (by omega)];exact q)
def kG:OpR X (abu .Pow) (rI CPow fun i j=> .int (i^j.toNat)):=opI fun _ _ _ _ _ _ _ hc q=>pow_int_small hc.1 hc.2.1 hc.2.2 q
def unI {f:Value->Sem Value} {g:Int->Int}
  (rule: ∀(i:Int) (t:Tok) (s:aaf) (Q:XU) (E:XU),Q (.int (g i) s.toks) {s with toks:=s.toks+1}->wpAny (model X.prog X.w) X.A (f (.int i t)) Q E s):
  UnR X f (rU fun i=> .int (g i)):=by
 intro pins s σ H x v Q I rx h;obtain ⟨i,rfl,q⟩:=h;obtain ⟨t,rfl⟩:=rx;exact rule i t s _ _ ⟨.int (g i),H,I.tok _,⟨_,rfl⟩,q⟩
def U8:UnR X (unaryOp .USub) (rU fun i=> .int (-i)):=unI fun _ _ _ _ _ q=>neg_int q
def vf {pins:List (Addr×Obj)} {σ:St} {H:Hp} {s:aaf} {Q:VK} {k k':Bool} (I:Inv X pins σ H s) (q:Q (.bl k) H) (e:k=k'):EP X pins σ Q (.bool k') s:=by
 subst e;exact ⟨.bl k,H,I,rfl,q⟩
def Yj:OpR X (abd .Lt) (rI0 fun i j=> .bl (decide (i<j))):=opB0 fun _ _ _ _ _ _ _ q=>lt_int q
def QD:OpR X (abd .LtE) (rI0 fun i j=> .bl (decide (i<=j))):=opB0 fun _ _ _ _ _ _ _ q=>le_int q
def Yk:OpR X (abd .Gt) (rI0 fun i j=> .bl (decide (j<i))):=opB0 fun _ _ _ _ _ _ _ q=>gt_int q
def QE:OpR X (abd .In) (fun x y H Q=> ∃i j,x= .str i/\y= .str j/\Q (.bl (!(abQ j i 0 j.length 1).isEmpty)) H):=by
 intro pins s σ H x y v u Q I rx ry h;obtain ⟨i,j,rfl,rfl,q⟩:=h;obtain ⟨t,rfl⟩:=rx;obtain ⟨t',rfl⟩:=ry;exact in_str (vf I q rfl)
def OpR.or {f:Value->Value->Sem Value} {r r':R2} (h:OpR X f r) (h':OpR X f r'):OpR X f (fun x y H Q=>r x y H Q\/r' x y H Q):=by
 intro pins s σ H x y v u Q I rx ry q;rcases q with q|q
 · exact h pins s σ H x y v u Q I rx ry q
 · exact h' pins s σ H x y v u Q I rx ry q
def VB (b:Expr) {op:CmpOp} (h:op≠ .In:=by decide) (h2:op≠ .NotIn:=by decide):abR op b=false:=by
 have e1:(op==CmpOp.In)=false:=by cases op<;>first|rfl|exact absurd rfl h
 have e2:(op==CmpOp.NotIn)=false:=by cases op<;>first|rfl|exact absurd rfl h2
 cases b<;>simp [abR,e1,e2]
def Ur {op:CmpOp} {r:R2} (ho:OpR X (abd op) r) (ha:PE X a ta) (hb:PE X b tb) (hm:abR op b=false):PE X (.Compare a [op] [b] pos) (tOp r ta tb):=by
 intro pins s σ H Q I h;exact wpAny_Compare1 (binT ha hb I h fun v u s2 x y H2 I2 rx ry q=>ho pins s2 σ H2 x y v u Q I2 rx ry q) hm
def VU (t:TE):TT:=fun σ H Q=>t σ H fun x H'=> ∃k,x= .bl k/\Q k H'
def Ui {op:CmpOp} {r:R2} (ho:OpR X (abd op) r) (ha:PE X a ta) (hb:PE X b tb) (hm:abR op b=false):PT X (.Compare a [op] [b] pos) (VU (tOp r ta tb)):=by
 intro pins s σ H Q I h
 refine wpAny_isTrue_Compare1 (thn (ha pins s σ H _ I h) fun v s1 ⟨x,H1,I1,r1,q1⟩=>thn (hb pins s1 σ H1 _ I1 q1) fun u s2 ⟨y,H2,I2,r2,q2⟩=>
  thn (ho pins s2 σ H2 x y v u _ I2 r1 r2 q2) fun c s3 ⟨z,H3,I3,r3,k,e,q3⟩=>?_) hm
 subst e;cases r3;exact aa1 ⟨H3,I3,q3⟩
def Xz (r r':R2) (ta tb tc:TE):TE:=fun σ H Q=>ta σ H fun x H1=>tb σ H1 fun y H2=>r x y H2 fun z H3=> ∃k,z= .bl k/\
 (if k=true then tc σ H3 fun w' H4=>r' y w' H4 Q else Q (.bl false) H3)
def KL {op op':CmpOp} {r r':R2} (ho:OpR X (abd op) r) (ho':OpR X (abd op') r') (ha:PE X a ta) (hb:PE X b tb) (hc:PE X c tc)
  (hm:lastMarks [op,op'] [b,c]=false:=by with_unfolding_all rfl):PE X (.Compare a [op,op'] [b,c] pos) (Xz r r' ta tb tc):=by
 intro pins s σ H Q I h
 refine Compare_chain (thn (ha pins s σ H _ I h) fun v s1 ⟨x,H1,I1,r1,q1⟩=>chain_link (thn (hb pins s1 σ H1 _ I1 q1) fun u s2 ⟨y,H2,I2,r2,q2⟩=>
  thn (ho pins s2 σ H2 x y v u _ I2 r1 r2 q2) fun d s3 ⟨z,H3,I3,r3,k,e,q3⟩=>?_)) hm
 subst e;cases r3;refine aa1 ?_
 cases k with
 |false=>exact ite_ff ⟨.bl false,H3,I3,rfl,q3⟩
 |true=>exact ite_tt (chain_last (thn (hc pins s3 σ H3 _ I3 q3) fun w' s4 ⟨z',H4,I4,r4,q4⟩=>ho' pins s4 σ H4 y z' u w' Q I4 r2 r4 q4))
def KF {op op':CmpOp} {r r':R2} (ho:OpR X (abd op) r) (ho':OpR X (abd op') r') (ha:PE X a ta) (hb:PE X b tb) (hc:PE X c tc)
  (hm:lastMarks [op,op'] [b,c]=false:=by with_unfolding_all rfl):PT X (.Compare a [op,op'] [b,c] pos) (VU (Xz r r' ta tb tc)):=by
 intro pins s σ H Q I h
 refine isTrue_chain (thn (ha pins s σ H _ I h) fun v s1 ⟨x,H1,I1,r1,q1⟩=>test_link (thn (hb pins s1 σ H1 _ I1 q1) fun u s2 ⟨y,H2,I2,r2,q2⟩=>
  thn (ho pins s2 σ H2 x y v u _ I2 r1 r2 q2) fun d s3 ⟨z,H3,I3,r3,k,e,q3⟩=>?_)) hm
 subst e;cases r3;refine aa1 ?_
 cases k with
 |false=>
  obtain ⟨k',e',q'⟩:=q3;cases e';exact ite_ff ⟨H3,I3,q'⟩
 |true=>
  refine ite_tt (test_last (thn (hc pins s3 σ H3 _ I3 q3) fun w' s4 ⟨z',H4,I4,r4,q4⟩=>thn (ho' pins s4 σ H4 y z' u w' _ I4 r2 r4 q4) fun d' s5 ⟨z2,H5,I5,r5,k2,e2,q5⟩=>?_));subst e2;cases r5;exact aa1 ⟨H5,I5,q5⟩
def TruV (K:aaa) (x:V) (H:Hp) (k:Bool):Prop:=
 match x with
 | .non=>k=false
 | .bl b=>k=b
 | .int i=>k=(i !=0)
 | .str y=>y.length<=aae/\k=((y.length:Int) !=0)
 | .byt y=>y.size<=aae/\k=((y.size:Int) !=0)
 | .ref p=>(∃xs,SqL K H p xs/\k=!xs.isEmpty)\/(∃xs,SqT K H p xs/\k=!xs.isEmpty)\/ ∃kvs,H p=some (.dK kvs)/\k=!kvs.isEmpty
 |_=>False
def W5 {κ:Type} {kvs:List (κ×V)} {vs:List (κ×Value)} (r:KV kvs vs):(!vs.isEmpty)=!kvs.isEmpty:=by
 cases r<;>rfl
def Jw {xs:List V} {its:List Value} (r:Vals xs its):(!its.toArray.isEmpty)=!xs.isEmpty:=by
 cases r<;>simp
def Jv:(aae:Nat)<2^63:=by rw [sizeLine_eq];decide
def ka:TruR X (fun x H Q=> ∃k,TruV X.K x H k/\Q k H):=by
 intro pins s σ H x v Q I rx h;obtain ⟨k,e,q⟩:=h;have hl:=Jv;have hs:aae=16777216:=sizeLine_eq
 cases x with
 |non=>
  cases rx;have e':k=false:=e;subst e';exact truthy_none ⟨H,I,q⟩
 |bl b=>
  cases rx;have e':k=b:=e;subst e';exact aa1 ⟨H,I,q⟩
 |int i=>
  obtain ⟨t,rfl⟩:=rx;have e':k=(i !=0):=e;subst e';exact PySem.P.truthy_int ⟨H,I,q⟩
 |str y=>
  obtain ⟨t,rfl⟩:=rx;obtain ⟨hy,e'⟩:y.length<=aae/\k=((y.length:Int) !=0):=e;subst e';exact PySem.P.truthy_str (by omega) ⟨H,I.tok _,q⟩
 |byt y=>
  obtain ⟨t,rfl⟩:=rx;obtain ⟨hy,e'⟩:y.size<=aae/\k=((y.size:Int) !=0):=e;subst e';exact PySem.W.truthy_bytes (by omega) ⟨H,I.tok _,q⟩
 |ref p=>
  cases rx;have e':(∃xs,SqL X.K H p xs/\k=!xs.isEmpty)\/(∃xs,SqT X.K H p xs/\k=!xs.isEmpty)\/ ∃kvs,H p=some (.dK kvs)/\k=!kvs.isEmpty:=e;rcases e' with ⟨xs,hx,e'⟩| ⟨xs,hx,e'⟩| ⟨kvs,hx,e'⟩
  · subst e';obtain ⟨its,r,pl,hz⟩:=I.list hx;have hlen:=r.length;exact wpAny_truthy_list pl.isList (by simp only [aac];omega) ⟨H,I.tok _,by rw [Jw r];exact q⟩
  · subst e';obtain ⟨its,r,pl,hz⟩:=I.tuple hx;have hlen:=r.length;exact truthy_tuple pl (by simp only [aac];omega) ⟨H,I.tok _,by rw [Jw r];exact q⟩
  · subst e';obtain ⟨hz,hS,vs,r,m⟩:kvs.length<=aae/\(p==sysModules)=false/\ ∃vs,KV kvs vs/\s.heap.DictOf (ZB X.prog X.w) p vs:=I.hok p _ hx;have hlen:kvs.length=vs.length:=Paired.length r;exact wpAny_truthy_dict hS m (by omega) ⟨H,I.tok _,by rw [W5 r];exact q⟩
 |_=>exact (show False from e).elim
def KD (ha:PE X a ta) (he: ∀whole,isTrue a X.env whole=(do let v←whole;acO a.pos;acP [v] (truthy v))):
  PT X a (fun σ H Q=>ta σ H fun x H'=> ∃k,TruV X.K x H' k/\Q k H'):=by
 intro pins s σ H Q I h;exact isTrue_plain (thn (ha pins s σ H _ I h) fun v s1 ⟨x,H1,I1,r1,q1⟩=>ka pins s1 σ H1 x v Q I1 r1 q1) (he _)
def op_add_str:OpR X (abu .Add) (fun x y H Q=> ∃i j,x= .str i/\y= .str j/\i.length+j.length<=aae/\Q (.str (i++j)) H):=by
 intro pins s σ H x y v u Q I rx ry h;obtain ⟨i,j,rfl,rfl,hz,q⟩:=h;obtain ⟨t,rfl⟩:=rx;obtain ⟨t',rfl⟩:=ry;exact add_str (fun t' tk=>⟨.str (i++j),H,I.tok _,⟨_,rfl⟩,q⟩) hz
def Zc {x:V} {us:List Value} (r:Vals [x] us): ∃u,us=[u]/\RelV x u:=by
 cases r with
 |cons r1 r2=>cases r2;exact ⟨_,rfl,r1⟩
def U7 {x y:V} {us:List Value} (r:Vals [x,y] us): ∃u w',us=[u,w']/\RelV x u/\RelV y w':=by
 cases r with
 |cons r1 r2=>
  cases r2 with
  |cons r3 r4=>cases r4;exact ⟨_,_,rfl,r1,r3⟩
def Kf (hc:X.calm=true):CallR X (.builtin "min") (fun xs H Q=> ∃i j,xs=[.int i,.int j]/\Q (.int (if j<i then j else i)) H):=by
 intro pins s σ H xs us Q I r h;obtain ⟨i,j,rfl,q⟩:=h;obtain ⟨u,w',rfl,⟨t,rfl⟩,⟨t',rfl⟩⟩:=U7 r;refine min_two_ints (I.ok.hd hc) fun h' tk k=>⟨_,H,I.kept k,?_,q⟩
 by_cases hj:j<i
 · rw [if_pos hj,if_pos hj];exact ⟨_,rfl⟩
 · rw [if_neg hj,if_neg hj];exact ⟨_,rfl⟩
def wV:CallR X (.type "str") (fun xs H Q=> ∃i,xs=[.int i]/\i.natAbs.log2<1920/\Q (.str (toString i)) H):=by
 intro pins s σ H xs us Q I r h;obtain ⟨i,rfl,hz,q⟩:=h;obtain ⟨u,rfl,t,rfl⟩:=Zc r;exact PySem.P.str_of_int hz ⟨.str _,H,I.tok _,⟨_,rfl⟩,q⟩
end
structure ObjM (h:Heap) (x dx C:Addr) (mA:Zj):Prop where
 obj:h.get? x=some (abm C dx)
 ns:h.Ns1 dx mA
 ne:dx≠x
def Yx {h:Heap} {dx:Addr} {mA:Zj} (n:h.Ns1 dx mA): ∃od,h.get? dx=some od/\ ∀name,acz name od=some (mA name):=by
 obtain ⟨o,es,ep,ho,hd,hk,_,hm⟩:=n;refine ⟨o,ho,fun name=>?_⟩;have e:=hm name;unfold nsFind findBy at e;rw [←Array.find?_toList] at e;unfold acz;rw [hd];dsimp only
 split
 · rename_i y q;rw [q] at e;exact congrArg some e
 · rename_i q;rw [q] at e
   have a:es.toList.any (·.refKey)=false:=by
    rw [List.any_eq_false];intro y hy;obtain ⟨z,t,hkey⟩:=hk y (Array.mem_toList_iff.mp hy);simp [DictEntry.refKey,hkey]
   have a': ¬es.toList.any (·.refKey)=true:=by rw [a];exact aaB
   rw [if_neg a'];exact congrArg some e
def ObjM.look {h:Heap} {x dx C:Addr} {mA:Zj} (I:ObjM h x dx C mA): ∃od,PySem.W.InstAt h x (abm C dx) C (some od)/\ ∀name,acz name od=some (mA name):=
 let ⟨od,ho,hl⟩:=Yx I.ns
 ⟨od,⟨I.obj,rfl,rfl,ho⟩,hl⟩
section
variable {prog:aaE} {w:World} {A:aa5} {E:XU} {s:aaf} {K:aaa} {x dx C f:Addr} {mA:Zj} {name:Str} {v:Value}
def UG {expr:Bool} {Q:XU} (X:K.In s.heap) (I:ObjM s.heap x dx C mA) (hg:abJ K C name=true) (hh:ab2 K C=true)
  (ha:aaP K (.ref C) name=some none) (hv:mA name=some v) (hv':PySem.W.handedIn v=true) (h:Q v {s with toks:=s.toks+1}):
  wpAny (model prog w) A (getAttr (.ref x) name expr) Q E s:=by
 obtain ⟨od,J,hl⟩:=I.look;exact PySem.W.get_value X J (acl hg).1 (PySem.W.findObj_own hh ha rfl (by rw [hl,hv])) hv' h
def K6 {pl:Sem Bool} {Q:Value×List Value->aaf->Prop} (X:K.In s.heap) (I:ObjM s.heap x dx C mA) (hg:abJ K C name=true)
  (hf:aaP K (.ref C) name=some (some (.ref f))) (ht:acQ K (.ref f)=true) (hv:mA name=none) (h:Q (.ref f,[.ref x]) s):
  wpAny (model prog w) A (getMethod (.ref x) name pl) Q E s:=by
 obtain ⟨od,J,hl⟩:=I.look;exact PySem.W.method_fn X J (acl hg).1 (acl hg).2 hf (beq_iff_eq.mp ht) (by show (acz name od).map (·.isSome)=some false;rw [hl,hv];rfl) h
def VY {ns:List Str} {Q:Unit->aaf->Prop} (X:K.In s.heap) (I:ObjM s.heap x dx C mA)
  (hs:aaP K (.ref C) "__setattr__" =some (some (.builtin "object.__setattr__"))) (hp:acB K C=true) (ht:acR K C name=some none) (hh:ab2 K C=true)
  (hw:PySem.Within mA ns) (hsz:ns.length<=aae)
  (h: ∀h',ObjM h' x dx C (fun y=>if y=name then some v else mA y)->acN dx s.heap h'->Q () {s with heap:=h',toks:=s.toks+2}):
  wpAny (model prog w) A (setAttr (.ref x) name v) Q E s:=by
 obtain ⟨od,J,hl⟩:=I.look;refine PySem.W.set_plain X J hs (PySem.W.osa_open (s:={s with toks:=s.toks+1}) (r:=none) X J hp ht fun b=>?_);obtain ⟨cd,hc,hd'⟩:=PySem.W.any_some hh;have hx:s.heap.get? x=some ⟨.ref C,some dx,.plain, #[]⟩:=I.obj;refine aap (aax (aap (aap (wpAny_loadPart hx (aap (PySem.W.Looks.here (s:={s with toks:=s.toks+1}) (PySem.W.looks_clsIn X hc) ?_))))));rw [hd'];refine aax (a:=some dx) (aap (aax (aap ?_)));refine wpAny_nsSet1 (s:={s with toks:=s.toks+1}) I.ns fun h' hn2 hs2=>?_
 obtain ⟨oD,esD,epD,hoD,hdD,hcD⟩:=hn2.count (PySem.Within.cons name v hw);refine aap (wpAny_lookBehind hoD (by rw [hdD];exact pastItsLine_dict (aau hcD (by rw [aab];omega))) ?_);exact aax (h _ ⟨(hs2.2 _ (Ne.symm I.ne)).trans I.obj,hn2,I.ne⟩ hs2)
def KY {R:Result->aaf->Prop} {vs:List Value} {kw:List (Str×Value)} (X:K.In s.heap) (hm:abS K C=true)
  (hi:aaP K (.ref C) "__init__" =some (some (.ref f))) (hf:PySem.W.typeIn K (.ref f)=some (.type "function"))
  (h:codeAny (model prog w) (A.under (.builtin "type.__call__" ⟨.ref C::vs,kw⟩)) (.call (.ref f) ⟨.ref (s.heap.objs.size+1)::vs,kw⟩) (PySem.W.InitBack (s.heap.objs.size+1) R)
   {s with heap:=(s.heap.push aa2).push (abm C s.heap.objs.size)}):
  codeAny (model prog w) A (.call (.ref C) ⟨vs,kw⟩) R s:=by
 obtain ⟨hh,g,d,t,os⟩:=s;exact PySem.W.make_core (PySem.W.makes_of X hm) (PySem.W.looks_findIn X hi) (fun self=>PySem.W.bind_fn X self hf) (.inl rfl) h
end
def putF (f:Str) (v:V):List (Str×V)->List (Str×V)
 | []=>[(f,v)]
 | (g,x)::r=>if g=f then (g,v)::r else (g,x)::putF f v r
theorem yP (f g:Str) (v:V): ∀fs:List (Str×V),(putF f v fs).lookup g=if g=f then some v else fs.lookup g
 | []=>by
  show abz g [(f,v)]=_
  by_cases h:g=f
  · have hb:(g==f)=true:=beq_iff_eq.mpr h;simp only [abz,hb,if_pos h]
  · have hb:(g==f)=false:=beq_eq_false_iff_ne.mpr h;simp only [abz,hb,if_neg h]
 | (k,x)::r=>by
  have ih:=yP f g v r;rw [show putF f v ((k,x)::r)=(if k=f then (k,v)::r else (k,x)::putF f v r) from rfl]
  by_cases hk:k=f
  · rw [if_pos hk]
    by_cases h:g=k
    · have hb:(g==k)=true:=beq_iff_eq.mpr h;simp only [abz,hb,if_pos (h.trans hk)]
    · have hb:(g==k)=false:=beq_eq_false_iff_ne.mpr h;simp only [abz,hb,if_neg (fun e:g=f=>h (e.trans hk.symm))]
  · rw [if_neg hk]
    by_cases h:g=k
    · have hb:(g==k)=true:=beq_iff_eq.mpr h;simp only [abz,hb,if_neg (fun e:g=f=>hk (h.symm.trans e))]
    · have hb:(g==k)=false:=beq_eq_false_iff_ne.mpr h;simp only [abz,hb];exact ih
theorem yS (f:Str) (v:V): ∀fs:List (Str×V),f∈(putF f v fs).map (·.1)/\ ∀g,g∈fs.map (·.1)->g∈(putF f v fs).map (·.1)
 | []=>⟨by simp [putF],fun g h=>by simp at h⟩
 | (k,x)::r=>by
  obtain ⟨i1,i2⟩:=yS f v r;rw [show putF f v ((k,x)::r)=(if k=f then (k,v)::r else (k,x)::putF f v r) from rfl]
  by_cases hk:k=f
  · rw [if_pos hk];subst hk;exact ⟨by simp,fun g h=>by simpa using h⟩
  · rw [if_neg hk];refine ⟨?_,fun g h=>?_⟩
    · rw [aaL];exact aaI _ i1
    · rw [aaL] at h ⊢;rcases aaw.mp h with e|e
      · exact aaw.mpr (.inl e)
      · exact aaI _ (i2 g e)
theorem yR (f:Str) (v:V): ∀fs:List (Str×V),(putF f v fs).length<=fs.length+1
 | []=>by simp [putF]
 | (k,x)::r=>by
  have ih:=yR f v r;rw [show putF f v ((k,x)::r)=(if k=f then (k,v)::r else (k,x)::putF f v r) from rfl]
  by_cases hk:k=f
  · rw [if_pos hk,aab,aab];omega
  · rw [if_neg hk,aab,aab];omega
def RelO.some_of {v:V} {o:Option Value} (r:RelO (some v) o): ∃u,o=some u/\RelV v u:=by
 cases o with
 |none=>exact (show False from r).elim
 |some u=>exact ⟨u,rfl,r⟩
def RelO.none_of {o:Option Value} (r:RelO none o):o=none:=by
 cases o with
 |none=>rfl
 |some u=>exact (show False from r).elim
def YJ {v:V} {u:Value} (r:RelV v u):PySem.W.handedIn u=true:=by
 cases v with
 |non=>cases (show u=acU from r);rfl
 |bl b=>cases (show u=abF b from r);rfl
 |int i=>obtain ⟨t,e⟩:=(show∃t,u=acL i t from r);cases e;rfl
 |str x=>obtain ⟨t,e⟩:=(show∃t,u=Value.str x t from r);cases e;rfl
 |byt b=>obtain ⟨t,e⟩:=(show∃t,u=Value.bytes b t from r);cases e;rfl
 |flt b=>obtain ⟨t,e⟩:=(show∃t,u=Value.float b t from r);cases e;rfl
 |ref a=>cases (show u=aa8 a from r);rfl
 |ty n=>cases (show u=acV n from r);rfl
section
variable {P:aaE} {w:World} {H H':Hp} {h h':Heap} {a C dx:Addr} {fs fs':List (Str×V)}
def J5 (hok:HOk P w H h) (e:H a=some (.ins C dx fs)): ∃mA,ObjM h a dx C mA/\(∀f,RelO (fs.lookup f) (mA f))/\PySem.Within mA (fs.map (·.1))/\fs.length<=1000/\H dx=some (.own a):=by
 obtain ⟨d,z,ne,ob,mA,n,r,q⟩:=(show ObjOk P w H h a (.ins C dx fs) from hok a _ e)
 exact ⟨mA,⟨ob,n,ne⟩,r,q,z,d⟩
end
structure Cls (K:aaa) (C:Addr):Prop where
 pg:abJ K C Str.empty=true
 hd:ab2 K C=true
 po:acB K C=true
 sa:aaP K (.ref C) "__setattr__" =some (some (.builtin "object.__setattr__"))
def Cls.get {K:aaa} {C:Addr} (c:Cls K C) (f:Str):abJ K C f=true:=c.pg
def NoAttr (K:aaa) (C:Addr) (f:Str):Prop:=aaP K (.ref C) f=some none
def NoAttr.taker {K:aaa} {C:Addr} {f:Str} (n:NoAttr K C f):acR K C f=some none:=by
 unfold acR;rw [show aaP K (.ref C) f=some none from n];rfl
structure Meth (K:aaa) (C:Addr) (m:Str) (f:Addr):Prop where
 at_:aaP K (.ref C) m=some (some (.ref f))
 fn:acQ K (.ref f)=true
 kp:aaK K (.ref f)=true
section
variable {X:Cx} {pins:List (Addr×Obj)} {σ:St} {H:Hp} {s:aaf} {a C dx:Addr} {fs:List (Str×V)} {f:Str} {v:V} {A:aa5} {E:XU}
def JB {b:Bool} {Q:XU} (I:Inv X pins σ H s) (e:H a=some (.ins C dx fs)) (c:Cls X.K C) (n:NoAttr X.K C f) (l:fs.lookup f=some v)
  (h: ∀u s',Inv X pins σ H s'->RelV v u->Q u s'):wpAny (model X.prog X.w) A (getAttr (.ref a) f b) Q E s:=by
 obtain ⟨mA,O,r,_,_,_⟩:=J5 I.hok e;obtain ⟨u,hu,ru⟩:=RelO.some_of (v:=v) (o:=mA f) (by rw [←l];exact r f);exact UG I.kIn O (c.get f) c.hd n hu (YJ ru) (h u _ (I.tok _) ru)
def JA {m:Str} {g:Addr} {pl:Sem Bool} {Q:Value×List Value->aaf->Prop} (I:Inv X pins σ H s) (e:H a=some (.ins C dx fs)) (c:Cls X.K C) (k:Meth X.K C m g) (l:fs.lookup m=none)
  (h:Q (.ref g,[.ref a]) s):wpAny (model X.prog X.w) A (getMethod (.ref a) m pl) Q E s:=by
 obtain ⟨mA,O,r,_,_,_⟩:=J5 I.hok e;have hn:mA m=none:=RelO.none_of (by rw [←l];exact r m);exact K6 I.kIn O (c.get m) k.at_ k.fn hn h
def Jr {y:V} {u:Value} {Q:Unit->aaf->Prop} (I:Inv X pins σ H s) (e:H a=some (.ins C dx fs)) (c:Cls X.K C) (n:NoAttr X.K C f) (hl:fs.length<1000) (ry:RelV y u)
   (h: ∀s',Inv X pins σ (upd H a (.ins C dx (putF f y fs))) s'->Q () s'):wpAny (model X.prog X.w) A (setAttr (.ref a) f u) Q E s:=by
 obtain ⟨mA,O,r,wi,_,ho⟩:=J5 I.hok e;have hz:(fs.map (·.1)).length<=aae:=by rw [aaC,sizeLine_eq];omega
 refine VY I.kIn O c.sa c.po n.taker c.hd wi hz fun h' O' sb=>h _ ?_
 have hd: ∃o,h'.get? dx=some o:=let ⟨o,_,_,e',_⟩:=O'.ns;⟨o,e'⟩
 refine I.write (x:=a) (e:=dx) (by rw [e];exact ach) (.inr ho) (fun b q hb z=>(sb.2 b hb).trans z) hd ?_;refine ⟨by rw [jK O.ne];exact ho,?_,O.ne,O'.obj,_,O'.ns,fun g=>?_,fun g hg=>?_⟩
 · have:=yR f y fs;omega
 · show RelO ((putF f y fs).lookup g) (if g=f then some u else mA g);rw [yP]
   by_cases q:g=f
   · rw [if_pos q,if_pos q];exact ry
   · rw [if_neg q,if_neg q];exact r g
 · by_cases q:g=f
   · rw [q];exact (yS f y fs).1
   · refine (yS f y fs).2 g (wi g fun z=>hg ?_);show (if g=f then some u else mA g)=none;rw [if_neg q];exact z
def Inv.made (I:Inv X pins σ H s):Inv X pins σ (upd (upd H s.heap.objs.size (.own (s.heap.objs.size+1))) (s.heap.objs.size+1) (.ins C s.heap.objs.size []))
  {s with heap:=(s.heap.push aa2).push (abm C s.heap.objs.size)}:=by
 have e1:(s.heap.push aa2).get? s.heap.objs.size=some aa2:=aay s.heap rfl
 have e2:((s.heap.push aa2).push (abm C s.heap.objs.size)).get? (s.heap.objs.size+1)=some (abm C s.heap.objs.size):=by
  have:=aay (s.heap.push aa2) (o:=abm C s.heap.objs.size) rfl
  rwa [Heap.size_push] at this
 have e3:(s.heap.push aa2).Ns s.heap.objs.size (fun _=>none):=⟨aa2, #[],_,e1,rfl,(fun e he=>absurd he (by simp)),fun _=>rfl⟩
 have I1:=I.laid (a:=s.heap.objs.size) (o:= .own (s.heap.objs.size+1)) (h':=s.heap.push aa2) (t':=s.toks) (fun b u q=>aah _ q) (aan _) ⟨_,e1⟩;refine I1.laid (a:=s.heap.objs.size+1) (o:= .ins C s.heap.objs.size []) (t':=s.toks) (fun b u q=>aah _ q) (Nat.le_of_eq (Heap.size_push _ _)) ?_;have ne:s.heap.objs.size≠s.heap.objs.size+1:=aaU (aca _);refine ⟨by rw [jK ne,jF],acF _,ne,e2,fun _=>none,(Heap.Ns1.of_empty e3).at fun o q=>aah _ q,fun _=>ach,fun y hy=>absurd rfl hy⟩
def UZ {prog:aaE} {w:World} {env:Env} {e:Expr} {f:Str} {pos:Pos} {s:aaf} {Q:XU} (hb:aaY e f env (eval e env)=eval e env)
  (h:wpAny (model prog w) A (eval e env) (fun o s₁=>wpAny (model prog w) A (getAttr o f true) Q E s₁) E s):wpAny (model prog w) A (eval (.Attribute e f pos) env) Q E s:=
 Attribute_any_ h (by rw [arm_eval_Attribute,hb])
end
def tFld (K:aaa) (ta:TE) (f:Str):TE:=fun σ H Q=>ta σ H fun x H1=> ∃a C dx fs v,x= .ref a/\H1 a=some (.ins C dx fs)/\Cls K C/\NoAttr K C f/\fs.lookup f=some v/\Q v H1
def sFld (K:aaa) (ta tv:TE) (f:Str):TS:=fun D σ H=>tv σ H fun y H1=>ta σ H1 fun x H2=> ∃a C dx fs,x= .ref a/\H2 a=some (.ins C dx fs)/\Cls K C/\NoAttr K C f/\fs.length<1000/\
 D.nx σ (upd H2 a (.ins C dx (putF f y fs)))
def InOp (X:Cx) (op:ab6) (rd:V->V->Hp->VK->Prop):Prop:=
 ∀(pins:List (Addr×Obj)) (s:aaf) (σ:St) (H:Hp) (x y:V) (u v:Value) (Q:VK),Inv X pins σ H s->RelV x u->RelV y v->rd x y H Q->wpAny (model X.prog X.w) X.A (inplaceOp op u v) (EP X pins σ Q) X.xe s
def Ua (K:aaa) (ta tv:TE) (rd:V->V->Hp->VK->Prop) (f:Str):TS:=fun D σ H=>ta σ H fun x H1=> ∃a C dx fs v,x= .ref a/\H1 a=some (.ins C dx fs)/\Cls K C/\NoAttr K C f/\fs.lookup f=some v/\
 tv σ H1 fun y H2=>rd v y H2 fun z H3=> ∃dx' fs',H3 a=some (.ins C dx' fs')/\fs'.length<1000/\D.nx σ (upd H3 a (.ins C dx' (putF f z fs')))
section
variable {X:Cx} {o e value:Expr} {f:Str} {pos pos' tpos:Pos} {ta tv:TE}
def kE (he:PE X e ta) (hb:aaY e f X.env (eval e X.env)=eval e X.env):PE X (.Attribute e f pos) (tFld X.K ta f):=by
 intro pins s σ H Q I h;refine UZ hb (thn (he pins s σ H _ I h) fun u s1 ⟨x,H1,I1,rx,a,C,dx,fs,v,ex,ea,c,n,l,q⟩=>?_);subst ex;obtain rfl:u=aa8 a:=rx;exact JB I1 ea c n l fun u' s2 I2 ru=>⟨v,H1,I2,ru,q⟩
def kt (ha:PE X o ta) (hv:PE X value tv) (hs:abB value (some (.Attribute o f pos')) pos.line X.env=pure false):PS X (.Assign [.Attribute o f pos'] value pos) (sFld X.K ta tv f):=by
 intro pins s σ H D I h;refine plainObj_wpAny_Assign_Attribute (thn (hv pins s σ H _ I h) fun u s1 ⟨y,H1,I1,ry,q⟩=>thn (ha pins s1 σ H1 _ I1 q) fun ov s2 ⟨x,H2,I2,rx,a,C,dx,fs,ex,ea,c,n,l,q2⟩=>?_) hs;subst ex;obtain rfl:ov=aa8 a:=rx;exact Jr I2 ea c n l ry fun s3 I3=>⟨σ,_,I3,q2⟩
def X4 {op:ab6} {rd:V->V->Hp->VK->Prop} (ha:PE X o ta) (hv:PE X value tv) (hop:InOp X op rd):PS X (.AugAssign (.Attribute o f tpos) op value pos) (Ua X.K ta tv rd f):=by
 intro pins s σ H D I h;refine wpAny_AugAssign_AttributeAny (thn (ha pins s σ H _ I h) fun ov s1 ⟨x,H1,I1,rx,a,C,dx,fs,v,ex,ea,c,n,l,q⟩=>?_);subst ex;obtain rfl:ov=aa8 a:=rx;refine JB I1 ea c n l fun u s2 I2 ru=>thn (hv pins s2 σ H1 _ I2 q) fun w3 s3 ⟨y,H2,I3,ry,q3⟩=>thn (hop pins s3 σ H2 v y u w3 _ I3 ru ry q3) fun w4 s4 ⟨z,H3,I4,rz,dx',fs',ea',l',q4⟩=>?_
 exact Jr I4 ea' c n l' rz fun s5 I5=>⟨σ,_,I5,q4⟩
def rAdd:V->V->Hp->VK->Prop:=fun x y H Q=> ∃i j,x= .int i/\y= .int j/\Q (.int (i+j)) H
def k5:InOp X .Add rAdd:=by
 rintro pins s σ H x y u v Q I rx ry ⟨i,j,rfl,rfl,q⟩;obtain ⟨t,rfl⟩:=(show∃t,u=acL i t from rx)
 obtain ⟨t',rfl⟩:=(show∃t',v=acL j t' from ry)
 exact PyProof.Rows.iadd_int ⟨.int (i+j),H,I.tok _,⟨_,rfl⟩,q⟩
end
section
variable {X:Cx} {pins:List (Addr×Obj)} {σ:St} {H:Hp} {s:aaf} {A:aa5} {E:XU} {Q:XU} {c:Value} {b:Bool}
inductive TyOf (K:aaa) (H:Hp):V->Value->Prop where
 |non:TyOf K H .non (.type "NoneType")
 |bl (x:Bool):TyOf K H (.bl x) (.type "bool")
 |int (i:Int):TyOf K H (.int i) (.type "int")
 |str (x:Str):TyOf K H (.str x) (.type "str")
 |flt (x:UInt64):TyOf K H (.flt x) (.type "float")
 |lst {a:Addr} {xs:List V} (e:H a=some (.lst xs)):TyOf K H (.ref a) (.type "list")
 |frz {a:Addr} {o:Obj} {xs:List V} (e:H a=some (.frz o (.lst xs))):TyOf K H (.ref a) (.type "list")
 |tup {a:Addr} {xs:List V} (e:H a=some (.tup xs)):TyOf K H (.ref a) (.type "tuple")
 |dK {a:Addr} {kvs:List (Key×V)} (e:H a=some (.dK kvs)):TyOf K H (.ref a) (.type "dict")
 |dT {a:Addr} {kvs:List (List Key×V)} (e:H a=some (.dT kvs)):TyOf K H (.ref a) (.type "dict")
 |ins {a C dx:Addr} {fs:List (Str×V)} (e:H a=some (.ins C dx fs)) (cl:Cls K C) (ha:aaP K (.ref C) "__class__" =some (some (.builtin "object.__class__")))
  (hn:PySem.W.specialIn K (.builtin "object.__class__") "__get__" =some (some (.builtin "getset_descriptor.__get__"))) (htk:PySem.W.takesIn K (.builtin "object.__class__")=some true)
  (hm:PySem.W.mroIn K C (.type "object")=some true):TyOf K H (.ref a) (.ref C)
def Yz {x:V} {u t:Value} (I:Inv X pins σ H s) (rx:RelV x u) (ty:TyOf X.K H x t) (e:abk X.K t c=some b) (h: ∀tk,Q (.bool b) {s with toks:=tk}):
  wpAny (model X.prog X.w) A (call (.builtin "isinstance") [u,c]) Q E s:=by
 cases ty with
 |non=>cases (show u=acU from rx);exact aaX PySem.W.kitx_none I.kIn ach e (fun z=>nomatch z) h
 |bl y=>cases (show u=abF y from rx);exact aaX PySem.W.kitx_bool I.kIn ach e (fun z=>nomatch z) h
 |int i=>obtain ⟨t,q⟩:=(show∃t,u=acL i t from rx);cases q;exact aaX PySem.W.kitx_int I.kIn ach e (fun z=>nomatch z) h
 |str y=>obtain ⟨t,q⟩:=(show∃t,u=Value.str y t from rx);cases q;exact aaX PySem.W.kitx_str I.kIn ach e (fun z=>nomatch z) h
 |flt y=>obtain ⟨t,q⟩:=(show∃t,u=Value.float y t from rx);cases q;exact aaX PySem.W.kitx_float I.kIn ach e (fun z=>nomatch z) h
 | @lst a xs ea=>
  cases (show u=aa8 a from rx);obtain ⟨_,_,n,_,h1⟩:=(show ObjOk X.prog X.w H s.heap a (.lst xs) from I.hok a _ ea)
  exact aaX PySem.W.kitx_list I.kIn ⟨_,h1,rfl⟩ e (fun z=>nomatch z) h
 | @frz a ob xs ea=>
  cases (show u=aa8 a from rx);obtain ⟨_,_,_,n,_,h1⟩:=(show ObjOk X.prog X.w H s.heap a (.frz ob (.lst xs)) from I.hok a _ ea)
  exact aaX PySem.W.kitx_list I.kIn ⟨_,h1,rfl⟩ e (fun z=>nomatch z) h
 | @tup a xs ea=>
  cases (show u=aa8 a from rx);obtain ⟨_,_,_,p⟩:=(show ObjOk X.prog X.w H s.heap a (.tup xs) from I.hok a _ ea)
  obtain ⟨o,h1,h2,_⟩:=p;exact aaX PySem.W.kitx_tuple I.kIn ⟨o,h1,h2⟩ e (fun z=>nomatch z) h
 | @dK a kvs ea=>
  cases (show u=aa8 a from rx);obtain ⟨_,_,vs,_,p⟩:=(show ObjOk X.prog X.w H s.heap a (.dK kvs) from I.hok a _ ea)
  obtain ⟨o,es,ep,h1,h2,_⟩:=p;exact aaX PySem.W.kitx_dict I.kIn ⟨o,h1,h2.1⟩ e (fun z=>nomatch z) h
 | @dT a kvs ea=>
  cases (show u=aa8 a from rx);obtain ⟨_,_,xs,_,o,es,ep,h1,h2,_⟩:=(show ObjOk X.prog X.w H s.heap a (.dT kvs) from I.hok a _ ea)
  exact aaX PySem.W.kitx_dict I.kIn ⟨o,h1,h2.1⟩ e (fun z=>nomatch z) h
 | @ins a C dx fs ea cl ha hn htk hm=>
  cases (show u=aa8 a from rx);obtain ⟨mA,O,_⟩:=J5 I.hok ea;obtain ⟨od,J,_⟩:=O.look;exact aaX (PySem.W.kitx_own (cl.get _) cl.hd ha hn htk hm) I.kIn J e (fun z=>nomatch z) h
end
structure Room (k:Nat) (A:aa5):Prop where
 hd:A.handled=none
 dp:A.depth+3*k+5<recursionLimit
 un:A.units+16*k+200<cLine
def Room.mono {j k:Nat} {A:aa5} (r:Room k A) (h:j<=k):Room j A:=⟨r.hd,by have:=r.dp;omega,by have:=r.un;omega⟩
def Room.deeper {k:Nat} {A:aa5} (r:Room (k+1) A) (env:Env):Room k (A.deeper env):=
 ⟨r.hd,by have:=r.dp;show A.depth+1+3*k+5<_;omega,by have:=r.un;show A.units+3+16*k+200<_;omega⟩
def W4 {A:aa5} {C:Addr} {us:List Value} {kw:List (Str×Value)}:(A.under (.builtin "type.__call__" ⟨.ref C::us,kw⟩)).depth=A.depth+1:=by
 first|rfl|simp [Around.under,Code.weight,Code.isCreation,Code.isGuard,Code.isCaller,Code.frames,Code.isFrame,guardIds]
def W3 {A:aa5} {C:Addr} {us:List Value} {kw:List (Str×Value)}:(A.under (.builtin "type.__call__" ⟨.ref C::us,kw⟩)).units=A.units+1:=by
 first|rfl|simp [Around.under,Code.cUnits,Code.frames,Code.isFrame]
def Room.make {k:Nat} {A:aa5} (r:Room (k+1) A) (C:Addr) (us:List Value) (kw:List (Str×Value)):Room k (A.under (.builtin "type.__call__" ⟨.ref C::us,kw⟩)):=
 ⟨r.hd,by have:=r.dp;rw [W4];omega,by have:=r.un;rw [W3];omega⟩
def Room.depth {k:Nat} {A:aa5} (r:Room k A):A.depth<recursionLimit:=by have:=r.dp;omega
def tNil:TA:=fun _ H Q=>Q [] H
def vQ (ta:TE) (tr:TA):TA:=fun σ H Q=>ta σ H fun x H1=>tr σ H1 fun xs H2=>Q (x::xs) H2
section
variable {X:Cx} {e:Expr} {es:List Expr} {te:TE} {t:TA} {pos:Pos}
def yD:PA X [] tNil:=fun _ _ _ _ H Q I h=>Calls.spliced_nil ⟨[],H,I,.nil,h⟩
def wB (ha:PE X e te) (hr:PA X es t) (hs:WV X e es:=by rfl):PA X (e::es) (vQ te t):=by
 intro pos pins s σ H Q I h;rw [hs];show wpAny _ _ (spliced ((false,eval e X.env)::aa7 pos (aag es X.env))) _ _ s;refine Calls.spliced_cons (thn (ha pins s σ H _ I h) fun u s1 ⟨x,H1,I1,r1,q1⟩=>?_);exact thn (hr pos pins s1 σ H1 _ I1 q1) fun us s2 ⟨xs,H2,I2,r2,q2⟩=>⟨x::xs,H2,I2,.cons r1 r2,q2⟩
def tTup (t:TA):TE:=fun σ H Q=>t σ H fun xs H1=>xs.length<=aae/\ ∀p,H1 p=none->Q (.ref p) (upd H1 p (.tup xs))
def tLst (t:TA):TE:=fun σ H Q=>t σ H fun xs H1=>xs.length<=aae/\ ∀p,H1 p=none->Q (.ref p) (upd H1 p (.lst xs))
def Vw {x1} (h:PA X es t):PE X (.Tuple es x1 pos) (tTup t):=by
 intro pins s σ H Q I hq;refine wpAny_Tuple_spliced (thn (h pos pins s σ H _ I hq) fun us s1 ⟨xs,H1,I1,r,z,q⟩=>⟨by rw [←r.length];exact z,?_⟩);have hf:H1 s1.heap.objs.size=none:=I1.hok.fresh (aan _);refine ⟨.ref s1.heap.objs.size,upd H1 s1.heap.objs.size (.tup xs),I1.laid (t':=s1.toks) (fun b u e=>aah _ e) (aan _) ?_,rfl,q _ hf⟩;exact ⟨z,us,r,⟨_,aay _ rfl,rfl,_,rfl⟩⟩
def Vx (h:PA X es t):PE X (.List es pos) (tLst t):=by
 intro pins s σ H Q I hq;refine wpAny_List_spliced (thn (h pos pins s σ H _ I hq) fun us s1 ⟨xs,H1,I1,r,z,q⟩=>⟨by rw [←r.length];exact z,?_⟩);have hf:H1 s1.heap.objs.size=none:=I1.hok.fresh (aan _);refine ⟨.ref s1.heap.objs.size,upd H1 s1.heap.objs.size (.lst xs),I1.laid (t':=s1.toks) (fun b u e=>aah _ e) (aan _) ?_,rfl,q _ hf⟩;exact ⟨z,us,0,r,aay _ rfl⟩
end
abbrev Sp:=List V->Hp->VK->XK->Prop
abbrev CXT:=List Env->Hp->aaf->XK->Value->aaf->Prop
structure Env0 (P:aaE) (w:World) (K:aaa) (mg:Zj) (base:Heap) (A:aa5) (outer:List Env) (s:aaf) (H:Hp):Prop where
 frames:A.frames=some outer
 mod:Mod K mg base
 bs: ∀b o,base.get? b=some o->s.heap.get? b=some o/\H b=none
 bsz:base.objs.size<=s.heap.objs.size
 funs:s.heap.FunFrames base outer
 frf: ∀b∈frs outer,H b=none
 hok:HOk P w H s.heap
 bare:acM s.gens
def CE (outer:List Env) (P:aaE) (w:World) (H:Hp) (s:aaf) (Q:VK) (u:Value) (s':aaf):Prop:=
 ∃v H',s'.os=s.os/\acM s'.gens/\Un (frs outer) [] H H' s.heap s'.heap/\HOk P w H' s'.heap/\RelV v u/\Q v H'
def CR (CX:CXT) (outer:List Env) (P:aaE) (w:World) (H:Hp) (s:aaf) (Q:VK) (E:XK) (r:Result) (s':aaf):Prop:=
 match r with
 | .ok (.ret u)=>CE outer P w H s Q u s'
 | .ok _=>False
 | .error e=>CX outer H s E e s'
structure FnOk (P:aaE) (w:World) (K:aaa) (mg:Zj) (base:Heap) (CX:CXT) (k:Nat) (f:Addr) (fd:abo) (ps:List Str) (sp:Sp):Prop where
 len: ∀vs H Q E,sp vs H Q E->vs.length=ps.length
 run: ∀(A:aa5) (outer:List Env) (s:aaf) (H:Hp) (args:Args) (us:List Value) (vs:List V) (Q:VK) (E:XK),Room k A->Env0 P w K mg base A outer s H->BindsTo s fd args (ps.zip us)->Vals vs us->sp vs H Q E->
  codeAny (model P w) A (.call (.ref f) args) (CR CX outer P w H s Q E) s
def FnOk.mono {P:aaE} {w:World} {K:aaa} {mg:Zj} {base:Heap} {CX:CXT} {j k:Nat} {f:Addr} {fd:abo} {ps:List Str} {sp:Sp} (F:FnOk P w K mg base CX j f fd ps sp) (h:j<=k):
 FnOk P w K mg base CX k f fd ps sp:=⟨F.len,fun A outer s H args us vs Q E hr=>F.run A outer s H args us vs Q E (hr.mono h)⟩
def Env0.make {P:aaE} {w:World} {K:aaa} {mg:Zj} {base:Heap} {A:aa5} {outer:List Env} {s:aaf} {H:Hp} (e:Env0 P w K mg base A outer s H) (C:Addr) (us:List Value) (kw:List (Str×Value)):
 Env0 P w K mg base (A.under (.builtin "type.__call__" ⟨.ref C::us,kw⟩)) outer s H:=⟨by first|exact e.frames| (simpa [Around.under,Code.envs,Code.isFrame,pushEnvs] using e.frames),e.mod,e.bs,e.bsz,e.funs,e.frf,e.hok,e.bare⟩
section
variable {X:Cx} {pins:List (Addr×Obj)} {σ:St} {H:Hp} {s s':aaf}
def Inv.env0 (I:Inv X pins σ H s):Env0 X.prog X.w X.K X.mg X.base X.A X.stack s H:=
 ⟨I.ok.frames,I.ok.mod,I.bs,aau I.ok.bsz I.sz,I.stack,I.stkFree,I.hok,I.bare⟩
def Inv.after {Q:VK} {u:Value} (I:Inv X pins σ H s) (h:CE X.stack X.prog X.w H s Q u s'):EP X pins σ Q u s':=by
 obtain ⟨v,H',os,bare,un,hok,r,q⟩:=h;obtain ⟨hh,g,d,t,os'⟩:=s';obtain rfl:os'=s.os:=os;exact ⟨v,H',I.call (h':=hh) (g':=g) (d':=d) (t':=t) (ch:=[]) un hok bare (fun b z=>absurd z (by simp)),r,q⟩
end
def vR (sp:Sp) (dvs:List V) (E:XK) (t:TA):TE:=fun σ H Q=>t σ H fun vs H1=>sp (vs++dvs) H1 Q E
def kh (C:Addr) (m:Str) (sp:Sp) (dvs:List V) (E:XK) (ta:TE) (t:TA):TE:=fun σ H Q=>ta σ H fun x H1=> ∃a dx fs,x= .ref a/\H1 a=some (.ins C dx fs)/\fs.lookup m=none/\
 t σ H1 fun vs H2=>sp (x::(vs++dvs)) H2 Q E
def vO (C:Addr) (sp:Sp) (dvs:List V) (E:XK) (t:TA):TE:=fun σ H Q=>t σ H fun vs H1=> ∀x dx,H1 x=none->H1 dx=none->dx≠x->
 sp (.ref x::(vs++dvs)) (upd (upd H1 dx (.own x)) x (.ins C dx [])) (fun v H2=>v= .non/\Q (.ref x) H2) E
def Binds (K:aaa) (fd:abo) (ps:List Str) (ds:List Value):Prop:=
 ∀(s:aaf) (us:List Value),K.In s.heap->(us++ds).length=ps.length->BindsTo s fd ⟨us,[]⟩ (ps.zip (us++ds))
def Binds.all {K:aaa} {fd:abo} {ps:List Str} (h: ∀us:List Value,us.length=ps.length->bindArgs fd ⟨us,[]⟩=pure (ps.zip us)):Binds K fd ps []:=fun s us _ hl=>by
 rw [abw] at hl ⊢;exact .of_eq (h us hl)
def xT (CX:CXT) (X:Cx) (E:XK):Prop:= ∀(pins:List (Addr×Obj)) (σ:St) (H:Hp) (s:aaf) (e:Value) (s':aaf),Inv X pins σ H s->CX X.stack H s E e s'->X.xe e s'
section
variable {X:Cx} {CX:CXT} {k:Nat} {f C:Addr} {fd:abo} {ps:List Str} {sp:Sp} {dvs:List V} {ds:List Value} {E:XK} {x m:Str} {p pos apos:Pos} {e o:Expr} {es:List Expr} {ta:TE} {t:TA}
def XW {pins:List (Addr×Obj)} {σ:St} {H:Hp} {s:aaf} {Q:VK} {us:List Value} {vs:List V} (F:FnOk X.prog X.w X.K X.mg X.base CX k f fd ps sp) (hr:Room k X.A) (hb:Binds X.K fd ps ds) (hd:Vals dvs ds) (hx:xT CX X E)
  (I:Inv X pins σ H s) (r:Vals vs us) (h:sp (vs++dvs) H Q E):wpAny (model X.prog X.w) X.A (call (.ref f) us) (EP X pins σ Q) X.xe s:=by
 have r2:Vals (vs++dvs) (us++ds):=r.append hd;have hl:(us++ds).length=ps.length:=by rw [←r2.length];exact F.len _ _ _ _ h
 refine wpAny_call (codeAny_mono (F.run X.A X.stack s H ⟨us,[]⟩ (us++ds) (vs++dvs) Q E hr I.env0 (hb s us I.kIn hl) r2 h) fun r s' hq=>?_)
 cases r with
 |error e=>exact hx pins σ H s e s' I hq
 |ok fl=>
  cases fl with
  |ret u=>exact I.after hq
  |next=>exact abp hq
  |brk=>exact abp hq
  |cont=>exact abp hq
def Yb (F:FnOk X.prog X.w X.K X.mg X.base CX k f fd ps sp) (hr:Room k X.A) (hg:Gl X x) (hm:X.mg x=some (.ref f)) (hk:aaK X.K (.ref f)=true) (hb:Binds X.K fd ps ds) (hd:Vals dvs ds) (hx:xT CX X E)
  (ha:PA X (e::es) t) (hdb:Z2 x:=by decide) (he:WV X e es:=by rfl) (hpl:T9 X pos es:=by rfl):
  PE X (.Call (.Name x p) (e::es) [] pos) (vR sp dvs E t):=by
 intro pins s σ H Q I h;refine abT (ZD I hg hm ?_ hdb);refine acw (h₀:=X.base) I.ok.mod.kin hk (thn (ha pos pins s σ H _ I h) fun us s1 ⟨vs,H1,I1,r,q⟩=>⟨I1.kIn,?_⟩) he hpl;exact XW F hr hb hd hx I1 r q
def Up {pl:Sem Bool} (he:PE X o ta) (c:Cls X.K C) (hm:Meth X.K C m f) (F:FnOk X.prog X.w X.K X.mg X.base CX k f fd ps sp) (hr:Room k X.A) (hb:Binds X.K fd ps ds) (hd:Vals dvs ds) (hx:xT CX X E) (ha:PA X (e::es) t)
  (hst:WV X e es:=by rfl) (hpl:T9 X pos es:=by rfl)
  (ht:eval (.Call (.Attribute o m apos) (e::es) [] pos) X.env=(do
   let ov←eval o X.env
   acO apos.atName
   let (f,first)←acP [ov] (getMethod ov m pl)
   callWith pos f first (aa7 pos (aag (e::es) X.env)) (abK pos (abh [] X.env))):=by rfl):
  PE X (.Call (.Attribute o m apos) (e::es) [] pos) (kh C m sp dvs E ta t):=by
 intro pins s σ H Q I h;refine PySem.W.methodCall_KW (pl:=pl) (thn (he pins s σ H _ I h) fun u s1 ⟨x,H1,I1,rx,a,dx,fs,ex,ea,l,q⟩=>?_) ht;subst ex;obtain rfl:u=aa8 a:=rx;refine JA I1 ea c hm l ?_;refine acw (first:=[.ref a]) (h₀:=X.base) I.ok.mod.kin hm.kp (thn (ha pos pins s1 σ H1 _ I1 q) fun us s2 ⟨vs,H2,I2,r,q2⟩=>⟨I2.kIn,?_⟩) hst hpl;exact XW (us:= .ref a::us) (vs:= .ref a::vs) F hr hb hd hx I2 (.cons rfl r) q2
def KJ {pl:Sem Bool} (he:PE X o ta) (c:Cls X.K C) (hm:Meth X.K C m f) (F:FnOk X.prog X.w X.K X.mg X.base CX k f fd ps sp) (hr:Room k X.A) (hb:Binds X.K fd ps ds) (hd:Vals dvs ds) (hx:xT CX X E)
  (ht:eval (.Call (.Attribute o m apos) [] [] pos) X.env=(do
   let ov←eval o X.env
   acO apos.atName
   let (f,first)←acP [ov] (getMethod ov m pl)
   callWith pos f first (aa7 pos (aag [] X.env)) (abK pos (abh [] X.env))):=by rfl):
  PE X (.Call (.Attribute o m apos) [] [] pos) (kh C m sp dvs E ta tNil):=by
 intro pins s σ H Q I h;refine PySem.W.methodCall_KW (pl:=pl) (thn (he pins s σ H _ I h) fun u s1 ⟨x,H1,I1,rx,a,dx,fs,ex,ea,l,q⟩=>?_) ht;subst ex;obtain rfl:u=aa8 a:=rx;refine JA I1 ea c hm l ?_;exact PySem.W.callWith_K0 (first:=[.ref a]) I1.kIn hm.kp (XW (us:=[.ref a]) (vs:=[.ref a]) F hr hb hd hx I1 (.cons rfl .nil) q)
structure Mk (K:aaa) (C f:Addr):Prop where
 makes:abS K C=true
 init:aaP K (.ref C) "__init__" =some (some (.ref f))
 fn:acQ K (.ref f)=true
 kp:aaK K (.ref C)=true
def Ky {pins:List (Addr×Obj)} {σ:St} {H:Hp} {s:aaf} {Q:VK} {us:List Value} {vs:List V} (M:Mk X.K C f) (F:FnOk X.prog X.w X.K X.mg X.base CX k f fd ps sp) (hr:Room (k+1) X.A) (hb:Binds X.K fd ps ds) (hd:Vals dvs ds)
  (hx:xT CX X E) (I:Inv X pins σ H s) (r:Vals vs us)
  (h: ∀x dx,H x=none->H dx=none->dx≠x->sp (.ref x::(vs++dvs)) (upd (upd H dx (.own x)) x (.ins C dx [])) (fun v H2=>v= .non/\Q (.ref x) H2) E):
  wpAny (model X.prog X.w) X.A (call (.ref C) us) (EP X pins σ Q) X.xe s:=by
 have hq:=h (s.heap.objs.size+1) s.heap.objs.size (I.hok.fresh (Nat.le_succ _)) (I.hok.fresh (aan _)) (aaU (aca _));have I2:=Inv.made (C:=C) I;have r2:Vals (V.ref (s.heap.objs.size+1)::(vs++dvs)) (aa8 (s.heap.objs.size+1)::(us++ds)):= .cons rfl (r.append hd)
 have hl:(aa8 (s.heap.objs.size+1)::us++ds).length=ps.length:=by
  have e:=r2.length;rw [F.len _ _ _ _ hq] at e;exact e.symm
 refine wpAny_call (KY (f:=f) I.kIn M.makes M.init (beq_iff_eq.mp M.fn) (codeAny_mono (F.run _ X.stack _ _ ⟨aa8 (s.heap.objs.size+1)::us,[]⟩ (aa8 (s.heap.objs.size+1)::(us++ds)) _ _ E (hr.make C us [])
  (I2.env0.make C us []) (hb _ (aa8 (s.heap.objs.size+1)::us) I2.kIn hl) r2 hq) fun r s' hq'=>?_))
 cases r with
 |error e=>exact hx pins σ _ _ e s' I2 hq'
 |ok fl=>
  cases fl with
  |ret u=>
   obtain ⟨v,H',I3,rv,ev,q3⟩:=I2.after hq';subst ev;exact ⟨rv,⟨V.ref (s.heap.objs.size+1),H',I3,rfl,q3⟩⟩
  |next=>exact abp hq'
  |brk=>exact abp hq'
  |cont=>exact abp hq'
def Uq (M:Mk X.K C f) (F:FnOk X.prog X.w X.K X.mg X.base CX k f fd ps sp) (hr:Room (k+1) X.A) (hg:Gl X x) (hm:X.mg x=some (.ref C)) (hb:Binds X.K fd ps ds) (hd:Vals dvs ds) (hx:xT CX X E)
  (ha:PA X (e::es) t) (hdb:Z2 x:=by decide) (he:WV X e es:=by rfl) (hpl:T9 X pos es:=by rfl):
  PE X (.Call (.Name x p) (e::es) [] pos) (vO C sp dvs E t):=by
 intro pins s σ H Q I h;refine abT (ZD I hg hm ?_ hdb);refine acw (h₀:=X.base) I.ok.mod.kin M.kp (thn (ha pos pins s σ H _ I h) fun us s1 ⟨vs,H1,I1,r,q⟩=>⟨I1.kIn,?_⟩) he hpl;exact Ky M F hr hb hd hx I1 r q
end
structure FnScope (N P:List Str) (sc:Scope):Prop where
 kind:sc.kind= .function
 co:sc.isCoroutine=false
 gen:sc.isGenerator=false
 nd:N.Nodup
 pre:N.take P.length=P
 par: ∀x∈P,sc.names.lookup x=some .local\/sc.names.lookup x=some .cell
 nofree: ∀y∈sc.names,y.2≠ .free
theorem Q3 {kindOf:Str->Option NameKind} {x:Str}: ∀ {binds:List (Str×Value)} {m:Zj},(∀v,(x,v)∉binds)->bindL kindOf binds m x=m x
 | [],_,_=>rfl
 | (n,v)::r,m,h=>by
  unfold bindL;rw [Q3 fun w hw=>h w (aaI _ hw)]
  split
  · have:x≠n:=by rintro rfl;exact h v aaV
    simp [this]
  · rfl
theorem Q5 {kindOf:Str->Option NameKind} {x:Str}: ∀ {binds:List (Str×Value)} {m:Zj},(∀v,(x,v)∉binds)->bindC kindOf binds m x=m x
 | [],_,_=>rfl
 | (n,v)::r,m,h=>by
  unfold bindC;rw [Q5 fun w hw=>h w (aaI _ hw)]
  split
  · rfl
  · have:x≠n:=by rintro rfl;exact h v aaV
    simp [this]
theorem Q4 {kindOf:Str->Option NameKind} {x:Str} {v:Value}: ∀ {P:List Str} {vs:List Value} {i:Nat} {m:Zj},P.Nodup->P[i]?=some x->vs[i]?=some v->kindOf x=some .local->
  bindL kindOf (P.zip vs) m x=some v
 | [],_,_,_,_,h,_,_=>by simp at h
 |_::_,[],_,_,_,_,h,_=>by simp at h
 |p::P,w::vs,0,m,nd,h1,h2,hk=>by
  simp at h1 h2;subst h1;subst h2;show bindL kindOf ((p,w)::P.zip vs) m p=_;unfold bindL;rw [Q3 fun v hv=>(acm.mp nd).1 (List.of_mem_zip hv).1,if_pos hk];simp
 |p::P,w::vs,i+1,m,nd,h1,h2,hk=>by
  show bindL kindOf ((p,w)::P.zip vs) m x=_;unfold bindL;exact Q4 (i:=i) (acm.mp nd).2 (by simpa using h1) (by simpa using h2) hk
theorem Q6 {kindOf:Str->Option NameKind} {x:Str} {v:Value}: ∀ {P:List Str} {vs:List Value} {i:Nat} {m:Zj},P.Nodup->P[i]?=some x->vs[i]?=some v->kindOf x≠some .local->
  bindC kindOf (P.zip vs) m x=some v
 | [],_,_,_,_,h,_,_=>by simp at h
 |_::_,[],_,_,_,_,h,_=>by simp at h
 |p::P,w::vs,0,m,nd,h1,h2,hk=>by
  simp at h1 h2;subst h1;subst h2;show bindC kindOf ((p,w)::P.zip vs) m p=_;unfold bindC;rw [Q5 fun v hv=>(acm.mp nd).1 (List.of_mem_zip hv).1,if_neg hk];simp
 |p::P,w::vs,i+1,m,nd,h1,h2,hk=>by
  show bindC kindOf ((p,w)::P.zip vs) m x=_;unfold bindC;exact Q6 (i:=i) (acm.mp nd).2 (by simpa using h1) (by simpa using h2) hk
def start (N:List Str) (vs:List V):St:=vs.map some++ab7 (N.length-vs.length) none
def cxOf (CX:CXT) (P:aaE) (w:World) (K:aaa) (mg:Zj) (base:Heap) (N:List Str) (qual:Str) (scope:Scope) (f:Addr) (cd:Value) (A:aa5) (outer:List Env) (s:aaf) (H:Hp) (E:XK):Cx where
 prog:=P
 w:=w
 K:=K
 mg:=mg
 base:=base
 A:=A.deeper (ace qual scope s.heap.objs.size f cd)
 N:=N
 s₀:=s
 H₀:=H
 env:=ace qual scope s.heap.objs.size f cd
 outer:=outer
 stack:=ace qual scope s.heap.objs.size f cd::outer
 ex:=[]
 calm:=true
 fn:=fun _=>true
 pn:=[]
 xe:=fun e s'=>wpAny (model P w) (A.deeper (ace qual scope s.heap.objs.size f cd)) (leaving (ace qual scope s.heap.objs.size f cd) e) (fun _ s''=>CX outer H s E e s'') (fun e' s''=>CX outer H s E e' s'') s'
def WI {sc:Scope} {n:Nat} {x:Str} (h:sc.names.lookup x=some .cell): ∃c,(cellsFrom n sc.names []).lookup x=some c:=by
 have q:=PySem.W.cellsFrom_some sc.names n [] (.inl h);exact Option.isSome_iff_exists.mp q
def YB {CX:CXT} {P:aaE} {w:World} {K:aaa} {mg:Zj} {base:Heap} {N ps:List Str} {qual:Str} {scope:Scope} {f:Addr} {cd:Value} {A:aa5} {outer:List Env} {s s1:aaf} {H:Hp} {E:XK} {us:List Value} {vs:List V}
   (S:FnScope N ps scope) (hd:A.handled=none) (e0:Env0 P w K mg base A outer s H) (hl:vs.length=ps.length) (r:Vals vs us)
   (x:InCallC s s.heap.objs.size (bindL (ace qual scope s.heap.objs.size f cd).kindOf (ps.zip us) fun _=>none) (cellsFrom (s.heap.objs.size+1) scope.names []) (bindC (ace qual scope s.heap.objs.size f cd).kindOf (ps.zip us) fun _=>none) s1):
   Inv (cxOf CX P w K mg base N qual scope f cd A outer s H E) [] (start N vs) H s1:=by
 have hpl:ps.length<=N.length:=by have:=congrArg ab3 S.pre;rw [acb] at this;omega
 obtain ⟨h1,tk,rfl,hk⟩:=x.done;have noA: ∀b:Addr,b∉(cxOf CX P w K mg base N qual scope f cd A outer s H E).ex:=fun b z=>absurd (show b∈([]:List Addr) from z) (by simp)
 refine ⟨⟨e0.mod,S.kind,rfl,rfl,aan _,fun y z c h1 h2=>?_,fun y hy=>?_,fun y c _ h=>?_,fun _=>hd,Around.frames_deeper e0.frames,.inr ⟨rfl,rfl⟩,fun b z=>absurd z (noA b),e0.bs,e0.bsz,fun b _ _=>noA b,fun b z=>absurd z (noA b),e0.funs,e0.frf⟩,
   rfl,e0.bare,Un.kept hk,⟨_,x.toInCall.ns,fun i y v h1 h2 h3=>?_⟩,fun y c h=>⟨_,x.cell y c h⟩,e0.hok.fresh (aan _),fun y c h=>?_,fun p hp=>absurd (show p∈([]:List (Addr×Obj)) from hp) (by simp),e0.hok.kept hk,?_⟩
 · exact name_of_addr x.apart (aba h1) (aba h2)
 · have hy:scope.names.lookup y=some .cell\/scope.names.lookup y=some .free:=hy;rcases hy with hy|hy
   · exact WI hy
   · exact absurd rfl (S.nofree _ (aba hy))
 · exact Nat.le_of_lt (x.above y c (aba h))
 · have hi:i<vs.length:=by
     unfold start at h2
     by_cases hi:i<vs.length
     · exact hi
     · rw [aaj (by simpa using hi)] at h2;rw [aaM] at h2
       split at h2<;>cases h2
   have ha:vs[i]?=some v:=by
     unfold start at h2;rw [aar (by simpa using hi),aaJ] at h2
     cases e:vs[i]? with
     |none=>rw [e] at h2;cases h2
     |some a=>rw [e] at h2;cases h2;rfl
   obtain ⟨u,hu,rv⟩:=r.get ha
   have hp:ps[i]?=some y:=by
     rw [←S.pre,List.getElem?_take_of_lt (by omega)];exact h1
   have ndP:ps.Nodup:=by rw [←S.pre];exact S.nd.sublist (List.take_sublist _ _)
   refine ⟨u,rv,?_⟩;rcases S.par y (List.mem_of_getElem? hp) with k|k
   · exact .inl ⟨k,Q4 ndP hp hu k⟩
   · obtain ⟨c,e⟩:=WI (n:=s.heap.objs.size+1) k;refine .inr ⟨.inl k,c,e,?_⟩;have q:=x.cell y c e;rw [Q6 ndP hp hu (by show scope.names.lookup y≠_;rw [k];decide)] at q;exact q
 · exact e0.hok.fresh (Nat.le_of_lt (x.above y c (aba h)))
 · unfold start;show _=N.length;rw [aad,aaC,abe];omega
def ue {CX:CXT} {P:aaE} {w:World} {K:aaa} {mg:Zj} {base:Heap} {k:Nat} {f:Addr} {name qual:Str} {params:Arguments} {body:List Stmt} {scope:Scope} {dV kV doc pm cdv ct oc:Value} {an od:Option Addr}
  {osl:Array (Option Value)} {N ps:List Str} {sp:Sp} (lk:K.lookup f=some ⟨oc,od,.func (abr name qual params body scope dV kV doc pm an cdv ct),osl⟩) (hcd:abX K cdv qual=true) (S:FnScope N ps scope)
  (len: ∀vs H Q E,sp vs H Q E->vs.length=ps.length)
  (hbody: ∀(A:aa5) (outer:List Env) (s:aaf) (H:Hp) (vs:List V) (Q:VK) (E:XK),Room k (A.deeper (ace qual scope s.heap.objs.size f cdv))->sp vs H Q E->
    ∃t,PSs (cxOf CX P w K mg base N qual scope f cdv A outer s H E) body t/\t {nx:=fun _ H'=>Q .non H',rt:=Q} (start N vs) H):
  FnOk P w K mg base CX (k+1) f (abr name qual params body scope dV kV doc pm an cdv ct) ps sp:=by
 refine ⟨len,fun A outer s H args us vs Q E hr e0 hb r hsp=>?_⟩;have hl:=len _ _ _ _ hsp;have KX:K.In s.heap:=e0.mod.kin.keeps fun b o e=>(e0.bs b o e).1
 have lim:s.heap.NoLimit:=e0.mod.nolimit.keeps fun b o e=>(e0.bs b o e).1
 have hkind: ∀y∈ps.zip us,scope.names.lookup y.1=some .local\/(scope.names.lookup y.1=some .cell/\((cellsFrom (s.heap.objs.size+1) scope.names []).lookup y.1).isSome=true):=fun ⟨n,v⟩ hy=>by
  rcases S.par n (List.of_mem_zip hy).1 with q|q
  · exact .inl q
  · exact .inr ⟨q,PySem.W.cellsFrom_some _ _ _ (.inl q)⟩
 refine codeAny_call_function hr.depth (KX _ _ lk) rfl S.co S.gen rfl (PySem.W.codeRec_of KX hcd) (hb _ _ _ _ ?_);refine wpAny_newFunctionEnv_cells S.kind hkind fun env he s1 x=>?_
 subst he;refine ⟨lim.keeps x.toInCall.keep,codeAny_func ?_⟩;obtain ⟨t,ht,hq⟩:=hbody A outer s H vs Q E (hr.deeper _) hsp;have I:Inv (cxOf CX P w K mg base N qual scope f cdv A outer s H E) [] (start N vs) H s1:=YB S hr.hd e0 hl r x;refine abP (ht [] s1 (start N vs) H _ I hq) (fun fl s' hs=>?_) fun e s' hs=>hs
 have fin: ∀ {σ':St} {H':Hp} {v:V} {u:Value},Inv (cxOf CX P w K mg base N qual scope f cdv A outer s H E) [] σ' H' s'->RelV v u->Q v H'->CE outer P w H s Q u s':=
  fun {σ' H' v u} J rv q=>⟨v,H',J.os,J.bare,J.base,J.hok,rv,q⟩
 cases fl with
 |ret u=>
  obtain ⟨v,σ',H',J,rv,q⟩:=hs;exact fin J rv q
 |next=>
  obtain ⟨σ',H',J,q⟩:=hs;exact fin (v:=V.non) (u:=acU) J rfl q
 |brk=>
  obtain ⟨_,_,_,q⟩:=hs;exact abp q
 |cont=>
  obtain ⟨_,_,_,q⟩:=hs;exact abp q
section
variable {X:Cx} {x:Str} {p pos:Pos} {e:Expr} {es:List Expr} {t:TA} {id T:String} {r:List V->Hp->VK->Prop}
def tCB (r:List V->Hp->VK->Prop) (t:TA):TE:=fun σ H Q=>t σ H fun vs H1=>r vs H1 Q
def Z8 (hc:CallR X (.builtin id) r) (hg:Gl X x) (hm:X.mg x=none) (hv:abq x=some (.builtin id)) (ha:PA X (e::es) t) (hn:x≠ "__name__" :=by decide) (hdb:Z2 x:=by decide)
  (he:WV X e es:=by rfl) (hpl:T9 X pos es:=by rfl):PE X (.Call (.Name x p) (e::es) [] pos) (tCB r t):=by
 intro pins s σ H Q I h;refine abT (QO I hg hm hv ?_ hn hdb);exact PyProof.Rows.callWith_builtin1 (thn (ha pos pins s σ H _ I h) fun us s1 ⟨vs,H1,I1,r1,q1⟩=>hc pins s1 σ H1 vs us Q I1 r1 q1) he hpl
def Ya (hc:CallR X (.type T) r) (hg:Gl X x) (hm:X.mg x=none) (hv:abq x=some (.type T)) (ha:PA X (e::es) t) (hn:x≠ "__name__" :=by decide) (hdb:Z2 x:=by decide)
  (he:WV X e es:=by rfl) (hpl:T9 X pos es:=by rfl):PE X (.Call (.Name x p) (e::es) [] pos) (tCB r t):=by
 intro pins s σ H Q I h;refine abT (QO I hg hm hv ?_ hn hdb);exact abD (thn (ha pos pins s σ H _ I h) fun us s1 ⟨vs,H1,I1,r1,q1⟩=>hc pins s1 σ H1 vs us Q I1 r1 q1) he hpl
end
end L2
namespace HT
open PySem PyProof.Rows
section
variable {prog:aaE} {w:World} {A:aa5} {E:XU} {s:aaf}
def cat_tup {t b:Addr} {vs ws:List Value} {Q:XU} (ht:IsTup s.heap t vs.toArray) (hb:IsTup s.heap b ws.toArray) (hv:vs≠[])
   (h1:ws=[]->Q (.ref t) s) (h2:ws≠[]->Q (.ref s.heap.objs.size) {s with heap:=s.heap.push {cls:= .type "tuple",data:= .seq (vs++ws).toArray}})
   (hsz:vs.length+ws.length<=aae):wpAny (model prog w) A (abu .Add (.ref t) (.ref b)) Q E s:=by
 obtain ⟨⟨cls,dd,data,sl⟩,ho,hc,n,hd⟩:=id ht;obtain ⟨⟨cls2,dd2,data2,sl2⟩,ho2,hc2,n2,hd2⟩:=id hb;simp only at hc hd hc2 hd2;subst hc hd hc2 hd2;have e:vs.toArray++ws.toArray=(vs++ws).toArray:=by simp
 by_cases hw:ws=[]
 · exact concat_meets ⟨_,ho,rfl⟩ ⟨_,ho2,rfl⟩ noFill_tuple_add seq_tuple_add PySem.F.slot_tuple_add PySem.F.entry_tuple_add (PySem.F.args_tuple_add_2 _ _)
    (tuple_addW1 t b vs.toArray ws.toArray n n2 dd dd2 sl sl2 (by simpa using hv) (by simp [hw])) ⟨ho,ho2,h1 hw⟩
 · refine concat_meets ⟨_,ho,rfl⟩ ⟨_,ho2,rfl⟩ noFill_tuple_add seq_tuple_add PySem.F.slot_tuple_add PySem.F.entry_tuple_add (PySem.F.args_tuple_add_2 _ _)
    (tuple_addW2 t b vs.toArray ws.toArray n n2 dd dd2 sl sl2 (by simpa using hv) (by simpa using hw) (by rw [aac,aac];exact hsz)) ⟨ho,ho2,?_⟩
   rw [e];exact h2 hw
def sIx (n d:Nat):Option Int->Nat
 |none=>d
 |some v=>if v<0 then (v+(n:Int)).toNat else min v.toNat n
def sIx_none (n d:Nat):sIx n d none=d:=rfl
def sIx_nat (n d k:Nat):sIx n d (some (k:Int))=min k n:=by
 show (if (k:Int)<0 then ((k:Int)+(n:Int)).toNat else min (k:Int).toNat n)=min k n;rw [if_neg (by omega),Int.toNat_natCast]
def km (n d:Nat) (hd:d<=n) (o:Option Int):sIx n d o<=n:=by
 cases o with
 |none=>exact hd
 |some v=>
  show (if v<0 then (v+(n:Int)).toNat else min v.toNat n)<=n
  by_cases hv:v<0
  · rw [if_pos hv];omega
  · rw [if_neg hv];exact Nat.min_le_right _ _
def Kd (v:Int) (n d:Nat):(if v<0 then max (v+(n:Int)) 0 else min v (n:Int))=((sIx n d (some v):Nat):Int):=by
 show (if v<0 then max (v+(n:Int)) 0 else min v (n:Int))=(((if v<0 then (v+(n:Int)).toNat else min v.toNat n):Nat):Int)
 by_cases hv:v<0
 · simp only [if_pos hv];omega
 · simp only [if_neg hv];omega
def Xl (lo hi:Option Int) (n:Nat):abI lo hi 1 (n:Int)=(((sIx n 0 lo:Nat):Int),((sIx n n hi:Nat):Int)):=by
 have h1: ¬((1:Int)<0):=by omega
 unfold abI;simp only [h1,if_false];refine Prod.ext ?_ ?_
 · cases lo with
   |none=>rfl
   |some v=>exact Kd v n 0
 · cases hi with
   |none=>rfl
   |some v=>exact Kd v n n
def WX (i j:Nat):abt (i:Int) (j:Int) 1=j-i:=by
 unfold abt;have h1:(1:Int)>0:=by omega
 simp only [h1,if_true,Int.ediv_one]
 split<;>omega
def Jp {v:Value} {o:Option Int} {Q:Option Int->aaf->Prop} (p:IsPart v o) (h:Q o s):wpAny (model prog w) A (Builtin.Slice.slicePartIndex v) Q E s:=by
 cases p with
 |none=>exact slicePart_none h
 |int i t=>exact slicePart_int h
def sliceApplied_gen {sl:Addr} {vl vu:Value} {lo hi:Option Int} {n:Nat} {Q:Int×Int×Nat->aaf->Prop} (hs:s.heap.IsSliceOf sl vl vu .none) (pl:IsPart vl lo) (pu:IsPart vu hi)
  (h:Q (((sIx n 0 lo:Nat):Int),1,sIx n n hi-sIx n 0 lo) s):wpAny (model prog w) A (acs (.ref sl) (pure (n:Int))) Q E s:=by
 obtain ⟨os,hos,hcs,hds⟩:=id hs;unfold acs Builtin.Slice.sliceFields;refine aap (aap (wpAny_field hos hds (x:=vl) rfl (aap (wpAny_field hos hds (x:=vu) rfl (aap (wpAny_field hos hds (x:= .none) rfl (aax ?_)))))));refine aap (slicePart_none ?_);show wpAny _ _ (if ((1:Int)==0)=true then _ else _) _ _ s;rw [if_neg (by decide)];refine aap (Jp pl (aap (Jp pu (aap (aax ?_)))));show wpAny _ _ (match abI lo hi 1 (n:Int) with| (lo,hi)=>pure (lo,(1:Int),abt lo hi 1)) _ _ s;rw [Xl lo hi n];show wpAny _ _ (pure (((sIx n 0 lo:Nat):Int),(1:Int),abt ((sIx n 0 lo:Nat):Int) ((sIx n n hi:Nat):Int) 1)) _ _ s;rw [WX];exact aax h
def KG (xs:Array Value) (i k:Nat):((aa0 k).filterMap fun (m:Nat)=>xs[((i:Int)+(m:Int)*1).toNat]?).toArray=((xs.toList.drop i).take k).toArray:=by
 have e:(fun (m:Nat)=>xs[((i:Int)+(m:Int)*1).toNat]?)=fun m=>xs[i+m]?:=by
  funext m;have:((i:Int)+(m:Int)*1).toNat=i+m:=by omega
  rw [this]
 rw [e];have:=pick_run xs i k;rw [List.filterMap_map] at this;have e2:((fun x=>xs[x]?) ∘ fun x=>i+x)=fun m=>xs[i+m]?:=rfl
 rw [e2] at this;rw [this]
def getItem_tuple_cut {t sl:Addr} {items:Array Value} {vl vu:Value} {lo hi:Option Int} {Q:XU} (ht:IsTup s.heap t items) (hs:s.heap.IsSliceOf sl vl vu .none) (pl:IsPart vl lo) (pu:IsPart vu hi)
  (hw: ¬(sIx items.size 0 lo=0/\sIx items.size items.size hi=items.size))
  (h:Q (.ref s.heap.objs.size) {s with heap:=s.heap.push {cls:= .type "tuple",data:= .seq ((items.toList.drop (sIx items.size 0 lo)).take (sIx items.size items.size hi-sIx items.size 0 lo)).toArray}})
  (hsz:items.size<=aae):wpAny (model prog w) A (getItem (.ref t) (.ref sl)) Q E s:=by
 have htake:sizeOk (.seq ((items.toList.drop (sIx items.size 0 lo)).take (sIx items.size items.size hi-sIx items.size 0 lo)).toArray):=by
  show ((items.toList.drop (sIx items.size 0 lo)).take (sIx items.size items.size hi-sIx items.size 0 lo)).toArray.size<=aae;rw [aac,acb,abL,abN];omega
 have hj:sIx items.size items.size hi<=items.size:=km _ _ (aan _) hi;obtain ⟨os,hos,hcs,hds⟩:=id hs;have hTs:s.TypeIs (.ref sl) "slice" :=⟨os,hos,hcs⟩
 unfold getItem
 try with_reducible refine wpAny_holding ?_
 first|refine aap (aax ?_)|skip
 refine aap (wpAny_sequenceKey ht.typeIs (by decide) ?_)
 refine aap (wpAny_callSpecial?_slot (name:=aav "__getitem__") ht.typeIs aaF
  (wpAny_call_entry aaF ht.typeIs entry_tuple_getitem ?_ (args_tuple_getitem _ _)))
 show wpAny _ _ (act (.ref t)>>=_) _ _ s;refine aap (tupleItemsOf_ ht ?_);refine aap (wpAny_typeOf hTs ?_);rw [if_pos (by decide)];refine aap (sliceApplied_gen hs pl pu ?_)
 have hno: ¬((((sIx items.size 0 lo:Nat):Int)==0&&(1:Int)==1&&(sIx items.size items.size hi-sIx items.size 0 lo)==items.size)=true):=by
  intro q;rw [aal,aal] at q;have q1:((sIx items.size 0 lo:Nat):Int)=0:=eq_of_beq q.1.1;have q2:sIx items.size items.size hi-sIx items.size 0 lo=items.size:=eq_of_beq q.2;exact hw ⟨by omega,by omega⟩
 show wpAny _ _ (if (((sIx items.size 0 lo:Nat):Int)==0&&(1:Int)==1&&(sIx items.size items.size hi-sIx items.size 0 lo)==items.size)=true then _ else _) _ _ s;rw [if_neg hno,KG]
 first
  |exact aap (m:=abx _) (abG (aax ⟨_,rfl,aax h⟩) htake)
  |exact aap (m:=abx _) (abG (aap (aax (aax ⟨_,rfl,aax h⟩))) htake)
  |exact aap (aap (m:=abx _) (abG (aax (aax ⟨_,rfl,aax h⟩)) htake))
  |exact aap (aap (m:=abx _) (abG (aax ⟨_,rfl,aax h⟩) htake))
end
end HT
namespace L2
open PySem PySem.Spec PyProof.Rows
abbrev TO:=St->Hp->(Option Int->Hp->Prop)->Prop
def PO (X:Cx) (e:Option Expr) (t:TO):Prop:=
 ∀(pins:List (Addr×Obj)) (s:aaf) (σ:St) (H:Hp) (Q:Option Int->Hp->Prop),Inv X pins σ H s->t σ H Q->
  wpAny (model X.prog X.w) X.A (evalPart e X.env) (fun u s'=> ∃o H',Inv X pins σ H' s'/\IsPart u o/\Q o H') X.xe s
def VW:TO:=fun _ H Q=>Q none H
def vJ (t:TE):TO:=fun σ H Q=>t σ H fun x H1=> ∃i,x= .int i/\Q (some i) H1
section
variable {X:Cx} {e:Expr} {te:TE} {lo hi:Option Expr} {tl th:TO} {pos p2:Pos}
def Ul:PO X none VW:=by
 intro pins s σ H Q I h;rw [evalPart_none];exact aax ⟨none,H,I,.none,h⟩
def Uk (h:PE X e te):PO X (some e) (vJ te):=by
 intro pins s σ H Q I hw;rw [evalPart_some];refine thn (h pins s σ H _ I hw) fun u s1 ⟨x,H1,I1,r1,q1⟩=>?_
 obtain ⟨i,rfl,q⟩:=q1;obtain ⟨t,rfl⟩:=r1;exact ⟨some i,H1,I1,.int i t,q⟩
def SlR (X:Cx) (r:V->Option Int->Option Int->Hp->VK->Prop):Prop:=
 ∀(pins:List (Addr×Obj)) (s:aaf) (σ:St) (H:Hp) (x:V) (v vl vu:Value) (lo hi:Option Int) (sl:Addr) (Q:VK),Inv X pins σ H s->RelV x v->s.heap.IsSliceOf sl vl vu .none->IsPart vl lo->IsPart vu hi->r x lo hi H Q->
  ∃T id,typeLookup (.type T) "__getitem__" =pure (some (.builtin id))/\s.TypeIs v T/\wpAny (model X.prog X.w) X.A (getItem v (.ref sl)) (EP X pins σ Q) X.xe s
def SlR.or {r r':V->Option Int->Option Int->Hp->VK->Prop} (h:SlR X r) (h':SlR X r'):SlR X (fun x lo hi H Q=>r x lo hi H Q\/r' x lo hi H Q):=by
 intro pins s σ H x v vl vu lo hi sl Q I rx hs pl pu q;rcases q with q|q
 · exact h pins s σ H x v vl vu lo hi sl Q I rx hs pl pu q
 · exact h' pins s σ H x v vl vu lo hi sl Q I rx hs pl pu q
def tSl (r:V->Option Int->Option Int->Hp->VK->Prop) (te:TE) (tl th:TO):TE:=fun σ H Q=>te σ H fun x H1=>tl σ H1 fun l H2=>th σ H2 fun u H3=>r x l u H3 Q
def KH {r:V->Option Int->Option Int->Hp->VK->Prop} (hr:SlR X r) (he:PE X e te) (hl:PO X lo tl) (hu:PO X hi th):PE X (.Subscript e (.Slice lo hi none p2) pos) (tSl r te tl th):=by
 intro pins s σ H Q I h;refine Subscript_ (thn (he pins s σ H _ I h) fun v s1 ⟨x,H1,I1,r1,q1⟩=>?_);refine wpAny_Slice (thn (hl pins s1 σ H1 _ I1 q1) fun vl s2 ⟨l,H2,I2,pl,q2⟩=>thn (hu pins s2 σ H2 _ I2 q2) fun vu s3 ⟨u,H3,I3,pu,q3⟩=>?_);rw [evalPart_none];refine aax ?_;have I4:Inv X pins σ H3 {s3 with heap:=s3.heap.push {cls:= .type "slice",data:= .fields #[vl,vu,.none]}}:=I3.kept (t':=s3.toks) fun b ob q=>aah _ q
 obtain ⟨T,id,hT,ht,hg⟩:=hr pins {s3 with heap:=s3.heap.push {cls:= .type "slice",data:= .fields #[vl,vu,.none]}} σ H3 x v vl vu l u s3.heap.objs.size Q I4 r1 (Heap.IsSliceOf.new ..) pl pu q3;show wpAny (model X.prog X.w) X.A (subscriptTail e (.Slice lo hi none p2) v (.ref s3.heap.objs.size)) (EP X pins σ Q) X.xe {s3 with heap:=s3.heap.push {cls:= .type "slice",data:= .fields #[vl,vu,.none]}};exact tail_any (ops:=[.ref s3.heap.objs.size,v]) ht hT hg (by with_unfolding_all rfl)
def cutV (xs:List V) (lo hi:Option Int):List V:=(xs.drop (HT.sIx xs.length 0 lo)).take (HT.sIx xs.length xs.length hi-HT.sIx xs.length 0 lo)
def y9 (xs:List V) (lo hi:Option Int):(cutV xs lo hi).length<=xs.length:=by
 unfold cutV;rw [acb,abL];omega
def rSlT (K:aaa):V->Option Int->Option Int->Hp->VK->Prop:=fun x lo hi H Q=> ∃a xs,x= .ref a/\SqT K H a xs/\
 ¬(HT.sIx xs.length 0 lo=0/\HT.sIx xs.length xs.length hi=xs.length)/\ ∀p,H p=none->Q (.ref p) (upd H p (.tup (cutV xs lo hi)))
def sl_tup:SlR X (rSlT X.K):=by
 intro pins s σ H x v vl vu lo hi sl Q I rx hs pl pu h;obtain ⟨a,xs,rfl,hx,hw,q⟩:=h;cases rx;obtain ⟨its,r,ht,hz⟩:=I.tuple hx;have hlen:its.toArray.size=xs.length:=by rw [aac];exact r.length.symm
 refine ⟨"tuple",_,aaF.lookup,ht.typeIs,?_⟩;refine HT.getItem_tuple_cut ht hs pl pu (by rw [hlen];exact hw) ?_ (by rw [hlen];exact hz);rw [hlen];refine ⟨.ref s.heap.objs.size,_,I.laid (t':=s.toks) (o:= .tup (cutV xs lo hi)) (fun b ob q=>aah _ q) (aan _) ?_,rfl,q _ (I.hok.fresh (aan _))⟩;exact ⟨aau (y9 xs lo hi) hz,_,(r.drop (HT.sIx xs.length 0 lo)).take (HT.sIx xs.length xs.length hi-HT.sIx xs.length 0 lo),IsTup.new _ _⟩
def Uf (K:aaa):R2:=fun x y H Q=> ∃a b xs ys,x= .ref a/\y= .ref b/\SqT K H a xs/\SqT K H b ys/\xs≠[]/\xs.length+ys.length<=aae/\
 (ys=[]->Q (.ref a) H)/\(ys≠[]-> ∀p,H p=none->Q (.ref p) (upd H p (.tup (xs++ys))))
def Vals.nil_iff {xs:List V} {us:List Value} (r:Vals xs us):us=[]↔xs=[]:=by
 cases r with
 |nil=>simp
 |cons _ _=>simp
def Uu:OpR X (abu .Add) (Uf X.K):=by
 intro pins s σ H x y v u Q I rx ry h;obtain ⟨a,b,xs,ys,rfl,rfl,ha,hb,hx,hz,q1,q2⟩:=h;cases rx;cases ry;obtain ⟨its,r1,p1,_⟩:=I.tuple ha;obtain ⟨its2,r2,p2,_⟩:=I.tuple hb;refine HT.cat_tup p1 p2 (fun z=>hx (r1.nil_iff.mp z)) (fun z=>⟨.ref a,H,I,rfl,q1 (r2.nil_iff.mp z)⟩) (fun z=>?_) (by rw [←r1.length,←r2.length];exact hz);refine ⟨.ref s.heap.objs.size,_,I.laid (t':=s.toks) (o:= .tup (xs++ys)) (fun b ob q=>aah _ q) (aan _) ?_,rfl,q2 (fun w=>z (r2.nil_iff.mpr w)) _ (I.hok.fresh (aan _))⟩;exact ⟨by rw [aad];exact hz,_,r1.append r2,IsTup.new _ _⟩
end
def ixN (n:Nat) (i:Int):Option Nat:=if 0<=i then (if i<n then some i.toNat else none) else if-(n:Int)<=i then some (i+n).toNat else none
def atI {α:Type} (xs:List α) (i:Int):Option α:=(ixN xs.length i).bind fun j=>xs[j]?
def UF {n:Nat} {i:Int} {j:Nat} (h:ixN n i=some j):seqIndex? i n=some j/\j<n/\ -(n:Int)<=i/\i<n:=by
 unfold ixN at h
 by_cases h0:0<=i
 · rw [if_pos h0] at h
   by_cases h1:i<n
   · rw [if_pos h1] at h;have e:i.toNat=j:=aaG h;exact ⟨by rw [seqIndex_of h0 h1,e],by omega,by omega,h1⟩
   · rw [if_neg h1] at h;cases h
 · rw [if_neg h0] at h
   by_cases h1: -(n:Int)<=i
   · rw [if_pos h1] at h;have e:(i+n).toNat=j:=aaG h;exact ⟨by rw [seqIndex_neg (by omega) h1,e],by omega,h1,by omega⟩
   · rw [if_neg h1] at h;cases h
def ZU {α:Type} {xs:List α} {i:Int} {v:α} (h:atI xs i=some v): ∃j,seqIndex? i xs.length=some j/\xs[j]?=some v/\j<xs.length/\ -(xs.length:Int)<=i/\i<xs.length:=by
 unfold atI at h
 cases e:ixN xs.length i with
 |none=>rw [e] at h;cases h
 |some j=>
  rw [e] at h;obtain ⟨h1,h2,h3,h4⟩:=UF e;exact ⟨j,h1,h,h2,h3,h4⟩
def atI_nat {α:Type} {xs:List α} {j:Nat} {v:α} (h:xs[j]?=some v):atI xs (j:Int)=some v:=by
 have hj:j<xs.length:=(aaq.mp h).1
 have e:ixN xs.length (j:Int)=some j:=by
  unfold ixN;rw [if_pos (by omega),if_pos (by omega)];simp
 unfold atI;rw [e];exact h
def Kn (b:Expr):Prop:= ∀o i,subscripted b false o i=operate [o,i] (getItem o i)
def IxR (X:Cx) (r:R2):Prop:=
 ∀(value slice:Expr) (pins:List (Addr×Obj)) (s:aaf) (σ:St) (H:Hp) (x y:V) (v u:Value) (Q:VK),Inv X pins σ H s->RelV x v->RelV y u->r x y H Q->
  subscripted slice false v u=operate [v,u] (getItem v u)->wpAny (model X.prog X.w) X.A (subscriptTail value slice v u) (EP X pins σ Q) X.xe s
def MtR (X:Cx) (id:String) (r:V->List V->Hp->VK->Prop):Prop:=
 ∀(pins:List (Addr×Obj)) (s:aaf) (σ:St) (H:Hp) (x:V) (xs:List V) (v:Value) (us:List Value) (Q:VK),Inv X pins σ H s->RelV x v->Vals xs us->r x xs H Q->
  wpAny (model X.prog X.w) X.A (call (.builtin id) (v::us)) (EP X pins σ Q) X.xe s
section
variable {X:Cx} {a b:Expr} {ta tb:TE} {pos:Pos}
def IxR.or {r r':R2} (h:IxR X r) (h':IxR X r'):IxR X (fun x y H Q=>r x y H Q\/r' x y H Q):=by
 intro value slice pins s σ H x y v u Q I rx ry q hs;rcases q with q|q
 · exact h value slice pins s σ H x y v u Q I rx ry q hs
 · exact h' value slice pins s σ H x y v u Q I rx ry q hs
def MtR.or {id:String} {r r':V->List V->Hp->VK->Prop} (h:MtR X id r) (h':MtR X id r'):MtR X id (fun x xs H Q=>r x xs H Q\/r' x xs H Q):=by
 intro pins s σ H x xs v us Q I rx rs q;rcases q with q|q
 · exact h pins s σ H x xs v us Q I rx rs q
 · exact h' pins s σ H x xs v us Q I rx rs q
def v4 {r:R2} (hr:IxR X r) (ha:PE X a ta) (hb:PE X b tb) (hs:Kn b):PE X (.Subscript a b pos) (tOp r ta tb):=by
 intro pins s σ H Q I h;exact Subscript_ (binT ha hb I h fun v u s2 x y H2 I2 rx ry q=>hr a b pins s2 σ H2 x y v u Q I2 rx ry q (hs _ _))
def rIxL (K:aaa):R2:=fun x y H Q=> ∃p xs i v,x= .ref p/\y= .int i/\SqL K H p xs/\atI xs i=some v/\Q v H
def rIxT (K:aaa):R2:=fun x y H Q=> ∃p xs i v,x= .ref p/\y= .int i/\SqT K H p xs/\atI xs i=some v/\Q v H
def rIxS:R2:=fun x y H Q=> ∃z i c,x= .str z/\y= .int i/\z.length<=aae/\atI z.cps.toList i=some c/\Q (.str ⟨#[c]⟩) H
def ix_list:IxR X (rIxL X.K):=by
 intro value slice pins s σ H x y v u Q I rx ry h hs;obtain ⟨p,xs,i,z,rfl,rfl,hq,he,q⟩:=h;cases rx;obtain ⟨t,rfl⟩:=ry;obtain ⟨its,r,pl,hz⟩:=I.list hq;obtain ⟨j,h1,h2,h3,h4,h5⟩:=ZU he;obtain ⟨w,ew,rw'⟩:=r.get h2;have hl:=r.length;have hn:=Jv;have fin:EP X pins σ Q w s:=⟨z,H,I,rw',q⟩
 by_cases h0:0<=i
 · have hj:i.toNat=j:=by
    rw [seqIndex_of h0 h5] at h1;exact aaG h1
   exact item_listR pl.isList h0 (by omega) (by rw [hj];simpa using ew) fin hs
 · have hj:(i+(its.toArray.size:Int)).toNat=j:=by
    rw [seqIndex_neg (by omega) h4] at h1;rw [aac,←hl];exact aaG h1
   exact subscriptTail_builtinR (x:=w) pl.isList.typeIs slot_list_getitem.lookup
    (wpAny_getItem_list_neg (Q:=fun r s'=>r=w/\EP X pins σ Q r s') pl.isList (by omega) (by rw [aac]<;>omega) (by omega) (by rw [hj];simpa using ew) ⟨rfl,fin⟩) hs
def ix_tup:IxR X (rIxT X.K):=by
 intro value slice pins s σ H x y v u Q I rx ry h hs;obtain ⟨p,xs,i,z,rfl,rfl,hq,he,q⟩:=h;cases rx;obtain ⟨t,rfl⟩:=ry;obtain ⟨its,r,pl,hz⟩:=I.tuple hq;obtain ⟨j,h1,h2,h3,h4,h5⟩:=ZU he;obtain ⟨w,ew,rw'⟩:=r.get h2;have hl:=r.length;have hn:=Jv;have fin:EP X pins σ Q w s:=⟨z,H,I,rw',q⟩
 exact subscriptTail_builtinR (x:=w) pl.typeIs aaF.lookup
  (getItem_tuple (j:=j) (Q:=fun r s'=>r=w/\EP X pins σ Q r s') pl (by omega) (by omega) (by rw [aac,←hl];exact h1) (by simpa using ew) ⟨rfl,fin⟩) hs
def kX:IxR X rIxS:=by
 intro value slice pins s σ H x y v u Q I rx ry h hs;obtain ⟨z,i,c,rfl,rfl,hz,he,q⟩:=h;obtain ⟨t,rfl⟩:=rx;obtain ⟨t',rfl⟩:=ry;obtain ⟨j,h1,h2,h3,h4,h5⟩:=ZU he;have hl:z.cps.toList.length=z.length:=by simp [acW]
 rw [hl] at h1 h4 h5;have hn:=Jv
 exact tail_any (typeIs_str s z t) slot_str_getitem.lookup (getItem_str (c:=c) (by
  have e1:decide (i< -(2^63:Int))=false:=decide_eq_false (by omega);have e2:decide (i>=2^63)=false:=decide_eq_false (by omega)
  rw [e1,e2,Bool.or_false]) (by rw [h1];simpa using h2) ⟨.str ⟨#[c]⟩,H,I.tok _,⟨_,rfl⟩,q⟩) hs
def rIx (K:aaa):R2:=fun x y H Q=>rIxL K x y H Q\/rIxT K x y H Q\/rIxS x y H Q
def kY:IxR X (rIx X.K):=ix_list.or (ix_tup.or kX)
def Qx (lo hi:Option Int) (n:Nat):(ab4 lo hi none n).1=((HT.sIx n 0 lo:Nat):Int)/\(ab4 lo hi none n).2.1=((HT.sIx n n hi:Nat):Int)/\(ab4 lo hi none n).2.2=1:=by
 refine ⟨?_,?_,rfl⟩
 · cases lo with
   |none=>simp [ab4,HT.sIx]
   |some i=>
    simp only [ab4,HT.sIx,Option.getD_none,show (1:Int)>0 by decide,if_true]
    by_cases h:i<0
    · simp only [h,if_true]<;>omega
    · simp only [h,if_false]<;>omega
 · cases hi with
   |none=>simp [ab4,HT.sIx]
   |some i=>
    simp only [ab4,HT.sIx,Option.getD_none,show (1:Int)>0 by decide,if_true]
    by_cases h:i<0
    · simp only [h,if_true]<;>omega
    · simp only [h,if_false]<;>omega
def JL (its:List Value) (lo hi:Option Int):slicePick its.toArray lo hi none=((its.drop (HT.sIx its.length 0 lo)).take (HT.sIx its.length its.length hi-HT.sIx its.length 0 lo)).toArray:=by
 obtain ⟨h1,h2,h3⟩:=Qx lo hi its.toArray.size;unfold slicePick;rw [h1,h2,h3];simp only [sliceRange_one,pick_run,aac]<;>rfl
def rSlL (K:aaa):V->Option Int->Option Int->Hp->VK->Prop:=fun x lo hi H Q=> ∃a xs,x= .ref a/\SqL K H a xs/\ ∀p,H p=none->Q (.ref p) (upd H p (.lst (cutV xs lo hi)))
def sl_list:SlR X (rSlL X.K):=by
 intro pins s σ H x v vl vu lo hi sl Q I rx hs pl pu h;obtain ⟨a,xs,rfl,hx,q⟩:=h;cases rx;obtain ⟨its,r,ht,hz⟩:=I.list hx;have hlen:=r.length;refine ⟨"list",_,slot_list_getitem.lookup,ht.isList.typeIs,?_⟩;refine wpAny_getItem_list_slice ht.isList hs pl pu .none (by simp) ?_ (by rw [aac]<;>omega);rw [JL,←hlen];refine ⟨.ref s.heap.objs.size,_,I.laid (t':=s.toks) (o:= .lst (cutV xs lo hi)) (fun b ob q=>aah _ q) (aan _) ?_,rfl,q _ (I.hok.fresh (aan _))⟩;exact ⟨aau (y9 xs lo hi) hz,_,0,(r.drop (HT.sIx xs.length 0 lo)).take (HT.sIx xs.length xs.length hi-HT.sIx xs.length 0 lo),aay _ rfl⟩
def call_len_seq:CallR X (.builtin "len") (fun xs H Q=> ∃p ys,xs=[.ref p]/\(SqL X.K H p ys\/SqT X.K H p ys)/\Q (.int ys.length) H):=by
 intro pins s σ H xs us Q I r h;obtain ⟨p,ys,rfl,hq,q⟩:=h;obtain ⟨u,rfl,rx⟩:=Zc r;cases rx;have hn:=Jv;rcases hq with hq|hq
 · obtain ⟨its,r',pl,hz⟩:=I.list hq;have hlen:=r'.length;exact Calls.call_len_list pl.isList (by simp only [aac]<;>omega) ⟨.int ys.length,H,I.tok _,⟨s.toks+1,by rw [aac,hlen]⟩,q⟩
 · obtain ⟨its,r',pl,hz⟩:=I.tuple hq;have hlen:=r'.length;exact len_tuple pl (by simp only [aac]<;>omega) ⟨.int ys.length,H,I.tok _,⟨s.toks+1,by rw [aac,hlen]⟩,q⟩
def Q0:CallR X (.builtin "len") (fun xs H Q=> ∃z,xs=[.str z]/\z.length<=aae/\Q (.int z.length) H):=by
 intro pins s σ H xs us Q I r h;obtain ⟨z,rfl,hz,q⟩:=h;obtain ⟨u,rfl,t,rfl⟩:=Zc r;have hn:=Jv;exact len_str (by omega) ⟨.int z.length,H,I.tok _,⟨_,rfl⟩,q⟩
def CallR.or {f:Value} {r r':List V->Hp->VK->Prop} (h:CallR X f r) (h':CallR X f r'):CallR X f (fun xs H Q=>r xs H Q\/r' xs H Q):=by
 intro pins s σ H xs us Q I rs q;rcases q with q|q
 · exact h pins s σ H xs us Q I rs q
 · exact h' pins s σ H xs us Q I rs q
def zY:CallR X (.type "tuple") (fun xs H Q=> ∃p ys,xs=[.ref p]/\((SqL X.K H p ys/\ ∀l,H l=none->Q (.ref l) (upd H l (.tup ys)))\/(SqT X.K H p ys/\Q (.ref p) H))):=by
 intro pins s σ H xs us Q I r h;obtain ⟨p,ys,rfl,h⟩:=h;obtain ⟨u,rfl,rx⟩:=Zc r;cases rx;rcases h with ⟨hq,q⟩| ⟨hq,q⟩
 · obtain ⟨its,r',pl,hz⟩:=I.list hq;have hlen:=r'.length;refine call_tuple_list pl.isList (fun h' kp=>?_) (by simp only [aac]<;>omega);have I1:Inv X pins σ H {s with heap:=h'}:=I.kept (t':=s.toks) kp
   have I2:Inv X pins σ (upd H h'.objs.size (.tup ys)) {s with heap:=h'.push {cls:= .type "tuple",data:= .seq its.toArray}}:=
    I1.laid (t':=s.toks) (fun b o e=>aah _ e) (aan _) (show ObjOk X.prog X.w _ _ _ (.tup ys) from ⟨hz,its,r',IsTup.new _ _⟩)
   exact ⟨.ref h'.objs.size,_,I2,rfl,q _ (I1.hok.fresh (aan _))⟩
 · obtain ⟨its,r',pl,hz⟩:=I.tuple hq;exact call_tuple_same pl ⟨.ref p,H,I,rfl,q⟩
def tyV (K:aaa) (T:String) (x:V) (H:Hp):Prop:=match x with
 | .str _=>T= "str"
 | .int _=>T= "int"
 | .ref p=>(T= "list" /\ ∃xs,SqL K H p xs)\/(T= "tuple" /\ ∃o,K.lookup p=some o/\o.cls= .type "tuple" /\o.dict=none)\/
  (T= "dict" /\((∃kvs,H p=some (.dK kvs))\/ ∃kvs,H p=some (.dT kvs)))\/(T= "set" /\ ∃S n,H p=some (.set S n))
 |_=>False
def Vm {pins:List (Addr×Obj)} {σ:St} {H:Hp} {s:aaf} {T:String} {x:V} {v:Value} (I:Inv X pins σ H s) (r:RelV x v) (ty:tyV X.K T x H):
  s.TypeIs v T/\ ∀a,v= .ref a-> ∃ob,s.heap.get? a=some ob/\ob.dict=none:=by
 cases x with
 |str z=>
  obtain ⟨t,rfl⟩:=r;cases (show T= "str" from ty);exact ⟨typeIs_str s z t,fun _ e=>nomatch e⟩
 |int i=>
  obtain ⟨t,rfl⟩:=r;cases (show T= "int" from ty);exact ⟨typeIs_int s i t,fun _ e=>nomatch e⟩
 |ref p=>
  cases r;rcases ty with ⟨rfl,xs,hq⟩| ⟨rfl,o,hk,hc,hd⟩| ⟨rfl,hk⟩| ⟨rfl,S,n,hk⟩
  · obtain ⟨its,_,pl,_⟩:=I.list hq;refine ⟨pl.isList.typeIs,fun a e=>?_⟩;cases e;obtain ⟨o,n,e,c,hd,_⟩:=pl;exact ⟨o,e,hd⟩
  · refine ⟨⟨o,I.kIn p o hk,hc⟩,fun a e=>?_⟩;cases e;exact ⟨o,I.kIn _ o hk,hd⟩
  · have z: ∃o,s.heap.get? p=some o/\o.ExactDict:=by
     rcases hk with ⟨kvs,hk⟩| ⟨kvs,hk⟩
     · obtain ⟨_,_,_,_,o,_,_,e,ex,_⟩:=I.hok p _ hk;exact ⟨o,e,ex⟩
     · obtain ⟨_,_,_,_,o,_,_,e,ex,_⟩:=I.hok p _ hk;exact ⟨o,e,ex⟩
    obtain ⟨o,e,ex⟩:=z;refine ⟨⟨o,e,ex.1⟩,fun a e2=>?_⟩;cases e2;exact ⟨o,e,ex.2.1⟩
  · obtain ⟨o,_,_,_,e,ex,_⟩:=I.hok p _ hk;refine ⟨⟨o,e,ex.1⟩,fun a e2=>?_⟩;cases e2;exact ⟨o,e,ex.2.1⟩
 |_=>exact abp ty
def tBM0 (K:aaa) (T:String) (r:V->List V->Hp->VK->Prop) (to:TE):TE:=fun σ H Q=>to σ H fun x H1=>tyV K T x H1/\r x [] H1 Q
def tBM (K:aaa) (T:String) (r:V->List V->Hp->VK->Prop) (to:TE) (t:TA):TE:=fun σ H Q=>to σ H fun x H1=>tyV K T x H1/\t σ H1 fun xs H2=>r x xs H2 Q
variable {o e:Expr} {es:List Expr} {to:TE} {t:TA} {name:Str} {apos cpos:Pos} {T id:String} {r:V->List V->Hp->VK->Prop}
def Vy (pa:PlainAttrs T) (slot:Slot T name id) (hty:typeOf (.builtin id)=pure (.type "method_descriptor")) (hm:MtR X id r) (ho:PE X o to)
  (hbase:aaY o name X.env (eval o X.env)=eval o X.env:=by rfl) (hline:(apos.endLine==cpos.line)=true:=by rfl):PE X (.Call (.Attribute o name apos) [] [] cpos) (tBM0 X.K T r to):=by
 intro pins s σ H Q I h;refine wpAny_Call_method0_late hbase hline (thn (ho pins s σ H _ I h) fun v s1 ⟨x,H1,I1,r1,ty,q1⟩=>?_);obtain ⟨h1,h2⟩:=Vm I1 r1 ty;exact ⟨T,id,pa,slot,hty,h1,h2,Calls.callWith_builtin rfl (PySem.evalArgs_none (hm pins s1 σ H1 x [] v [] Q I1 r1 .nil q1))⟩
def KM (pa:PlainAttrs T) (slot:Slot T name id) (hty:typeOf (.builtin id)=pure (.type "method_descriptor")) (hm:MtR X id r) (ho:PE X o to) (ha:PA X (e::es) t)
  (hbase:aaY o name X.env (eval o X.env)=eval o X.env:=by rfl)
  (hfew:((aa7 cpos (aag (e::es) X.env)).all (fun x=>!x.1)&&(abK cpos (abh [] X.env)).all (fun x=>x.1.isSome)
   &&decide ((e::es).length+([]:List abO).length+(if ([]:List abO).isEmpty then 0 else 1)<30))=true:=by rfl)
  (hline:(apos.endLine==cpos.line)=true:=by rfl) (hs:WV X e es:=by rfl) (hplain:T9 X cpos es:=by rfl):
  PE X (.Call (.Attribute o name apos) (e::es) [] cpos) (tBM X.K T r to t):=by
 intro pins s σ H Q I h;refine wpAny_Call_method_late hbase hfew hline rfl (thn (ho pins s σ H _ I h) fun v s1 ⟨x,H1,I1,r1,ty,q1⟩=>?_);obtain ⟨h1,h2⟩:=Vm I1 r1 ty;refine ⟨T,id,pa,slot,hty,h1,h2,?_⟩;have hA:=ha cpos pins s1 σ H1 _ I1 q1;rw [hs] at hA ⊢;refine Calls.callWith_builtin (by show (false|| (aa7 cpos (aag es X.env)).any (·.1))=false;rw [hplain]<;>rfl) (Calls.evalArgs_plain ?_);exact thn hA fun us s2 ⟨vs,H2,I2,r2,q2⟩=>hm pins s2 σ H2 x vs v us Q I2 r1 r2 q2
/-xs.append(e),list.index on a module's tuple .. are MtR facts of 06m-/
end
def MtM (X:Cx) (id:String) (r:V->List V->Hp->VK->Prop):Prop:=
 ∀(pins:List (Addr×Obj)) (s:aaf) (σ:St) (H:Hp) (x:V) (xs:List V) (v:Value) (us:List Value) (Q:VK),Inv X pins σ H s->RelV x v->Vals xs us->r x xs H Q->
  wpAny (model X.prog X.w) X.A (call (.builtin id) (v::us)) (EP X pins σ Q) X.xe s
theorem Vals.one: ∀ {x:V} {us:List Value},Vals [x] us-> ∃u,us=[u]/\RelV x u
 |_,_,.cons r .nil=>⟨_,rfl,r⟩
theorem Vals.zero: ∀ {us:List Value},Vals [] us->us=[]
 |_,.nil=>rfl
def Vals.dropLast {xs:List V} {us:List Value} (h:Vals xs us):Vals xs.dropLast us.dropLast:=by
 induction h with
 |nil=>exact .nil
 |cons r t ih=>
  cases t with
  |nil=>exact .nil
  |cons q t'=>exact .cons r ih
def Xd {α:Type} (l:List α):l.eraseIdx (l.length-1)=l.dropLast:=by
 induction l with
 |nil=>rfl
 |cons a r ih=>
  cases r with
  |nil=>rfl
  |cons b r=>
   have e:(a::b::r).length-1=((b::r).length-1)+1:=by
    have h1:(a::b::r).length=r.length+2:=rfl;have h2:(b::r).length=r.length+1:=rfl;omega
   rw [e,List.eraseIdx_cons_succ,ih]
   all_goals rfl
section
variable {X:Cx} {pins:List (Addr×Obj)} {σ:St} {H:Hp} {s:aaf} {l b:Addr} {xs ys zs:List V}
def Inv.lset {its its':List Value} {n:Nat} {f:Array Value->Array Value} {t':Nat} (I:Inv X pins σ H s) (hH:H l=some (.lst xs))
  (e:s.heap.get? l=some {cls:= .type "list",data:= .seq its.toArray n}) (hf:f its.toArray=its'.toArray) (hv:Vals ys its') (hz:ys.length<=aae):
  Inv X pins σ (upd H l (.lst ys)) {s with heap:=s.heap.update l (Obj.mapSeq f),toks:=t'}:=by
 have q:=PySem.IsL.update e f;rw [hf] at q;refine I.write (x:=l) (e:=l) (by rw [hH];exact trivial) (.inl rfl) (fun b' u hb hu=>(Heap.get?_update_other s.heap (Obj.mapSeq f) (Ne.symm hb)).trans hu) ⟨_,q⟩ ?_;exact ⟨hz,its',_,hv,q⟩
def Inv.lnew {its:List Value} {t':Nat} (I:Inv X pins σ H s) (hv:Vals ys its) (hz:ys.length<=aae):
  Inv X pins σ (upd H s.heap.objs.size (.lst ys)) {s with heap:=s.heap.push {cls:= .type "list",data:= .seq its.toArray},toks:=t'}:=
 I.laid (fun _ _ q=>aah _ q) (aan _) ⟨hz,its,0,hv,aay _ rfl⟩
def Inv.fresh (I:Inv X pins σ H s):H s.heap.objs.size=none:=I.hok.fresh (aan _)
def Inv.lstM (I:Inv X pins σ H s) (hH:H l=some (.lst xs)):xs.length<=aae/\ ∃(its:List Value) (n:Nat),Vals xs its/\xs.length=its.length/\s.heap.get? l=some {cls:= .type "list",data:= .seq its.toArray n}:=by
 obtain ⟨z,its,n,r,e⟩:=I.hok l _ hH;exact ⟨z,its,n,r,r.length,e⟩
def Wg {n:Nat} (h:n<=aae):abf n=false:=by
 unfold abf;exact decide_eq_false (by omega)
end
section
variable {X:Cx}
def Ug:V->List V->Hp->VK->Prop:=fun x vs H Q=> ∃l xs y,x= .ref l/\vs=[y]/\H l=some (.lst xs)/\xs.length<aae/\Q .non (upd H l (.lst (xs++[y])))
def yM:MtM X "list.append" Ug:=by
 intro pins s σ H x vs v us Q I rx rv h;obtain ⟨l,xs,y,rfl,rfl,hH,hz,q⟩:=h;cases rx;obtain ⟨u,rfl,ru⟩:=rv.one;obtain ⟨z,its,n,r,hl,e⟩:=I.lstM hH;refine call_meets abY ⟨_,e,rfl⟩ F.entry_list_append (F.args_list_append_2 _ _) (PySem.list_append l its.toArray n u (by rw [aac];omega)) ⟨e,?_⟩;refine ⟨.non,_,I.lset (its':=its++[u]) hH e (by simp) (r.append (.cons ru .nil)) ?_,rfl,q⟩;rw [aad,List.length_singleton];omega
def Ue:V->List V->Hp->VK->Prop:=fun x vs H Q=> ∃l b xs zs,x= .ref l/\vs=[.ref b]/\H l=some (.lst xs)/\H b=some (.lst zs)/\xs.length+zs.length<=aae/\Q .non (upd H l (.lst (xs++zs)))
def Ys:MtM X "list.extend" Ue:=by
 intro pins s σ H x vs v us Q I rx rv h;obtain ⟨l,b,xs,zs,rfl,rfl,hH,hB,hz,q⟩:=h;cases rx;obtain ⟨u,rfl,ru⟩:=rv.one;cases ru;obtain ⟨z,its,n,r,hl,e⟩:=I.lstM hH;obtain ⟨z2,its2,n2,r2,hl2,e2⟩:=I.lstM hB;have hsz:its.toArray.size+its2.toArray.size<=aae:=by rw [aac,aac];omega
 have hlong: ¬(!its.toArray.isEmpty&&abf (its.toArray.size+its2.toArray.size))=true:=by
  rw [Wg hsz,Bool.and_false];exact aaB
 refine call_meets acf ⟨_,e,rfl⟩ F.entry_list_extend (F.args_list_extend_2 _ _)
  (AutoSeq1.list_extend_list_list_0 l its.toArray n b its2.toArray n2 hlong (by rw [aac];omega) (by omega)) ⟨e,e2,?_⟩
 refine ⟨.non,_,I.lset (its':=its++its2) hH e (by simp) (r.append r2) ?_,rfl,q⟩;rw [aad];omega
def rPop:V->List V->Hp->VK->Prop:=fun x vs H Q=> ∃l xs y,x= .ref l/\vs=[]/\H l=some (.lst xs)/\xs[xs.length-1]?=some y/\Q y (upd H l (.lst xs.dropLast))
def VD:MtM X "list.pop" rPop:=by
 intro pins s σ H x vs v us Q I rx rv h;obtain ⟨l,xs,y,rfl,rfl,hH,hy,q⟩:=h;cases rx;have hus:=rv.zero;subst hus;obtain ⟨z,its,n,r,hl,e⟩:=I.lstM hH;obtain ⟨u,hu,ru⟩:=r.get hy
 have hy':its.toArray[its.toArray.size-1]?=some u:=by
   show its.toArray[its.length-1]?=some u;rw [←Array.getElem?_toList,←hl];exact hu
 refine call_meets acn ⟨_,e,rfl⟩ F.entry_list_pop (F.args_list_pop_1 _) (MeetsSeq.list_pop_last l its.toArray n u hy' (by rw [aac];omega)) ⟨e,?_⟩;refine ⟨y,_,I.lset (its':=its.dropLast) hH e ?_ r.dropLast ?_,ru,q⟩
 · show its.toArray.eraseIdxIfInBounds (its.toArray.size-1)=its.dropLast.toArray;rw [aac,List.eraseIdxIfInBounds_toArray,Xd]
 · rw [List.length_dropLast];omega
def rCat:R2:=fun x y H Q=> ∃l b xs zs,x= .ref l/\y= .ref b/\H l=some (.lst xs)/\H b=some (.lst zs)/\xs.length+zs.length<=aae/\ ∀p,H p=none->Q (.ref p) (upd H p (.lst (xs++zs)))
def op_cat:OpR X (abu .Add) rCat:=by
 intro pins s σ H x y v u Q I rx ry h;obtain ⟨l,b,xs,zs,rfl,rfl,hH,hB,hz,q⟩:=h;cases rx;cases ry;obtain ⟨z,its,n,r,hl,e⟩:=I.lstM hH;obtain ⟨z2,its2,n2,r2,hl2,e2⟩:=I.lstM hB;refine PySem.P.add_list e e2 ?_ (by rw [aac,aac];omega);have ea:its.toArray++its2.toArray=(its++its2).toArray:=by simp
 rw [ea];exact ⟨.ref _,_,I.lnew (t':=s.toks) (r.append r2) (by rw [aad];omega),rfl,q _ I.fresh⟩
end
structure M1 (X:Cx) (o:Expr) (m:Str) (apos:Pos) (e:Expr) (cpos:Pos):Prop where
 base:aaY o m X.env (eval o X.env)=eval o X.env
 few:((aa7 cpos (aag [e] X.env)).all (fun x=>!x.1)&&(abK cpos (abh [] X.env)).all (fun x=>x.1.isSome)
  &&decide (([e]:List Expr).length+([]:List abO).length+(if ([]:List abO).isEmpty then 0 else 1)<30))=true
 line:(apos.endLine==cpos.line)=true
 trees:aa7 cpos (aag [e] X.env)=[(false,eval e X.env)]
structure M2 (X:Cx) (o:Expr) (m:Str) (apos:Pos) (e f:Expr) (cpos:Pos):Prop where
 base:aaY o m X.env (eval o X.env)=eval o X.env
 few:((aa7 cpos (aag [e,f] X.env)).all (fun x=>!x.1)&&(abK cpos (abh [] X.env)).all (fun x=>x.1.isSome)
  &&decide (([e,f]:List Expr).length+([]:List abO).length+(if ([]:List abO).isEmpty then 0 else 1)<30))=true
 line:(apos.endLine==cpos.line)=true
 trees:aa7 cpos (aag [e,f] X.env)=[(false,eval e X.env),(false,eval f X.env)]
end L2
namespace Att
open PySem PySem.W PySem.Calls PyProof.Rows
def yU {P:Params} {h:Heap}: ∀(ns:List Int) (vs:List Value),WellAll P h vs (ns.map WData.int)->IntsAre vs ns:=by
 intro ns
 induction ns with
 |nil=>
  intro vs w;rw [List.map_nil] at w;cases w;exact .nil
 |cons n ns ih=>
  intro vs w;rw [aaL] at w
  cases w with
  |cons a b=>
   cases a;exact .cons _ _ (ih _ b)
def XT {l:acS} {n:Nat} (hn:l.most=some n) {P:Params} {h:Heap} {args:List WData} {vals:List Value}
  (hpre:l.row.toRowW.claim.pre args=true) (hwl:WellAll P h vals args):
  ∃a vs ns,vals=[aa8 a]/\args=[WData.list (ns.map WData.int)]/\h.get? a=some {cls:= .type "list",data:= .seq vs.toArray}/\IntsAre vs ns/\ns.length<=n:=by
 have hsh:WShape.hasAll [] args [.list .int]=true:=(pre_splitW hpre).1;have hc:l.pre.holds [] {args:=args}=true:=(pre_splitW hpre).2;obtain ⟨d,r,rfl,h1,h2⟩:=hasAllW_cons hsh;obtain rfl:=hasAllW_nil h2;obtain ⟨xs,rfl,h3⟩:=hasW_list h1;obtain ⟨ns,rfl⟩:=items_int h3
 have hlen:ns.length<=n:=by
  unfold OpenLaw.pre at hc
  have h4:(WTm.not (.lt (.lit (.int (n:Int))) (.len (.arg 0)))).holds [] {args:=[.list (ns.map .int)]}=true:=by
   have h4:=(holds_andW hc).1;rw [hn] at h4;exact h4
  have h5:=condW_of h4 (w_not (w_lt w_lit (w_len_list (w_arg rfl))));rw [aaC] at h5;refine Nat.le_of_not_lt fun q=>?_
  have q':(n:Int)< ((ns.length:Nat):Int):=by omega
  first
   | (rw [decide_eq_true q'] at h5;exact absurd h5 (by decide))
   | (simp at h5;omega)
 cases hwl with
 |cons w1 w2=>
  cases w2
  cases w1 with
  |list ho hall=>exact ⟨_,_,ns,rfl,rfl,ho,yU ns _ hall,hlen⟩
def X5 (l:acS) (args:List WData):l.row.toRowW.claim.post args (.bool true) args=true:=
 postW_of (r:=l.row.toRowW) (X:=(true==true))
  (show WShape.has [] (.bool true) .bool=true by first|rfl|decide|simp [WShape.has,WShape.arms,WShape.armsAll])
  (show (WTm.eq .res (.lit (.bool true))).value [] {args:=args,res:=some (.bool true),after:=args}=some (.bool (true==true)) from w_eq_bool (w_res rfl) w_lit) rfl
end Att
namespace L2
open PySem PySem.Spec PyProof.Rows
theorem Qq: ∀ {vs:List Value} {ns:List Int},IntsAre vs ns->Vals (ns.map V.int) vs
 |_,_,.nil=> .nil
 |_,_,.cons n t h=> .cons ⟨t,rfl⟩ (Qq h)
def Only (H:Hp):Prop:= ∀b,H b=none\/ ∃o xs,H b=some (.frz o (.lst xs))
def K0 {P:aaE} {w:World} {K:aaa} {mg mb:Zj} {CX:CXT} {k:Nat} {fa a:Addr} {fd:abo} {x:Str} {sp:Sp} {s₁:aaf} {vs:List Value} {ns:List Int}
  (KX:K.In s₁.heap) (hns:s₁.heap.Ns aam mg) (hb:s₁.heap.Ns builtinsNs mb) (hbb: ∀x:Str,x≠ "__name__" ->mb x=abq x) (hlim:s₁.heap.NoLimit) (hg:s₁.gens= #[])
  (ha:s₁.heap.get? a=some {cls:= .type "list",data:= .seq vs.toArray}) (hi:IntsAre vs ns) (hl:ns.length<=aae) (hr:Room k callerA)
  (F: ∀base:Heap,K.In base->base.Ns aam mg->FnOk P w K mg base CX k fa fd [x] sp) (hbind: ∀(s:aaf) (u:Value),BindsTo s fd ⟨[u],[]⟩ [(x,u)])
  (hsp: ∀H:Hp,Only H->SqL K H a (ns.map V.int)->sp [.ref a] H (fun v _=>v= .bl true) fun _ _ _=>False)
  (hCX: ∀H e s',CX [] H s₁ (fun _ _ _=>False) e s'->False):
  codeAny (model P w) callerA (.call (.ref fa) ⟨[.ref a],[]⟩) (fun r s'=>r= .ok (.ret (.bool true))/\OldK s₁.heap s'.heap/\s'.os=s₁.os/\acM s'.gens) s₁:=by
 have rv:=Qq hi;have lenV:=hi.length
 have core: ∀H:Hp,Only H->SqL K H a (ns.map V.int)->HOk P w H s₁.heap->(∀b,H b≠none->b=a)->(H a≠none->K.lookup a=none)->
    codeAny (model P w) callerA (.call (.ref fa) ⟨[.ref a],[]⟩) (fun r s'=>r= .ok (.ret (.bool true))/\OldK s₁.heap s'.heap/\s'.os=s₁.os/\acM s'.gens) s₁:=by
  intro H hO hS hok hA hK;have base_of: ∀ {b:Addr} {o:Obj},s₁.heap.get? b=some o->H b=none->(hidT s₁.heap H).get? b=some o:=fun e n=>K4 e n
  have noA: ∀ {b:Addr} {o:Obj} {es:Array DictEntry} {ep:Nat},s₁.heap.get? b=some o->o.data= .dict es ep->H b=none:=fun {b o es ep} e d=>by
    cases q:H b with
    |none=>rfl
    |some u=>
      have e':b=a:=hA b (by rw [q];simp);subst e';rw [ha] at e;cases e;have d':Data.seq vs.toArray _=Data.dict es ep:=d;cases d'
  have nsK: ∀ {b:Addr} {m:Zj},s₁.heap.Ns b m->(hidT s₁.heap H).Ns b m:=fun {b m} ⟨o,es,ep,e,d,r⟩=>⟨o,es,ep,base_of e (noA e d),d,r⟩
  have hKb:K.In (hidT s₁.heap H):=fun b o e=>base_of (KX b o e) (by
    cases q:H b with
    |none=>rfl
    |some u=>
      have e':b=a:=hA b (by rw [q];simp);subst e'
      rw [hK (by rw [q];simp)] at e;cases e)
  have hM:Mod K mg (hidT s₁.heap H):=⟨hKb,nsK hns,⟨mb,nsK hb,hbb⟩,let ⟨mc,h1,h2⟩:=hlim;⟨mc,nsK h1,h2⟩⟩
  have e0:Env0 P w K mg (hidT s₁.heap H) callerA [] s₁ H:=⟨rfl,hM,fun b o e=>Ux e,Nat.le_of_eq (YH _ _),trivial,fun b hb=>absurd (show b∈([]:List Addr) from hb) (by simp),hok,.of_eq hg⟩
  refine codeAny_mono ((F _ hKb (nsK hns)).run callerA [] s₁ H ⟨[.ref a],[]⟩ [.ref a] [.ref a] _ _ hr e0 (hbind s₁ (.ref a)) (.cons rfl .nil) (hsp H hO hS)) fun r s' h=>?_
  cases r with
  |error e=>exact (hCX H e s' h).elim
  |ok fl=>
    cases fl with
    |next=>exact abp h
    |brk=>exact abp h
    |cont=>exact abp h
    |ret u=>
      obtain ⟨v,H',os,bare,un,hok',r',q⟩:=h;have q':v= .bl true:=q;subst q';obtain rfl:u=abF true:=r';refine ⟨rfl,OldK.of_keep fun b o e=>?_,os,bare⟩
      cases q:H b with
      |none=>exact un.keep b o e q (by intro z;exact absurd (show b∈([]:List Addr) from z) (by simp)) (by simp)
      |some u=>
       rcases hO b with z| ⟨ob,xs,z⟩
       · rw [q] at z;cases z
       · have z2:=un.frzs b ob _ z;obtain ⟨e1,_⟩:=hok b _ z;obtain ⟨e2,_⟩:=hok' b _ z2;rw [e] at e1;cases e1;exact e2
 cases hk:K.lookup a with
 |some o=>
  have e:=KX a o hk;rw [ha] at e;cases e;refine core (fun _=>none) (fun _=> .inl rfl) (.inr ⟨_,vs.toArray,_,hk,rfl,rfl,rfl,by rw [aac,lenV];exact hl,by simpa using rv⟩) (fun b u z=>by have z':(none:Option HO)=some u:=z;cases z') (fun b z=>absurd rfl z) fun z=>absurd rfl z
 |none=>
  refine core (fun b=>if b=a then some (.frz {cls:= .type "list",data:= .seq vs.toArray} (.lst (ns.map V.int))) else none) (fun b=>?_) (.inl (.inr ⟨{cls:= .type "list",data:= .seq vs.toArray},if_pos rfl⟩)) (fun b u z=>?_) (fun b z=>?_) fun _=>hk
  · by_cases hb:b=a
    · exact .inr ⟨_,_,if_pos hb⟩
    · exact .inl (if_neg hb)
  · by_cases hb:b=a
    · have z':=(if_pos hb).symm.trans z;cases z';subst hb;exact ⟨ha,by rw [aaC];exact hl,vs,_,rv,ha⟩
    · have z':=(if_neg hb).symm.trans z;cases z'
  · by_cases hb:b=a
    · exact hb
    · exact absurd (if_neg hb) z
end L2
/-THE LAST THEOREM (shape;LID,My.*are yours):
 My.Adr:a structure of the addresses that your layer names (classes,functions);My.Txt K t:a structure (Prop) of the equations over K;
 My.txt_mk:{K} {implicit addresses ..} (e1:nsIn K aam "law" =some (some (.ref f))) (e2:K.lookup f=some ⟨oc,od,.func (fnOf "law" "law" params body scope dV kV doc pm an cdv ct),sl⟩) (e3:abX K cdv "law" =true) .. : ∃t,My.Txt K t
set_option maxRecDepth 100000 in
set_option maxHeartbeats 0 in
theorem PySem.Challenge.cw_LID_holds:PySem.Challenge.rw_LID.Holds:=by
 w_on;o_law;k_head;(case hw=>w_witness2)
 k_fill
 refine L2.walk_of (l:=PySem.Challenge.rw_LID) (n:=63) (k:=40) (x:= "script") (CX:=fun w=> ..) (sp:=fun _=>My.sp_law) rfl (by decide) rfl ⟨rfl,by decide,by decide⟩ (fun w h Y=>PySem.W.kIn_of Y) ?F ?S ?C
 case F=>
  intro w mg fa h KX G hmg
  have T: ∃t,My.Txt (L2.KOf KX) t:=by
   dsimp only [L2.KOf]                          --K must stand as «<heap const>w.params» for k_is;refine' My.txt_mk ?e1 ?e2 ?e3 ..
   (case e1=>PySem.W.k_is)                    --in the order:a name->its address->its object->its parts
   (case e2=>PySem.W.k_is)
   ..
  obtain ⟨t,T⟩:=T;have e0:=hmg.symm.trans (aa6 KX G T.law);cases e0                                       --fa is the law's own address;exact ⟨_,fun s u=> .of_eq rfl,fun base kb nb=>My.law_fn T kb nb⟩     --if «.of_eq rfl» comes too early:refine' ⟨_,?b,fun base kb nb=>My.law_fn T kb nb⟩;exact fun s u=> .of_eq rfl
 case S=>exact fun w H a ns hl hO hS=> ..
 case C=>exact ..
(the tactic k_is has no namespace:write k_is)-/
namespace L2
open PySem PySem.Spec PyProof.Rows
def x3 (s:Stmt) (j:Nat):Stmt:=match s with
 | .ClassDef _ _ _ body _ _ _ _ _ _ _=>body.getD j (.Pass ⟨0,0,0,0⟩)
 |_=> .Pass ⟨0,0,0,0⟩
def wQ (s:Stmt):Arguments:=match s with
 | .FunctionDef _ a _ _ _ _ _ _ _ _=>a
 |_=> {posonlyargs:=[],args:=[],vararg:=none,kwonlyargs:=[],kw_defaults:=[],kwarg:=none,defaults:=[]}
def qe (s:Stmt):List Stmt:=match s with
 | .FunctionDef _ _ b _ _ _ _ _ _ _=>b
 |_=>[]
def je (s:Stmt):Scope:=match s with
 | .FunctionDef _ _ _ _ _ _ sc _ _ _=>sc
 |_=> {kind:= .function,names:=[],isGenerator:=false,isCoroutine:=false}
abbrev CX0:CXT:=fun _ _ _ _ _ _=>False
abbrev E0:XK:=fun _ _ _=>False
def Yc {X:Cx}:xT CX0 X E0:=fun _ _ _ _ _ _ _ h=>h.elim
structure Fun (K:aaa) (x qual:Str) (st:Stmt) (f:Addr) (fd:abo):Prop where
 ex: ∃(oc:Value) (od:Option Addr) (kV doc pm:Value) (an:Option Addr) (cdv ct:Value) (osl:Array (Option Value)),
  fd=abr x qual (wQ st) (qe st) (je st) .none kV doc pm an cdv ct/\K.lookup f=some ⟨oc,od,.func fd,osl⟩/\abX K cdv qual=true
 kp:aaK K (.ref f)=true
section
variable {P:aaE} {w:World} {K:aaa} {mg:Zj} {base:Heap}
def Fun.ok {x qual:Str} {st:Stmt} {f:Addr} {fd:abo} {N ps:List Str} {k:Nat} {sp:Sp} (F:Fun K x qual st f fd) (S:FnScope N ps (je st)) (len: ∀vs H Q E,sp vs H Q E->vs.length=ps.length)
  (hbody: ∀(cdv:Value) (A:aa5) (outer:List Env) (s:aaf) (H:Hp) (vs:List V) (Q:VK) (E:XK),Room k (A.deeper (ace qual (je st) s.heap.objs.size f cdv))->sp vs H Q E->
   ∃t,PSs (cxOf CX0 P w K mg base N qual (je st) f cdv A outer s H E).nox (qe st) t/\t {nx:=fun _ H'=>Q .non H',rt:=Q} (start N vs) H):FnOk P w K mg base CX0 (k+1) f fd ps sp:=by
 obtain ⟨oc,od,kV,doc,pm,an,cdv,ct,osl,rfl,lk,hcd⟩:=F.ex;refine ue lk hcd S len fun A outer s H vs Q E hr hsp=>?_
 obtain ⟨t,h,q⟩:=hbody cdv A outer s H vs Q E hr hsp;exact ⟨t,h.nox,q⟩
def Fun.binds {x qual:Str} {st:Stmt} {f:Addr} {fd:abo} {ps:List Str} (F:Fun K x qual st f fd)
  (h: ∀(kV doc pm:Value) (an:Option Addr) (cdv ct:Value) (us:List Value),us.length=ps.length->bindArgs (abr x qual (wQ st) (qe st) (je st) .none kV doc pm an cdv ct) ⟨us,[]⟩=pure (ps.zip us)):Binds K fd ps []:=by
 obtain ⟨oc,od,kV,doc,pm,an,cdv,ct,osl,rfl,lk,hcd⟩:=F.ex;exact .all (h kV doc pm an cdv ct)
def VH {x qual:Str} {st:Stmt} {f:Addr} {oc:Value} {od an:Option Addr} {osl:Array (Option Value)} {kV doc pm cdv ct:Value} (l:K.lookup f=some ⟨oc,od,.func (abr x qual (wQ st) (qe st) (je st) .none kV doc pm an cdv ct),osl⟩)
 (c:abX K cdv qual=true) (k:aaK K (.ref f)=true):Fun K x qual st f (abr x qual (wQ st) (qe st) (je st) .none kV doc pm an cdv ct):=⟨⟨oc,od,kV,doc,pm,an,cdv,ct,osl,rfl,l,c⟩,k⟩
end
def Same (H H':Hp):Prop:= ∀b o,H b=some o->H' b=some o
def Same.refl (H:Hp):Same H H:=fun _ _ h=>h
def Same.trans {H H1 H2:Hp} (a:Same H H1) (b:Same H1 H2):Same H H2:=fun c o h=>b c o (a c o h)
def Same.free {H H':Hp} (e:Same H H') {l:Addr} (h:H' l=Option.none):H l=Option.none:=by
 cases q:H l with
 |none=>rfl
 |some o=>
  rw [e l o q] at h;cases h
end L2
set_option maxHeartbeats 4000000
namespace M
open PySem PySem.Spec L2
open PyProof.Rows hiding St
inductive D where
 |non|bl (b:Bool)|int (i:Int)|str (x:Str)
 |tup (ds:List D)|lst (ds:List D)|scr (ds:List D)|dic (ks:List Key) (vs:List D)|dit (ks:List (List Key)) (vs:List D)|exn (c:Str)|fdc (ks:List Key) (vs:List D)|hdc (ks:List Key) (vs:List D)|obj (c:Str) (ns:List Str) (vs:List D)
mutual
def D.imm:D->Bool
 | .non=>true
 | .bl _=>true
 | .int _=>true
 | .str _=>true
 | .tup ds=>D.imms ds
 | .lst _=>false
 | .scr _=>false
 | .dic _ _=>false
 | .dit _ _=>false
 | .exn _=>true
 | .fdc _ _=>false
 | .hdc _ _=>false
 | .obj _ _ _=>false
def D.imms:List D->Bool
 | []=>true
 |d::ds=>D.imm d&&D.imms ds
end
inductive Res (α:Type) where
 |ok (a:α)
 |exc (c:Str)
 |stuck
noncomputable def Res.bind {α β:Type} (r:Res α) (f:α->Res β):Res β:=
 match r with
 | .ok a=>f a
 | .exc c=> .exc c
 | .stuck=> .stuck
instance:Monad Res where
 pure:=Res.ok
 bind:=Res.bind
def zi {α β:Type} {a:α} {f:α->Res β}:(Res.ok a>>=f)=f a:=rfl
def ja {α β:Type} {r:Res α} {f:α->Res β} {b:β} (h:(r>>=f)= .ok b): ∃a,r= .ok a/\f a= .ok b:=by
 cases r with
 |ok a=>exact ⟨a,rfl,h⟩
 |exc c=>cases h
 |stuck=>cases h
noncomputable def must {α:Type} (c:Prop) [Decidable c] (r:Res α):Res α:=if c then r else .stuck
def jn {α:Type} {c:Prop} [Decidable c] {r:Res α} {a:α} (h:must c r= .ok a):c/\r= .ok a:=by
 unfold must at h
 by_cases hc:c
 · rw [if_pos hc] at h;exact ⟨hc,h⟩
 · rw [if_neg hc] at h;cases h
def jl {α:Type} {c:Prop} [Decidable c] {r:Res α} (h:c):must c r=r:=if_pos h
def LsK (K:aaa) (H:Hp) (a:Addr) (xs:List V):Prop:=
 (∃o,H a=some (.frz o (.lst xs)))\/
  ∃(o:Obj) (its:Array Value) (n:Nat),K.lookup a=some o/\o.cls= .type "list" /\o.dict=none/\o.data= .seq its n/\its.size<=aae/\Vals xs its.toList
def LsK.sql {K:aaa} {H:Hp} {a:Addr} {xs:List V} (h:LsK K H a xs):SqL K H a xs:=by
 rcases h with h|h
 · exact .inl (.inr h)
 · exact .inr h
mutual
inductive Rep (K:aaa):(Addr->Prop)->Hp->V->D->Prop where
 |non {A H}:Rep K A H .non .non
 |bl {A H} (b:Bool):Rep K A H (.bl b) (.bl b)
 |int {A H} (i:Int):Rep K A H (.int i) (.int i)
 |str {A H} (x:Str):x.length<=aae->Rep K A H (.str x) (.str x)
 |tup {A H} {a:Addr} {xs:List V} {ds:List D}:H a=some (.tup xs)->Reps K A H xs ds->Rep K A H (.ref a) (.tup ds)
 |lst {A H} {a:Addr} {xs:List V} {ds:List D}:H a=some (.lst xs)->A a->Reps K (fun c=>A c/\c≠a) H xs ds->Rep K A H (.ref a) (.lst ds)
 |lsk {A H} {a:Addr} {xs:List V} {ds:List D}:LsK K H a xs->Reps K A H xs ds->Rep K A H (.ref a) (.scr ds)
 |dic {A H} {a:Addr} {kvs:List (Key×V)} {vs:List V} {ks:List Key} {ds:List D}:H a=some (.dK kvs)->A a->kvs.map (·.1)=ks->kvs.map (·.2)=vs->Reps K (fun c=>A c/\c≠a) H vs ds->Rep K A H (.ref a) (.dic ks ds)
 |dit {A H} {a:Addr} {kvs:List ((List Key)×V)} {vs:List V} {ks:List (List Key)} {ds:List D}:H a=some (.dT kvs)->A a->kvs.map (·.1)=ks->kvs.map (·.2)=vs->Reps K (fun c=>A c/\c≠a) H vs ds->Rep K A H (.ref a) (.dit ks ds)
 |exn {A H} {a b C:Addr} {o:Obj} {c:Str}:H a=some (.frz o (.own b))->o.cls= .ref C->aao K aam c=some (some (.ref C))->Rep K A H (.ref a) (.exn c)
 |fdc {A H} {a:Addr} {kvs:List (Key×V)} {vs:List V} {ks:List Key} {ds:List D}:((H a=some (.dK kvs)/\A a)\/ ∃o,H a=some (.frz o (.dK kvs)))->kvs.map (·.1)=ks->kvs.map (·.2)=vs->Reps K (fun c=>A c/\c≠a) H vs ds->Rep K A H (.ref a) (.fdc ks ds)
 |hdc {A H} {a:Addr} {kvs:List (Key×V)} {vs:List V} {ks:List Key} {ds:List D}:(∃o,H a=some (.frz o (.dK kvs)))->kvs.map (·.1)=ks->kvs.map (·.2)=vs->Reps K (fun c=>A c/\c≠a) H vs ds->Rep K A H (.ref a) (.hdc ks ds)
 |obj {A H} {a C dx:Addr} {fs:List (Str×V)} {vs:List V} {c:Str} {ns:List Str} {ds:List D}:H a=some (.ins C dx fs)->A a->(aao K aam c=some (some (.ref C))/\fs.map (·.1)=ns)->fs.map (·.2)=vs->Reps K (fun c=>A c/\c≠a) H vs ds->Rep K A H (.ref a) (.obj c ns ds)
inductive Reps (K:aaa):(Addr->Prop)->Hp->List V->List D->Prop where
 |nil {A H}:Reps K A H [] []
 |cons {A H} {v:V} {d:D} {vs:List V} {ds:List D}:Rep K A H v d->Reps K A H vs ds->Reps K A H (v::vs) (d::ds)
end
def Stay (A:Zi) (H H':Hp):Prop:= ∀a o,H a=some o->(Mut (some o)->A a)->H' a=some o
def Stay.mono {A B:Zi} {H H':Hp} (h:Stay A H H') (w: ∀a,B a->A a):Stay B H H':=fun a o e m=>h a o e fun z=>w a (m z)
section
variable {K:aaa}
def LsK.stay {A:Zi} {H H':Hp} {a:Addr} {xs:List V} (h:LsK K H a xs) (st:Stay A H H'):LsK K H' a xs:=by
 rcases h with ⟨o,e⟩|h
 · exact .inl ⟨o,st a _ e (fun z=>z.elim)⟩
 · exact .inr h
def Reps.stay {A A':Zi} {H H':Hp} {vs:List V} {ds:List D} (r:Reps K A H vs ds):Stay A H H'->(∀a,A a->A' a)->Reps K A' H' vs ds:=by
 refine Reps.rec (motive_1:=fun A H v d _=> ∀B:Addr->Prop,Stay A H H'->(∀a,A a->B a)->Rep K B H' v d) (motive_2:=fun A H v d _=> ∀B:Addr->Prop,Stay A H H'->(∀a,A a->B a)->Reps K B H' v d) (fun _ _ _=> .non) (fun b _ _ _=> .bl b) (fun i _ _ _=> .int i) (fun x h _ _ _=> .str x h) (fun e _ r _ s w=> .tup (s _ _ e fun z=>z.elim) (r _ s w)) (fun e a _ r _ s w=> .lst (s _ _ e fun _=>a) (w _ a) (r _ ?_ ?_)) (fun e _ r _ s w=> .lsk (e.stay s) (r _ s w)) (fun e a k l _ r _ s w=> .dic (s _ _ e fun _=>a) (w _ a) k l (r _ ?_ ?_)) (fun e a k l _ r _ s w=> .dit (s _ _ e fun _=>a) (w _ a) k l (r _ ?_ ?_)) (fun e k l _ s w=> .exn (s _ _ e fun z=>z.elim) k l) (fun e k l _ r _ s w=> .fdc (e.elim (fun z=> .inl ⟨s _ _ z.1 fun _=>z.2,w _ z.2⟩) (fun z=>z.elim fun _ z=> .inr ⟨_,s _ _ z fun z=>z.elim⟩)) k l (r _ ?_ ?_)) (fun e k l _ r _ s w=> .hdc (e.elim fun _ z=>⟨_,s _ _ z fun z=>z.elim⟩) k l (r _ ?_ ?_)) (fun e a k l _ r _ s w=> .obj (s _ _ e fun _=>a) (w _ a) k l (r _ ?_ ?_)) (fun _ _ _=> .nil) (fun _ _ h t _ s w=> .cons (h _ s w) (t _ s w)) r A'
 any_goals exact s.mono fun _ z=>z.1
 all_goals exact fun _ z=>⟨w _ z.1,z.2⟩
def Rep.stay {A A':Zi} {H H':Hp} {v:V} {d:D} (r:Rep K A H v d) (s:Stay A H H') (w: ∀a,A a->A' a):Rep K A' H' v d:=by
 cases Reps.stay (.cons r .nil) s w;assumption
def Same.stay {A:Zi} {H H':Hp} (h:Same H H'):Stay A H H':=fun a o e _=>h a o e
variable {A A':Zi} {H H':Hp}
def Rep.grow {v:V} {d:D} (r:Rep K A H v d) (h:Same H H'):Rep K A H' v d:=r.stay (Same.stay h) fun _ z=>z
def Reps.grow {v:List V} {d:List D} (r:Reps K A H v d) (h:Same H H'):Reps K A H' v d:=r.stay (Same.stay h) fun _ z=>z
def Rep.weak {v:V} {d:D} (r:Rep K A H v d) (w: ∀a,A a->A' a):Rep K A' H v d:=r.stay (fun _ _ e _=>e) w
def Reps.weak {v:List V} {d:List D} (r:Reps K A H v d) (w: ∀a,A a->A' a):Reps K A' H v d:=r.stay (fun _ _ e _=>e) w
def Reps.imm {A A':Zi} {H:Hp} {vs:List V} {ds:List D} (r:Reps K A H vs ds):D.imms ds=true->Reps K A' H vs ds:=by
 refine Reps.rec (motive_1:=fun _ H v d _=>d.imm=true->Rep K A' H v d) (motive_2:=fun _ H v d _=>D.imms d=true->Reps K A' H v d) (fun _=> .non) (fun b _=> .bl b) (fun i _=> .int i) (fun x h _=> .str x h) (fun e _ r i=> .tup e (r (by simpa only [D.imm] using i))) ?_ ?_ ?_ ?_ (fun e k l _=> .exn e k l) ?_ ?_ ?_ (fun _=> .nil) (fun _ _ h t i=>?_) r
 case refine_8=>simp only [D.imms,aal] at i;exact .cons (h i.1) (t i.2)
 all_goals intros;rename_i i;simp [D.imm] at i
def Rep.imm {A A':Zi} {H:Hp} {v:V} {d:D} (r:Rep K A H v d) (i:d.imm=true):Rep K A' H v d:=by
 cases Reps.imm (A':=A') (.cons r .nil) (by simp [D.imms,i]);assumption
theorem Reps.length: ∀ {A:Zi} {H:Hp} {vs:List V} {ds:List D},Reps K A H vs ds->vs.length=ds.length
 |_,_,_,_,.nil=>rfl
 |_,_,_,_,.cons _ t=>by simp [Reps.length t]
theorem Reps.get: ∀ {A:Zi} {H:Hp} {vs:List V} {ds:List D} {i:Nat} {d:D},Reps K A H vs ds->ds[i]?=some d-> ∃v,vs[i]?=some v/\Rep K A H v d
 |_,_,_,_,_,_,.nil,e=>by simp at e
 |_,_,_,_,0,_,.cons r _,e=>by simp at e;subst e;exact ⟨_,rfl,r⟩
 |_,_,_,_,i+1,d,.cons _ t,e=>by
  obtain ⟨v,h1,h2⟩:=Reps.get (i:=i) (d:=d) t (by simpa using e);exact ⟨v,by simpa using h1,h2⟩
theorem Reps.get': ∀ {A:Zi} {H:Hp} {vs:List V} {ds:List D} {i:Nat} {v:V},Reps K A H vs ds->vs[i]?=some v-> ∃d,ds[i]?=some d/\Rep K A H v d
 |_,_,_,_,_,_,.nil,e=>by simp at e
 |_,_,_,_,0,_,.cons r _,e=>by simp at e;subst e;exact ⟨_,rfl,r⟩
 |_,_,_,_,i+1,d,.cons _ t,e=>by
  obtain ⟨v,h1,h2⟩:=Reps.get' (i:=i) t (by simpa using e);exact ⟨v,by simpa using h1,h2⟩
theorem Reps.append: ∀ {A:Zi} {H:Hp} {vs ws:List V} {ds es:List D},Reps K A H vs ds->Reps K A H ws es->Reps K A H (vs++ws) (ds++es)
 |_,_,_,_,_,_,.nil,s=>s
 |_,_,_,_,_,_,.cons r t,s=> .cons r (Reps.append t s)
theorem Reps.take: ∀ {A:Zi} {H:Hp} {vs:List V} {ds:List D} (n:Nat),Reps K A H vs ds->Reps K A H (vs.take n) (ds.take n)
 |_,_,_,_,0,_=> .nil
 |_,_,_,_,_+1,.nil=> .nil
 |_,_,_,_,n+1,.cons r t=> .cons r (Reps.take n t)
theorem Reps.drop: ∀ {A:Zi} {H:Hp} {vs:List V} {ds:List D} (n:Nat),Reps K A H vs ds->Reps K A H (vs.drop n) (ds.drop n)
 |_,_,_,_,0,r=>r
 |_,_,_,_,_+1,.nil=> .nil
 |_,_,_,_,n+1,.cons _ t=>Reps.drop n t
def Reps.dropLast {vs:List V} {ds:List D} (r:Reps K A H vs ds):Reps K A H vs.dropLast ds.dropLast:=by
 rw [List.dropLast_eq_take,List.dropLast_eq_take,r.length];exact r.take _
def Reps.isEmpty {xs:List V} {ds:List D} (r:Reps K A H xs ds):ds.isEmpty=xs.isEmpty:=by cases r<;>rfl
def Rep.lstE {v:V} {ds:List D} (r:Rep K A H v (.lst ds)): ∃a xs,v= .ref a/\H a=some (.lst xs)/\A a/\Reps K (fun c=>A c/\c≠a) H xs ds:=by
 cases r with
 |lst e h r=>exact ⟨_,_,rfl,e,h,r⟩
def Rep.scrE {v:V} {ds:List D} (r:Rep K A H v (.scr ds)): ∃a xs,v= .ref a/\LsK K H a xs/\Reps K A H xs ds:=by
 cases r with
 |lsk e r=>exact ⟨_,_,rfl,e,r⟩
def Rep.tupE {v:V} {ds:List D} (r:Rep K A H v (.tup ds)): ∃a xs,v= .ref a/\H a=some (.tup xs)/\Reps K A H xs ds:=by
 cases r with
 |tup e r=>exact ⟨_,_,rfl,e,r⟩
def Rep.intE {v:V} {i:Int} (r:Rep K A H v (.int i)):v= .int i:=by cases r;rfl
def Rep.blE {v:V} {b:Bool} (r:Rep K A H v (.bl b)):v= .bl b:=by cases r;rfl
def Rep.strE {v:V} {x:Str} (r:Rep K A H v (.str x)):v= .str x/\x.length<=aae:=by cases r;exact ⟨rfl,by assumption⟩
def Rep.nonE {v:V} (r:Rep K A H v .non):v= .non:=by cases r;rfl
def Reps.low {a:Addr} {vs:List V} {ds:List D} (r:Reps K (fun c=>A c/\c≠a) H vs ds):Reps K A H vs ds:=r.weak fun _ z=>z.1
def Reps.inDom {A:Zi} {H:Hp} {vs:List V} {ds:List D} (r:Reps K A H vs ds):Reps K (fun c=>A c/\H c≠none) H vs ds:=by
 refine Reps.rec (motive_1:=fun A H v d _=>Rep K (fun c=>A c/\H c≠none) H v d) (motive_2:=fun A H v d _=>Reps K (fun c=>A c/\H c≠none) H v d) .non (fun b=> .bl b) (fun i=> .int i) (fun x h=> .str x h) (fun e _ r=> .tup e r) (fun e a _ r=> .lst e ⟨a,?_⟩ ?_) (fun e _ r=> .lsk e r) (fun e a k l _ r=> .dic e ⟨a,?_⟩ k l ?_) (fun e a k l _ r=> .dit e ⟨a,?_⟩ k l ?_) (fun e k l=> .exn e k l) (fun e k l _ r=> .fdc (e.elim (fun z=> .inl ⟨z.1,z.2,by simp [z.1]⟩) .inr) k l ?_) (fun e k l _ r=> .hdc e k l ?_) (fun e a k l _ r=> .obj e ⟨a,?_⟩ k l ?_) .nil (fun _ _ h t=> .cons h t) r
 any_goals exact r.weak fun _ z=>⟨⟨z.1.1,z.2⟩,z.1.2⟩
 all_goals simp [e]
def Rep.inDom {A:Zi} {H:Hp} {v:V} {d:D} (r:Rep K A H v d):Rep K (fun c=>A c/\H c≠none) H v d:=by
 cases Reps.inDom (.cons r .nil);assumption
def Same.upd {H:Hp} {p:Addr} {o:HO} (h:H p=none):Same H (L2.upd H p o):=fun b u e=>by rw [jK (qj e h)];exact e
def Reps.laid {p:Addr} {o:HO} {vs:List V} {ds:List D} (r:Reps K A H vs ds) (hp:H p=none):Reps K (fun c=>A c/\c≠p) (L2.upd H p o) vs ds:=
 (r.inDom.grow (Same.upd hp)).weak fun c z=>⟨z.1,fun e=>z.2 (by rw [e];exact hp)⟩
end
inductive Slot where
 |un
 |own (d:D)
 |shr (d:D)
abbrev Sl:=List Slot
def qR (env:Sl) (σ:St) (a:Addr):Prop:= ∃(i:Nat) (d:D),env[i]?=some (.own d)/\σ[i]?=some (some (.ref a))
abbrev Sf (G:Zi) (env:Sl) (σ:St):Addr->Prop:=fun a=> ¬qR env σ a/\G a
inductive Top (K:aaa) (A:Zi) (H:Hp) (a:Addr):D->Prop where
 |lst {xs:List V} {ds:List D}:H a=some (.lst xs)->Reps K A H xs ds->Top K A H a (.lst ds)
 |dic {kvs:List (Key×V)} {vs:List V} {ks:List Key} {ds:List D}:H a=some (.dK kvs)->kvs.map (·.1)=ks->kvs.map (·.2)=vs->Reps K A H vs ds->Top K A H a (.dic ks ds)
 |dit {kvs:List ((List Key)×V)} {vs:List V} {ks:List (List Key)} {ds:List D}:H a=some (.dT kvs)->kvs.map (·.1)=ks->kvs.map (·.2)=vs->Reps K A H vs ds->Top K A H a (.dit ks ds)
 |obj {C dx:Addr} {fs:List (Str×V)} {vs:List V} {c:Str} {ns:List Str} {ds:List D}:H a=some (.ins C dx fs)->(aao K aam c=some (some (.ref C))/\fs.map (·.1)=ns)->fs.map (·.2)=vs->Reps K A H vs ds->Top K A H a (.obj c ns ds)
def Top.rep {K:aaa} {A A':Zi} {H:Hp} {a:Addr} {d:D} (t:Top K A H a d) (w: ∀b,A b->A' b/\b≠a) (ha:A' a):Rep K A' H (.ref a) d:=by
 cases t with
 |lst e r=>exact .lst e ha (r.weak w)
 |dic e k1 k2 r=>exact .dic e ha k1 k2 (r.weak w)
 |dit e k1 k2 r=>exact .dit e ha k1 k2 (r.weak w)
 |obj e k1 k2 r=>exact .obj e ha k1 k2 (r.weak w)
def Top.stay {K:aaa} {A A':Zi} {H H':Hp} {a:Addr} {d:D} (t:Top K A H a d) (st:Stay A H H') (w: ∀b,A b->A' b) (ha: ∀o,H a=some o->H' a=some o):Top K A' H' a d:=by
 cases t with
 |lst e r=>exact .lst (ha _ e) (r.stay st w)
 |dic e k1 k2 r=>exact .dic (ha _ e) k1 k2 (r.stay st w)
 |dit e k1 k2 r=>exact .dit (ha _ e) k1 k2 (r.stay st w)
 |obj e k1 k2 r=>exact .obj (ha _ e) k1 k2 (r.stay st w)
def Top.there {K:aaa} {A:Zi} {H:Hp} {a:Addr} {d:D} (t:Top K A H a d): ∃o,H a=some o/\Mut (some o):=by
 cases t with
 |lst e r=>exact ⟨_,e,trivial⟩
 |dic e _ _ r=>exact ⟨_,e,trivial⟩
 |dit e _ _ r=>exact ⟨_,e,trivial⟩
 |obj e _ _ r=>exact ⟨_,e,trivial⟩
structure EnvOk (K:aaa) (G:Zi) (H0:Hp) (env:Sl) (σ:St) (H:Hp):Prop where
 len:σ.length=env.length
 base:Same H0 H
 g0: ∀a,H0 a=none->G a
 shr: ∀(i:Nat) (d:D),env[i]?=some (.shr d)-> ∃v,σ[i]?=some (some v)/\Rep K (Sf G env σ) H v d
 own: ∀(i:Nat) (d:D),env[i]?=some (.own d)-> ∃a,σ[i]?=some (some (.ref a))/\H0 a=none/\Top K (Sf G env σ) H a d
 dis: ∀(i j:Nat) (d e:D) (a:Addr),env[i]?=some (.own d)->env[j]?=some (.own e)->σ[i]?=some (some (.ref a))->σ[j]?=some (some (.ref a))->i=j
section
variable {K:aaa} {G:Zi} {H0 H H':Hp} {env:Sl} {σ:St}
def EnvOk.grow (e:EnvOk K G H0 env σ H) (h:Same H H'):EnvOk K G H0 env σ H' where
 len:=e.len
 base:=e.base.trans h
 g0:=e.g0
 shr:=fun i d z=>let ⟨v,h1,h2⟩:=e.shr i d z;⟨v,h1,h2.grow h⟩
 own:=fun i d z=>let ⟨a,h1,h2,h3⟩:=e.own i d z;⟨a,h1,h2,h3.stay (Same.stay h) (fun _ z=>z) (fun o q=>h _ o q)⟩
 dis:=e.dis
def EnvOk.there (e:EnvOk K G H0 env σ H) {a:Addr} (o:qR env σ a): ∃u,H a=some u:=by
 obtain ⟨i,d,h1,h2⟩:=o;obtain ⟨b,h3,_,h4⟩:=e.own i d h1;rw [h2] at h3;cases h3;obtain ⟨u,h5,_⟩:=h4.there;exact ⟨u,h5⟩
def EnvOk.mutO (k:EnvOk K G H0 env σ H) {a:Addr} (o:qR env σ a) {u:HO} (e:H a=some u):Mut (some u):=by
 obtain ⟨i,d,h1,h2⟩:=o;obtain ⟨b,h3,_,h4⟩:=k.own i d h1;rw [h2] at h3;cases h3;obtain ⟨u',h5,m⟩:=h4.there;rw [e] at h5;cases h5;exact m
def EnvOk.new (k:EnvOk K G H0 env σ H): ∀a,H a=none->Sf G env σ a:=fun a z=>⟨fun o=>(by
 obtain ⟨u,q⟩:=k.there o
 rw [z] at q;cases q),k.g0 a (Same.free k.base z)⟩
end
inductive Lv where
 |b|s|t
abbrev Any:Addr->Prop:=fun _=>True
def Lv.A (l:Lv) (G:Zi) (env:Sl) (σ:St):Addr->Prop:=
 match l with
 | .b=>Any
 | .s=>Sf G env σ
 | .t=>Sf G env σ
def NewTop (H:Hp) (v:V):Prop:= ∀a,v= .ref a-> ∀o,H a=some o-> ¬Mut (some o)
def Lv.T (l:Lv) (H:Hp) (v:V):Prop:=
 match l with
 | .t=>NewTop H v
 |_=>True
def NewTop.grow {H H':Hp} {v:V} (h:Same H H') (n:NewTop H' v):NewTop H v:=fun a e o q=>n a e o (h a o q)
def Lv.Tgrow {l:Lv} {H H':Hp} {v:V} (h:Same H H') (n:l.T H' v):l.T H v:=by
 cases l with
 |t=>exact NewTop.grow h n
 |b=>trivial
 |s=>trivial
def tE (K:aaa) (l:Lv) (f:Sl->Res D):TE:=fun σ H Q=> ∃G H0 env d,EnvOk K G H0 env σ H/\f env= .ok d/\ ∀v H',Same H H'->Rep K (l.A G env σ) H' v d->l.T H v->Q v H'
def tT (K:aaa) (f:Sl->Res Bool):TT:=fun σ H Q=> ∃G H0 env b,EnvOk K G H0 env σ H/\f env= .ok b/\ ∀H',Same H H'->Q b H'
def tA (K:aaa) (l:Lv) (f:Sl->Res (List D)):TA:=fun σ H Q=> ∃G H0 env ds,EnvOk K G H0 env σ H/\f env= .ok ds/\ ∀vs H',Same H H'->Reps K (l.A G env σ) H' vs ds->Q vs H'
@[irreducible] def DE (X:Cx) (l:Lv) (e:Expr) (f:Sl->Res D):Prop:=PE X e (tE X.K l f)
@[irreducible] def DT (X:Cx) (e:Expr) (f:Sl->Res Bool):Prop:=PT X e (tT X.K f)
@[irreducible] def DA (X:Cx) (l:Lv) (es:List Expr) (f:Sl->Res (List D)):Prop:=PA X es (tA X.K l f)
inductive Out where
 |nx (env:Sl)|rt (fr:Bool) (d:D)|bk (env:Sl)|ct (env:Sl)
abbrev T5:=Sl->Res D
abbrev T4:=Sl->Res Bool
abbrev T3:=Sl->Res Out
abbrev T2:=Sl->Res (List D)
abbrev T1:=List D->Res D
abbrev T0:=D->Sl->Res Sl
structure Frm (env:Sl) (σ:St) (H:Hp) (env':Sl) (σ':St) (H':Hp):Prop where
 keep: ∀b o,H b=some o-> ¬qR env σ b->H' b=some o
 more: ∀b,qR env' σ' b->qR env σ b\/H b=none
 size: ∀b,H' b=none->H b=none
def Post (K:aaa) (G:Zi) (H0:Hp) (env:Sl) (σ:St) (H:Hp) (E:Ends) (o:Out):Prop:=
 match o with
 | .nx env'=> ∀σ' H',EnvOk K G H0 env' σ' H'->Frm env σ H env' σ' H'->E.nx σ' H'
 | .bk env'=> ∀σ' H',EnvOk K G H0 env' σ' H'->Frm env σ H env' σ' H'->E.bk σ' H'
 | .ct env'=> ∀σ' H',EnvOk K G H0 env' σ' H'->Frm env σ H env' σ' H'->E.ct σ' H'
 | .rt fr d=> ∀v H',Same H0 H'->Rep K G H' v d->(fr=true->NewTop H0 v)->E.rt v H'
def tS (K:aaa) (g:T3):TS:=fun E σ H=> ∃G H0 env o,EnvOk K G H0 env σ H/\g env= .ok o/\Post K G H0 env σ H E o
@[irreducible] def DS (X:Cx) (st:Stmt) (g:T3):Prop:=PS X st (tS X.K g)
@[irreducible] def DSs (X:Cx) (st:List Stmt) (g:T3):Prop:=PSs X st (tS X.K g)
section
variable {X:Cx} {e:Expr} {es:List Expr} {st:Stmt} {sts:List Stmt}
def PE.imp {t t':TE} (h:PE X e t) (w: ∀σ H Q,t' σ H Q->t σ H Q):PE X e t':=fun pins s σ H Q I q=>h pins s σ H Q I (w σ H Q q)
def PT.imp {t t':TT} (h:PT X e t) (w: ∀σ H Q,t' σ H Q->t σ H Q):PT X e t':=fun pins s σ H Q I q=>h pins s σ H Q I (w σ H Q q)
def PA.imp {t t':TA} (h:PA X es t) (w: ∀σ H Q,t' σ H Q->t σ H Q):PA X es t':=fun pos pins s σ H Q I q=>h pos pins s σ H Q I (w σ H Q q)
def PS.imp {t t':TS} (h:PS X st t) (w: ∀E σ H,t' E σ H->t E σ H):PS X st t':=fun pins s σ H E I q=>h pins s σ H E I (w E σ H q)
def PSs.imp {t t':TS} (h:PSs X sts t) (w: ∀E σ H,t' E σ H->t E σ H):PSs X sts t':=fun pins s σ H E I q=>h pins s σ H E I (w E σ H q)
end
def Frm.refl {env:Sl} {σ:St} {H H':Hp} (h:Same H H'):Frm env σ H env σ H':=⟨fun b o e _=>h b o e,fun b o=> .inl o,fun b e=>Same.free h e⟩
def Frm.trans {env env1 env2:Sl} {σ σ1 σ2:St} {H H1 H2:Hp} (a:Frm env σ H env1 σ1 H1) (b:Frm env1 σ1 H1 env2 σ2 H2):Frm env σ H env2 σ2 H2 where
 keep:=fun c o e n=>b.keep c o (a.keep c o e n) fun z=>by
  rcases a.more c z with z|z
  · exact n z
  · rw [e] at z;cases z
 more:=fun c o=>by
  rcases b.more c o with z|z
  · exact a.more c z
  · exact .inr (a.size c z)
 size:=fun c e=>a.size c (b.size c e)
def Frm.grow {env env1:Sl} {σ σ1:St} {H Hm H1:Hp} (h:Same H Hm) (b:Frm env σ Hm env1 σ1 H1):Frm env σ H env1 σ1 H1:=(Frm.refl h).trans b
section
variable {X:Cx} {e:Expr} {f:T5}
def Lv.weak_b {l:Lv} {G:Zi} {env:Sl} {σ:St}: ∀a,l.A G env σ a->Any a:=fun _ _=>trivial
def DE.b {l:Lv} (h:DE X l e f):DE X .b e f:=by
 with_unfolding_all exact (PE.imp h fun σ H Q ⟨G,H0,env,d,k,ef,q⟩=>⟨G,H0,env,d,k,ef,fun v H' s r _=>q v H' s (r.weak Lv.weak_b) trivial⟩)
def DE.s (h:DE X .t e f):DE X .s e f:=by
 with_unfolding_all exact (PE.imp h fun σ H Q ⟨G,H0,env,d,k,ef,q⟩=>⟨G,H0,env,d,k,ef,fun v H' s r _=>q v H' s r trivial⟩)
def YE {K:aaa} {A:Zi} {H H':Hp} {v:V} {d:D} (s:Same H H') (r:Rep K A H' v d) (i:d.imm=true):NewTop H v:=fun a e o q m=>by
 subst e
 cases r with
 |tup e _=>rw [s _ _ q] at e;cases e;exact m
 |lst _ _ _=>simp [D.imm] at i
 |lsk _ _=>simp [D.imm] at i
 |dic _ _ _ _ _=>simp [D.imm] at i
 |dit _ _ _ _ _=>simp [D.imm] at i
 |obj _ _ _ _ _=>simp [D.imm] at i
 |fdc _ _ _ _=>simp [D.imm] at i
 |hdc _ _ _ _=>simp [D.imm] at i
 |exn e _ _=>rw [s _ _ q] at e;cases e;exact m
def chk (f:T5):Sl->Res D:=fun env=>f env>>=fun d=>must (d.imm=true) (.ok d)
def DE.chk {l l':Lv} (h:DE X l e f):DE X l' e (chk f):=by
 with_unfolding_all exact (PE.imp h fun σ H Q ⟨G,H0,env,d,k,ef,q⟩=>by
  obtain ⟨d',e1,e2⟩:=ja ef;obtain ⟨i,e3⟩:=jn e2;cases e3;refine ⟨G,H0,env,d,k,e1,fun v H' s r _=>q v H' s (r.imm i) ?_⟩
  cases l' with
  |t=>exact YE s r i
  |b=>trivial
  |s=>trivial)
end
def J1:Expr->Bool
 | .Starred _ _=>false
 |_=>true
def jq {e:Expr} {es:List Expr} {env:Env} (h:J1 e=true):aag (e::es) env=(false,eval e env)::aag es env:=by
 cases e<;>first|rfl|cases h
def ZZ {es:List Expr} {env:Env} (h:es.all J1=true):(aag es env).all (fun x=>!x.1)=true:=by
 induction es with
 |nil=>rfl
 |cons e r ih=>
  rw [acG,aal] at h;rw [jq h.1,acG,ih h.2];rfl
def WK {pos:Pos} {l:List (Bool×Sem Value)} (h:l.all (fun x=>!x.1)=true):(aa7 pos l).all (fun x=>!x.1)=true:=by
 induction l with
 |nil=>rfl
 |cons p r ih=>
  obtain ⟨s,t⟩:=p;rw [acG,aal] at h;show ((!s)&&(aa7 pos r).all (fun x=>!x.1))=true;rw [ih h.2,Bool.and_true];exact h.1
def jS {pos:Pos} {es:List Expr} {env:Env} (h:es.all J1=true):(aa7 pos (aag es env)).any (·.1)=false:=by
 have:=WK (pos:=pos) (ZZ (env:=env) h);rw [aaZ] at this;rw [List.any_eq_false];intro x hx z;have q:=this x hx;rw [z] at q;cases q
def xL {cpos:Pos} {e:Expr} {es:List Expr} {env:Env} (h:(e::es).all J1=true) (hl:decide ((e::es).length<30)=true):
  ((aa7 cpos (aag (e::es) env)).all (fun x=>!x.1)&&(abK cpos (abh [] env)).all (fun x=>x.1.isSome)
   &&decide ((e::es).length+([]:List abO).length+(if ([]:List abO).isEmpty then 0 else 1)<30))=true:=by
 have hk:(abK cpos (abh [] env)).all (fun x=>x.1.isSome)=true:=rfl;rw [WK (ZZ h),hk];simpa using hl
section
variable {X:Cx} {e a b c o:Expr} {es:List Expr} {pos:Pos} {l l1 l2 l':Lv} {f f1 f2 f3:T5}
def cI (i:Int):Sl->Res D:=fun _=> .ok (.int i)
def cB (b:Bool):Sl->Res D:=fun _=> .ok (.bl b)
def cS (x:Str):Sl->Res D:=fun _=> .ok (.str x)
def rdS (i:Nat):Sl->Res D:=fun env=>match env[i]? with
 |some (.shr d)=> .ok d
 |_=> .stuck
def rdB (i:Nat):Sl->Res D:=fun env=>match env[i]? with
 |some (.shr d)=> .ok d
 |some (.own d)=> .ok d
 |_=> .stuck
def XZ {i:Nat} {env:Sl} {d:D} (h:rdS i env= .ok d):env[i]?=some (.shr d):=by
 unfold rdS at h
 split at h
 · cases h;assumption
 · cases h
def X0 {i:Nat} {env:Sl} {d:D} (h:rdB i env= .ok d):env[i]?=some (.shr d)\/env[i]?=some (.own d):=by
 unfold rdB at h
 split at h
 · cases h;left;assumption
 · cases h;right;assumption
 · cases h
def Z9 {K:aaa} {G:Zi} {H0 H:Hp} {env:Sl} {σ:L2.St} {i:Nat} {d:D} {a:Addr} (k:EnvOk K G H0 env σ H) (h1:env[i]?=some (.own d)) (h2:σ[i]?=some (some (.ref a))): ∀c,Sf G env σ c->c≠a:=fun c z e=>z.1 (by rw [e];exact ⟨i,d,h1,h2⟩)
def dv (i:Nat) {x:Str} (hN:X.N[i]?=some x:=by rfl) (hv:Vis X.env.scope x:=by first|exact abg rfl|exact aaR (abg rfl)|exact aaR (aaR rfl)) (hd:Z2 x:=by decide)
   (hcd:Zk x:=by decide):DE X .s (.Name x pos) (rdS i):=by
 with_unfolding_all exact (
  PE.imp (zI hN hv hd hcd) fun σ H Q ⟨G,H0,env,d,k,ef,q⟩=>by
   obtain ⟨v,h1,h2⟩:=k.shr i d (XZ ef)
   exact ⟨v,h1,q v H (Same.refl H) h2 trivial⟩)
def db (i:Nat) {x:Str} (hN:X.N[i]?=some x:=by rfl) (hv:Vis X.env.scope x:=by first|exact abg rfl|exact aaR (abg rfl)|exact aaR (aaR rfl)) (hd:Z2 x:=by decide)
   (hcd:Zk x:=by decide):DE X .b (.Name x pos) (rdB i):=by
 with_unfolding_all exact (
  PE.imp (zI hN hv hd hcd) fun σ H Q ⟨G,H0,env,d,k,ef,q⟩=>by
   rcases X0 ef with z|z
   · obtain ⟨v,h1,h2⟩:=k.shr i d z;exact ⟨v,h1,q v H (Same.refl H) (h2.weak fun _ _=>trivial) trivial⟩
   · obtain ⟨v,h1,_,h2⟩:=k.own i d z
     exact ⟨_,h1,q _ H (Same.refl H) (h2.rep (fun c y=>⟨trivial,Z9 k z h1 c y⟩) trivial) trivial⟩)
def Sc (K:aaa) (v:V) (d:D):Prop:=(∀A H,Rep K A H v d)/\ ∀a,v≠ .ref a
def Sc.T {K:aaa} {v:V} {d:D} {H:Hp} (h:Sc K v d):l.T H v:=by
 cases l with
 |t=>exact fun a e=>absurd e (h.2 a)
 |b=>trivial
 |s=>trivial
def uE {K:aaa} (i:Int):Sc K (.int i) (.int i):=⟨fun _ _=> .int i,fun a e=>by cases e⟩
def uD {K:aaa} (i:Bool):Sc K (.bl i) (.bl i):=⟨fun _ _=> .bl i,fun a e=>by cases e⟩
def uP {K:aaa} (x:Str) (h:x.length<=aae):Sc K (.str x) (.str x):=⟨fun _ _=> .str x h,fun a e=>by cases e⟩
def de_c {v:V} {d:D} (h:PE X e (tC v)) (r:Sc X.K v d):DE X l e (fun _=> .ok d):=by
 with_unfolding_all exact (
  PE.imp h fun σ H Q ⟨G,H0,env,d',k,ef,q⟩=>by
   cases ef
   exact q v H (Same.refl H) (r.1 _ H) r.T)
def Y4 {i:Int} {j}:DE X l (.Constant (.int i) j pos) (cI i):=de_c kD (uE i)
def QW {i:Bool} {j}:DE X l (.Constant (.bool i) j pos) (cB i):=de_c v5 (uD i)
def q0 {x:Str} {j} (h:x.length<=aae:=by decide):DE X l (.Constant (.str x) j pos) (cS x):=de_c kz (uP x h)
def Y6 {x:Str} {i:Int} {t:Tok} (hg:Gl X x) (hm:X.mg x=some (.int i t)) (hd:Z2 x:=by decide):DE X l (.Name x pos) (cI i):=
 de_c (X9 (v:= .int i) hg hm ⟨t,rfl⟩ hd) (uE i)
def Y5 {x y:Str} {t:Tok} (hg:Gl X x) (hm:X.mg x=some (.str y t)) (hl:y.length<=aae:=by decide) (hd:Z2 x:=by decide):DE X l (.Name x pos) (cS y):=
 de_c (X9 (v:= .str y) hg hm ⟨t,rfl⟩ hd) (uP y hl)
def OpS (K:aaa) (r:R2) (g:D->D->Res D):Prop:= ∀(x y:V) (H:Hp) (a b d:D) (Q:VK),Rep K Any H x a->Rep K Any H y b->g a b= .ok d->(∀v,Sc K v d->Q v H)->r x y H Q
def OpD (K:aaa) (r:R2) (g:D->D->Res D):Prop:= ∀(A:Zi) (x y:V) (H:Hp) (a b d:D) (Q:VK),Rep K A H x a->Rep K A H y b->g a b= .ok d->(∀v H',Same H H'->Rep K (fun c=>H c=none\/A c) H' v d->NewTop H v->Q v H')->r x y H Q
def two (f1 f2:T5) (g:D->D->Res D):Sl->Res D:=fun env=>f1 env>>=fun x=>f2 env>>=fun y=>g x y
def VV {K:aaa} {r:R2} {g:D->D->Res D} (hr:OpS K r g) {σ:L2.St} {H:Hp} {Q:VK} (h:tE K l (two f1 f2 g) σ H Q):tOp r (tE K l1 f1) (tE K l2 f2) σ H Q:=by
 obtain ⟨G,H0,env,d,k,ef,q⟩:=h;obtain ⟨a,e1,ef⟩:=ja ef;obtain ⟨b,e2,e3⟩:=ja ef;refine ⟨G,H0,env,a,k,e1,fun x H1 s1 r1 _=>⟨G,H0,env,b,k.grow s1,e2,fun y H2 s2 r2 _=>?_⟩⟩;exact hr x y H2 a b d Q ((r1.grow s2).weak Lv.weak_b) (r2.weak Lv.weak_b) e3 fun v sc=>q v H2 (s1.trans s2) (sc.1 _ _) sc.T
def vK {K:aaa} {r:R2} {g:D->D->Res D} (hr:OpD K r g) {σ:L2.St} {H:Hp} {Q:VK} (h:tE K .t (two f1 f2 g) σ H Q):tOp r (tE K .s f1) (tE K .s f2) σ H Q:=by
 obtain ⟨G,H0,env,d,k,ef,q⟩:=h;obtain ⟨a,e1,ef⟩:=ja ef;obtain ⟨b,e2,e3⟩:=ja ef;refine ⟨G,H0,env,a,k,e1,fun x H1 s1 r1 _=>⟨G,H0,env,b,k.grow s1,e2,fun y H2 s2 r2 _=>?_⟩⟩;have sm:=s1.trans s2;exact hr _ x y H2 a b d Q (r1.grow s2) r2 e3 fun v H3 s3 r3 nt=>q v H3 (sm.trans s3) (r3.weak fun c z=>z.elim (fun z=>k.new c (Same.free sm z)) fun z=>z) (nt.grow sm)
def vL {K:aaa} {r:R2} {g:D->D->Res D} (hr:OpD K r g) {σ:L2.St} {H:Hp} {Q:VK} (h:tE K .b (two f1 f2 g) σ H Q):tOp r (tE K .b f1) (tE K .b f2) σ H Q:=by
 obtain ⟨G,H0,env,d,k,ef,q⟩:=h;obtain ⟨a,e1,ef⟩:=ja ef;obtain ⟨b,e2,e3⟩:=ja ef;refine ⟨G,H0,env,a,k,e1,fun x H1 s1 r1 _=>⟨G,H0,env,b,k.grow s1,e2,fun y H2 s2 r2 _=>?_⟩⟩;have sm:=s1.trans s2;exact hr _ x y H2 a b d Q (r1.grow s2) r2 e3 fun v H3 s3 r3 nt=>q v H3 (sm.trans s3) (r3.weak fun c _=>trivial) trivial
def Y3 {op:ab6} {r:R2} {g:D->D->Res D} (ho:OpR X (abu op) r) (hr:OpS X.K r g) (ha:DE X l1 a f1) (hb:DE X l2 b f2):DE X l (.BinOp a op b pos) (two f1 f2 g):=by
 with_unfolding_all exact (
  PE.imp (KI ho ha hb) fun _ _ _ h=>VV hr h)
def qf {op:ab6} {r:R2} {g:D->D->Res D} (ho:OpR X (abu op) r) (hr:OpD X.K r g) (ha:DE X .s a f1) (hb:DE X .s b f2):DE X .t (.BinOp a op b pos) (two f1 f2 g):=by
 with_unfolding_all exact (
  PE.imp (KI ho ha hb) fun _ _ _ h=>vK hr h)
def WC {op:ab6} {r:R2} {g:D->D->Res D} (ho:OpR X (abu op) r) (hr:OpD X.K r g) (ha:DE X .b a f1) (hb:DE X .b b f2):DE X .b (.BinOp a op b pos) (two f1 f2 g):=by
 with_unfolding_all exact (
  PE.imp (KI ho ha hb) fun _ _ _ h=>vL hr h)
def Y7 {op:CmpOp} {r:R2} {g:D->D->Res D} (ho:OpR X (abd op) r) (hr:OpS X.K r g) (ha:DE X l1 a f1) (hb:DE X l2 b f2) (hm:abR op b=false:=by first|exact VB _| (with_unfolding_all rfl)):DE X l (.Compare a [op] [b] pos) (two f1 f2 g):=by
 with_unfolding_all exact (
  PE.imp (Ur ho ha hb hm) fun _ _ _ h=>VV hr h)
def asB (f:T5):Sl->Res Bool:=fun env=>f env>>=fun d=>match d with
 | .bl b=> .ok b
 |_=> .stuck
def U0 {env:Sl} {b:Bool} (h:asB f env= .ok b):f env= .ok (.bl b):=by
 obtain ⟨d,e1,e2⟩:=ja h
 cases d with
 |bl c=>cases e2;exact e1
 |_=>cases e2
def Zf {K:aaa} {t:TE} (ht: ∀σ H Q,tE K l f σ H Q->t σ H Q) {σ:L2.St} {H:Hp} {Q:Bool->Hp->Prop} (h:tT K (asB f) σ H Q):VU t σ H Q:=by
 obtain ⟨G,H0,env,b,k,ef,q⟩:=h;refine ht σ H _ ⟨G,H0,env,.bl b,k,U0 ef,fun v H' s r _=>⟨b,r.blE,q H' s⟩⟩
def qz {op:CmpOp} {r:R2} {g:D->D->Res D} (ho:OpR X (abd op) r) (hr:OpS X.K r g) (ha:DE X l1 a f1) (hb:DE X l2 b f2) (hm:abR op b=false:=by first|exact VB _| (with_unfolding_all rfl)):DT X (.Compare a [op] [b] pos) (asB (two f1 f2 g)):=by
 with_unfolding_all exact (
  PT.imp (Ui ho ha hb hm) fun _ _ _ h=>Zf (l:= .b) (fun _ _ _ h=>VV hr h) h)
def Qh (f1 f2 f3:T5) (g g':D->D->Res D):Sl->Res D:=fun env=>f1 env>>=fun x=>f2 env>>=fun y=>g x y>>=fun z=>match z with
 | .bl true=>f3 env>>=fun w=>g' y w
 | .bl false=> .ok (.bl false)
 |_=> .stuck
def ZY {K:aaa} {l3:Lv} {r r':R2} {g g':D->D->Res D} (hr:OpS K r g) (hr':OpS K r' g') {σ:L2.St} {H:Hp} {Q:VK} (h:tE K l (Qh f1 f2 f3 g g') σ H Q):Xz r r' (tE K l1 f1) (tE K l2 f2) (tE K l3 f3) σ H Q:=by
 obtain ⟨G,H0,env,d,k,ef,q⟩:=h;obtain ⟨a,e1,ef⟩:=ja ef;obtain ⟨b,e2,ef⟩:=ja ef;obtain ⟨z,e3,e4⟩:=ja ef;refine ⟨G,H0,env,a,k,e1,fun x H1 s1 r1 _=>⟨G,H0,env,b,k.grow s1,e2,fun y H2 s2 r2 _=>?_⟩⟩;refine hr x y H2 a b z _ ((r1.grow s2).weak Lv.weak_b) (r2.weak Lv.weak_b) e3 fun v sc=>?_
 cases z with
 |bl t=>
  refine ⟨t,(sc.1 Any H2).blE,?_⟩
  cases t with
  |false=>
   cases e4;rw [if_neg aaB];exact q _ H2 (s1.trans s2) (.bl false) (uD (K:=K) false).T
  |true=>
   obtain ⟨w,e5,e6⟩:=ja e4;rw [if_pos rfl];refine ⟨G,H0,env,w,(k.grow s1).grow s2,e5,fun y' H4 s4 r4 _=>?_⟩;refine hr' y y' H4 b w d Q ((r2.grow s4).weak Lv.weak_b) (r4.weak Lv.weak_b) e6 fun v sc=>q v H4 (s1.trans (s2.trans s4)) (sc.1 _ _) sc.T
 |_=>cases e4
def WD {op op':CmpOp} {l3:Lv} {r r':R2} {g g':D->D->Res D} (ho:OpR X (abd op) r) (hr:OpS X.K r g) (ho':OpR X (abd op') r') (hr':OpS X.K r' g') (ha:DE X l1 a f1) (hb:DE X l2 b f2) (hc:DE X l3 c f3)
   (hm:lastMarks [op,op'] [b,c]=false:=by with_unfolding_all rfl):DE X l (.Compare a [op,op'] [b,c] pos) (Qh f1 f2 f3 g g'):=by
 with_unfolding_all exact (
  PE.imp (KL ho ho' ha hb hc hm) fun _ _ _ h=>ZY hr hr' h)
def Wy {op op':CmpOp} {l3:Lv} {r r':R2} {g g':D->D->Res D} (ho:OpR X (abd op) r) (hr:OpS X.K r g) (ho':OpR X (abd op') r') (hr':OpS X.K r' g') (ha:DE X l1 a f1) (hb:DE X l2 b f2) (hc:DE X l3 c f3)
   (hm:lastMarks [op,op'] [b,c]=false:=by with_unfolding_all rfl):DT X (.Compare a [op,op'] [b,c] pos) (asB (Qh f1 f2 f3 g g')):=by
 with_unfolding_all exact (
  PT.imp (KF ho ho' ha hb hc hm) fun _ _ _ h=>Zf (l:= .b) (fun _ _ _ h=>ZY hr hr' h) h)
def zq (h:DE X l e f) (he: ∀whole,isTrue e X.env whole=(do let v←whole;acO e.pos;acP [v] (truthy v)):=by intro _;rfl):DT X e (asB f):=by
 with_unfolding_all exact (
  PT.imp (Vs h he) fun _ _ _ h=>Zf (l:=l) (fun _ _ _ h=>h) h)
def tru:D->Res Bool
 | .non=> .ok false
 | .bl b=> .ok b
 | .int i=> .ok (i !=0)
 | .str x=> .ok ((x.length:Int) !=0)
 | .tup ds=> .ok (!ds.isEmpty)
 | .lst ds=> .ok (!ds.isEmpty)
 | .scr ds=> .ok (!ds.isEmpty)
 | .dic _ _=> .stuck
 | .dit _ _=> .stuck
 | .exn _=> .stuck
 | .fdc _ _=> .stuck
 | .hdc _ _=> .stuck
 | .obj _ _ _=> .stuck
def vH {K:aaa} {A:Zi} {H:Hp} {v:V} {d:D} {b:Bool} (r:Rep K A H v d) (h:tru d= .ok b):TruV K v H b:=by
 cases r with
 |non=>cases h;rfl
 |bl c=>cases h;rfl
 |int i=>cases h;rfl
 |str x hx=>cases h;exact ⟨hx,rfl⟩
 |tup e r=>cases h;exact .inr (.inl ⟨_,.of e,by rw [r.isEmpty]⟩)
 |lst e _ r=>cases h;exact .inl ⟨_,.of e,by rw [r.isEmpty]⟩
 |lsk e r=>cases h;exact .inl ⟨_,e.sql,by rw [r.isEmpty]⟩
 |dic _ _ _ _ _=>cases h
 |dit _ _ _ _ _=>cases h
 |exn _ _ _=>cases h
 |fdc _ _ _ _=>cases h
 |hdc _ _ _ _=>cases h
 |obj _ _ _ _ _=>cases h
def truF (f:T5):Sl->Res Bool:=fun env=>f env>>=tru
def vm (h:DE X l e f) (he: ∀whole,isTrue e X.env whole=(do let v←whole;acO e.pos;acP [v] (truthy v)):=by intro _;rfl):DT X e (truF f):=by
 with_unfolding_all exact (
  PT.imp (KD h he) fun σ H Q ⟨G,H0,env,b,k,ef,q⟩=>by
   obtain ⟨d,e1,e2⟩:=ja ef
   exact ⟨G,H0,env,d,k,e1,fun v H' s r _=>⟨b,vH r e2,q H' s⟩⟩)
section
variable {g g1 g2:T4} {rest:List Expr}
def notB (g:T4):Sl->Res Bool:=fun env=>g env>>=fun b=> .ok (!b)
def xr (h:DT X a g):DT X (.UnaryOp .Not a pos) (notB g):=by
 with_unfolding_all exact (
  PT.imp (Vt h) fun σ H Q ⟨G,H0,env,b,k,ef,q⟩=>by
   obtain ⟨d,e1,e2⟩:=ja ef;cases e2
   exact ⟨G,H0,env,d,k,e1,q⟩)
@[irreducible] def DW (X:Cx) (e:Expr) (f:T4):Prop:=PW X e (tT X.K f)
theorem PW.imp {t t':TT} (h:PW X e t) (w: ∀σ H Q,t' σ H Q->t σ H Q):PW X e t':=fun wh pins s σ H Q I q=>h wh pins s σ H Q I (w σ H Q q)
def DW.dt (h:DW X e g):DT X e g:=by
 with_unfolding_all exact (PW.pt h)
def YW (h:DT X a g):DW X (.BoolOp .And [a] pos) g:=by
 with_unfolding_all exact (Uh h)
def JE (h:DT X a g):DW X (.BoolOp .Or [a] pos) g:=by
 with_unfolding_all exact (ko h)
def andB (g1 g2:T4):Sl->Res Bool:=fun env=>g1 env>>=fun b=>if b=true then g2 env else .ok false
def orB (g1 g2:T4):Sl->Res Bool:=fun env=>g1 env>>=fun b=>if b=true then .ok true else g2 env
def VM (h1:DT X a g1) (h2:DW X (.BoolOp .And (b::rest) pos) g2):DW X (.BoolOp .And (a::b::rest) pos) (andB g1 g2):=by
 with_unfolding_all exact (
  PW.imp (kq h1 h2) fun σ H Q ⟨G,H0,env,r,k,ef,q⟩=>by
   obtain ⟨d,e1,e2⟩:=ja ef;refine ⟨G,H0,env,d,k,e1,fun H' s=>?_⟩
   cases d with
   |true=>rw [if_pos rfl] at e2 ⊢;exact ⟨G,H0,env,r,k.grow s,e2,fun H2 s2=>q H2 (s.trans s2)⟩
   |false=>rw [if_neg aaB] at e2 ⊢;cases e2;exact q H' s)
def Xf (h1:DT X a g1) (h2:DW X (.BoolOp .Or (b::rest) pos) g2):DW X (.BoolOp .Or (a::b::rest) pos) (orB g1 g2):=by
 with_unfolding_all exact (
  PW.imp (vY h1 h2) fun σ H Q ⟨G,H0,env,r,k,ef,q⟩=>by
   obtain ⟨d,e1,e2⟩:=ja ef;refine ⟨G,H0,env,d,k,e1,fun H' s=>?_⟩
   cases d with
   |false=>rw [if_neg aaB] at e2 ⊢;exact ⟨G,H0,env,r,k.grow s,e2,fun H2 s2=>q H2 (s.trans s2)⟩
   |true=>rw [if_pos rfl] at e2 ⊢;cases e2;exact q H' s)
def toB (f:T5) (g:T5) (w:Bool):Sl->Res D:=fun env=>f env>>=fun d=>match d with
 | .bl b=>if b=w then g env else .ok (.bl b)
 |_=> .stuck
def JG {op} (h:DE X l a f):DE X l (.BoolOp op [a] pos) f:=by
 with_unfolding_all exact (kA h)
def y8 (h1:DE X l1 a f1) (h2:DE X l (.BoolOp .And (b::rest) pos) f2):DE X l (.BoolOp .And (a::b::rest) pos) (toB f1 f2 true):=by
 with_unfolding_all exact (
  PE.imp (kF h1 h2) fun σ H Q ⟨G,H0,env,r,k,ef,q⟩=>by
   obtain ⟨d,e1,e2⟩:=ja ef;refine ⟨G,H0,env,d,k,e1,fun v H' s rr _=>?_⟩
   cases d with
   |bl t=>
    refine ⟨t,rr.blE,?_⟩
    cases t with
    |true=>exact ⟨G,H0,env,r,k.grow s,e2,fun v H2 s2 r2 nt=>q v H2 (s.trans s2) r2 (Lv.Tgrow s nt)⟩
    |false=>cases e2;exact q _ H' s (.bl false) (uD (K:=X.K) false).T
   |_=>cases e2)
def notD:D->Res D
 | .bl b=> .ok (.bl (!b))
 |_=> .stuck
def notF (f:T5):Sl->Res D:=fun env=>f env>>=notD
def VP (h:DE X l1 a f):DE X l (.UnaryOp .Not a pos) (notF f):=by
 with_unfolding_all exact (
  PE.imp (kB h) fun σ H Q ⟨G,H0,env,r,k,ef,q⟩=>by
   obtain ⟨d,e1,e2⟩:=ja ef;refine ⟨G,H0,env,d,k,e1,fun v H' s rr _=>?_⟩
   cases d with
   |bl t=>cases e2;exact ⟨t,rr.blE,q _ H' s (.bl _) (uD (K:=X.K) _).T⟩
   |_=>cases e2)
def ifD (g:T4) (f1 f2:T5):Sl->Res D:=fun env=>g env>>=fun b=>if b=true then f1 env else f2 env
def vv (hc:DT X c g) (h1:DE X l a f1) (h2:DE X l b f2):DE X l (.IfExp c a b pos) (ifD g f1 f2):=by
 with_unfolding_all exact (
  PE.imp (KK hc h1 h2) fun σ H Q ⟨G,H0,env,r,k,ef,q⟩=>by
   obtain ⟨d,e1,e2⟩:=ja ef;refine ⟨G,H0,env,d,k,e1,fun H' s=>?_⟩
   cases d with
   |true=>rw [if_pos rfl] at e2 ⊢;exact ⟨G,H0,env,r,k.grow s,e2,fun v H2 s2 r2 nt=>q v H2 (s.trans s2) r2 (Lv.Tgrow s nt)⟩
   |false=>rw [if_neg aaB] at e2 ⊢;exact ⟨G,H0,env,r,k.grow s,e2,fun v H2 s2 r2 nt=>q v H2 (s.trans s2) r2 (Lv.Tgrow s nt)⟩)
end
def jc (f:T5) (g:T2):Sl->Res (List D):=fun env=>f env>>=fun d=>g env>>=fun ds=> .ok (d::ds)
def nil1:Sl->Res (List D):=fun _=> .ok []
def jh:DA X l [] nil1:=by
 with_unfolding_all exact (PA.imp yD fun σ H Q ⟨G,H0,env,d,k,ef,q⟩=>by cases ef;exact q [] H (Same.refl H) .nil)
def jb {g:T2} (ha:DE X l e f) (hr:DA X l es g) (hs:WV X e es:=by exact jq rfl):DA X l (e::es) (jc f g):=by
 with_unfolding_all exact (
  PA.imp (wB ha hr hs) fun σ H Q ⟨G,H0,env,ds,k,ef,q⟩=>by
   obtain ⟨d,e1,e2⟩:=ja ef;obtain ⟨ds',e3,e4⟩:=ja e2;cases e4
   exact ⟨G,H0,env,d,k,e1,fun v H1 s1 r1 _=>⟨G,H0,env,ds',k.grow s1,e3,fun vs H2 s2 r2=>q _ H2 (s1.trans s2) (.cons (r1.grow s2) r2)⟩⟩)
def zS {H H1:Hp} {p:Addr} (s:Same H H1) (hp:H1 p=none):NewTop H (.ref p):=fun a e o q=>by
 cases e;rw [s _ _ q] at hp;cases hp
def tupF (g:T2):Sl->Res D:=fun env=>g env>>=fun ds=>must (ds.length<=aae) (.ok (.tup ds))
def lstF (g:T2):Sl->Res D:=fun env=>g env>>=fun ds=>must (ds.length<=aae) (.ok (.lst ds))
def ym {x1} {g:T2} (h:DA X .s es g):DE X .t (.Tuple es x1 pos) (tupF g):=by
 with_unfolding_all exact (
  PE.imp (Vw h) fun σ H Q ⟨G,H0,env,d,k,ef,q⟩=>by
   obtain ⟨ds,e1,e2⟩:=ja ef;obtain ⟨hz,e3⟩:=jn e2;cases e3;refine ⟨G,H0,env,ds,k,e1,fun vs H1 s1 r1=>⟨by rw [r1.length];exact hz,fun p hp=>?_⟩⟩
   exact q _ _ (s1.trans (Same.upd hp)) (.tup jF (r1.grow (Same.upd hp))) (zS s1 hp))
def xt {g:T2} (h:DA X .s es g):DE X .t (.List es pos) (lstF g):=by
 with_unfolding_all exact (
  PE.imp (Vx h) fun σ H Q ⟨G,H0,env,d,k,ef,q⟩=>by
   obtain ⟨ds,e1,e2⟩:=ja ef;obtain ⟨hz,e3⟩:=jn e2;cases e3;refine ⟨G,H0,env,ds,k,e1,fun vs H1 s1 r1=>⟨by rw [r1.length];exact hz,fun p hp=>?_⟩⟩
   exact q _ _ (s1.trans (Same.upd hp)) (.lst jF (k.new p (Same.free s1 hp)) (r1.laid hp)) (zS s1 hp))
def Kp (K:aaa) (r:List V->Hp->VK->Prop) (g:T1):Prop:= ∀(xs:List V) (H:Hp) (ds:List D) (d:D) (Q:VK),Reps K Any H xs ds->g ds= .ok d->(∀v,Sc K v d->Q v H)->r xs H Q
def Kq (K:aaa) (r:List V->Hp->VK->Prop) (g:T1):Prop:= ∀(A:Zi) (xs:List V) (H:Hp) (ds:List D) (d:D) (Q:VK),Reps K A H xs ds->g ds= .ok d->(∀v H',Same H H'->Rep K (fun c=>H c=none\/A c) H' v d->NewTop H v->Q v H')->r xs H Q
def app (f:T2) (g:T1):Sl->Res D:=fun env=>f env>>=g
def vS {K:aaa} {r:List V->Hp->VK->Prop} {g:T1} {fa:T2} (hr:Kp K r g) {σ:L2.St} {H:Hp} {Q:VK} (h:tE K l' (app fa g) σ H Q):tCB r (tA K l fa) σ H Q:=by
 obtain ⟨G,H0,env,d,k,ef,q⟩:=h;obtain ⟨ds,e1,e2⟩:=ja ef;refine ⟨G,H0,env,ds,k,e1,fun vs H1 s1 r1=>?_⟩;exact hr vs H1 ds d Q (r1.weak Lv.weak_b) e2 fun v sc=>q v H1 s1 (sc.1 _ _) sc.T
def vT {K:aaa} {r:List V->Hp->VK->Prop} {g:T1} {fa:T2} (hr:Kq K r g) {σ:L2.St} {H:Hp} {Q:VK} (h:tE K .b (app fa g) σ H Q):tCB r (tA K .b fa) σ H Q:=by
 obtain ⟨G,H0,env,d,k,ef,q⟩:=h;obtain ⟨ds,e1,e2⟩:=ja ef;refine ⟨G,H0,env,ds,k,e1,fun vs H1 s1 r1=>?_⟩;exact hr _ vs H1 ds d Q r1 e2 fun v H2 s2 r2 nt=>q v H2 (s1.trans s2) (r2.weak fun c _=>trivial) trivial
section
variable {x:Str} {id T:String} {p:Pos} {r:List V->Hp->VK->Prop} {g:T1} {fa:T2}
def j6 (hc:CallR X (.builtin id) r) (hr:Kp X.K r g) (hg:Gl X x) (hm:X.mg x=none) (hv:abq x=some (.builtin id))
   (ha:DA X l (e::es) fa) (hn:x≠ "__name__" :=by decide) (hdb:Z2 x:=by decide)
   (he:WV X e es:=by exact jq rfl) (hpl:T9 X pos es:=by exact jS rfl):DE X l' (.Call (.Name x p) (e::es) [] pos) (app fa g):=by
 with_unfolding_all exact (
  PE.imp (Z8 hc hg hm hv ha hn hdb he hpl) fun _ _ _ h=>vS hr h)
def qO (hc:CallR X (.type T) r) (hr:Kq X.K r g) (hg:Gl X x) (hm:X.mg x=none) (hv:abq x=some (.type T))
   (ha:DA X .b (e::es) fa) (hn:x≠ "__name__" :=by decide) (hdb:Z2 x:=by decide)
   (he:WV X e es:=by exact jq rfl) (hpl:T9 X pos es:=by exact jS rfl):DE X .b (.Call (.Name x p) (e::es) [] pos) (app fa g):=by
 with_unfolding_all exact (
  PE.imp (Ya hc hg hm hv ha hn hdb he hpl) fun _ _ _ h=>vT hr h)
end
def spF (K:aaa) (fr:Bool) (n:Nat) (F:T1):Sp:=fun vs H Q _=> ∃B ds d,vs.length=n/\Reps K B H vs ds/\F ds= .ok d/\ ∀v H',Same H H'->Rep K (fun a=>H a=none\/B a) H' v d->(fr=true->NewTop H v)->Q v H'
def jx (n:Nat) (F:T1) (g:T2):Sl->Res D:=fun env=>g env>>=fun ds=>must (ds.length=n) (F ds)
section
variable {CX:CXT} {k:Nat} {x:Str} {fa:Addr} {fd:abo} {ps:List Str} {p:Pos} {n:Nat} {F:T1} {E:XK} {g:T2} {fr:Bool}
def UT (G:FnOk X.prog X.w X.K X.mg X.base CX k fa fd ps (spF X.K fr n F)) (hr:Room k X.A) (hg:Gl X x) (hm:X.mg x=some (.ref fa)) (hk:aaK X.K (.ref fa)=true) (hb:Binds X.K fd ps []) (hx:xT CX X E)
   (ha:DA X .s (e::es) g) (hdb:Z2 x:=by decide) (he:WV X e es:=by exact jq rfl) (hpl:T9 X pos es:=by exact jS rfl):
   DE X .s (.Call (.Name x p) (e::es) [] pos) (jx n F g):=by
 with_unfolding_all exact (
  PE.imp (Yb G hr hg hm hk hb .nil hx ha hdb he hpl) fun σ H Q ⟨GG,H0,env,d,k,ef,q⟩=>by
   obtain ⟨ds,e1,e2⟩:=ja ef;obtain ⟨hn,e3⟩:=jn e2;refine ⟨GG,H0,env,ds,k,e1,fun vs H1 s1 r1=>?_⟩;show spF X.K fr n F (vs++[]) H1 Q E;rw [abw]
   exact ⟨_,ds,d,by rw [r1.length];exact hn,r1,e3,fun v H2 s2 r2 _=>q v H2 (s1.trans s2) (r2.weak fun c z=>z.elim (fun z=>k.new c (Same.free s1 z)) fun z=>z) trivial⟩)
def Vg (G:FnOk X.prog X.w X.K X.mg X.base CX k fa fd ps (spF X.K true n F)) (hr:Room k X.A) (hg:Gl X x) (hm:X.mg x=some (.ref fa)) (hk:aaK X.K (.ref fa)=true) (hb:Binds X.K fd ps []) (hx:xT CX X E)
   (ha:DA X .s (e::es) g) (hdb:Z2 x:=by decide) (he:WV X e es:=by exact jq rfl) (hpl:T9 X pos es:=by exact jS rfl):
   DE X .t (.Call (.Name x p) (e::es) [] pos) (jx n F g):=by
 with_unfolding_all exact (
  PE.imp (Yb G hr hg hm hk hb .nil hx ha hdb he hpl) fun σ H Q ⟨GG,H0,env,d,k,ef,q⟩=>by
   obtain ⟨ds,e1,e2⟩:=ja ef;obtain ⟨hn,e3⟩:=jn e2;refine ⟨GG,H0,env,ds,k,e1,fun vs H1 s1 r1=>?_⟩;show spF X.K true n F (vs++[]) H1 Q E;rw [abw]
   exact ⟨_,ds,d,by rw [r1.length];exact hn,r1,e3,fun v H2 s2 r2 nt=>q v H2 (s1.trans s2) (r2.weak fun c z=>z.elim (fun z=>k.new c (Same.free s1 z)) fun z=>z) ((nt rfl).grow s1)⟩)
end
def ixD:D->D->Res D
 | .lst ds,.int i=>match atI ds i with
  |some d=> .ok d
  |none=> .stuck
 | .scr ds,.int i=>match atI ds i with
  |some d=> .ok d
  |none=> .stuck
 | .tup ds,.int i=>match atI ds i with
  |some d=> .ok d
  |none=> .stuck
 | .str z,.int i=>match atI z.cps.toList i with
  |some c=> .ok (.str ⟨#[c]⟩)
  |none=> .stuck
 |_,_=> .stuck
def ZT {K:aaa} {A:Zi} {H:Hp} {xs:List V} {ds:List D} {i:Int} {d:D} (r:Reps K A H xs ds) (h:atI ds i=some d): ∃v,atI xs i=some v/\Rep K A H v d:=by
 unfold atI at h ⊢;rw [r.length]
 cases e:ixN ds.length i with
 |none=>rw [e] at h;cases h
 |some j=>rw [e] at h;exact r.get h
def Uv (c:Nat):(⟨#[c]⟩:Str).length<=aae:=by show 1<=aae;decide
def v6 {A:Zi} {x y:V} {H:Hp} {a b d:D} {Q:VK} (ra:Rep X.K A H x a) (rb:Rep X.K Any H y b) (h:ixD a b= .ok d) (q: ∀v,Rep X.K A H v d->Q v H):rIx X.K x y H Q:=by
 cases b with
 |int i=>
  cases rb.intE
  cases a with
  |lst ds=>
   unfold ixD at h;dsimp only at h
   cases e:atI ds i with
   |none=>rw [e] at h;cases h
   |some d'=>
    rw [e] at h;cases h;obtain ⟨p,xs,rfl,hq,_,r⟩:=ra.lstE;obtain ⟨v,e2,r2⟩:=ZT r.low e;exact .inl ⟨p,xs,i,v,rfl,rfl,.of hq,e2,q v r2⟩
  |scr ds=>
   unfold ixD at h;dsimp only at h
   cases e:atI ds i with
   |none=>rw [e] at h;cases h
   |some d'=>
    rw [e] at h;cases h;obtain ⟨p,xs,rfl,hq,r⟩:=ra.scrE;obtain ⟨v,e2,r2⟩:=ZT r e;exact .inl ⟨p,xs,i,v,rfl,rfl,hq.sql,e2,q v r2⟩
  |tup ds=>
   unfold ixD at h;dsimp only at h
   cases e:atI ds i with
   |none=>rw [e] at h;cases h
   |some d'=>
    rw [e] at h;cases h;obtain ⟨p,xs,rfl,hq,r⟩:=ra.tupE;obtain ⟨v,e2,r2⟩:=ZT r e;exact .inr (.inl ⟨p,xs,i,v,rfl,rfl,.of hq,e2,q v r2⟩)
  |str z=>
   unfold ixD at h;dsimp only at h
   cases e:atI z.cps.toList i with
   |none=>rw [e] at h;cases h
   |some c=>
    rw [e] at h;cases h;obtain ⟨rfl,hz⟩:=ra.strE;exact .inr (.inr ⟨z,i,c,rfl,rfl,hz,e,q _ (.str _ (by show 1<=aae;decide))⟩)
  |_=>cases h
 |_=>cases a<;>cases h
def wR (ha:DE X .s a f1) (hb:DE X l2 b f2) (hs:Kn b:=by intro _ _;rfl):DE X .s (.Subscript a b pos) (two f1 f2 ixD):=by
 with_unfolding_all exact (
  PE.imp (v4 kY ha hb hs) fun σ H Q ⟨G,H0,env,d,k,ef,q⟩=>by
   obtain ⟨a',e1,ef⟩:=ja ef;obtain ⟨b',e2,e3⟩:=ja ef;refine ⟨G,H0,env,a',k,e1,fun x H1 s1 r1 _=>⟨G,H0,env,b',k.grow s1,e2,fun y H2 s2 r2 _=>?_⟩⟩
   exact v6 (r1.grow s2) (r2.weak Lv.weak_b) e3 fun v r3=>q v H2 (s1.trans s2) r3 trivial)
@[irreducible] def DO (X:Cx) (e:Option Expr) (f:Sl->Res (Option Int)):Prop:=PO X e (fun σ H Q=> ∃G H0 env i,EnvOk X.K G H0 env σ H/\f env= .ok i/\ ∀H',Same H H'->Q i H')
theorem PO.imp {e:Option Expr} {t t':TO} (h:PO X e t) (w: ∀σ H Q,t' σ H Q->t σ H Q):PO X e t':=fun pins s σ H Q I q=>h pins s σ H Q I (w σ H Q q)
def yL:Sl->Res (Option Int):=fun _=> .ok none
def y7:DO X none yL:=by
 with_unfolding_all exact (PO.imp Ul fun σ H Q ⟨G,H0,env,i,k,ef,q⟩=>by cases ef;exact q H (Same.refl H))
def asI:D->Res (Option Int)
 | .int i=> .ok (some i)
 |_=> .stuck
def zG (f:T5):Sl->Res (Option Int):=fun env=>f env>>=asI
def zW (h:DE X l e f):DO X (some e) (zG f):=by
 with_unfolding_all exact (PO.imp (Uk h) fun σ H Q ⟨G,H0,env,i,k,ef,q⟩=>by
  obtain ⟨d,e1,e2⟩:=ja ef
  cases d with
  |int j=>cases e2;exact ⟨G,H0,env,.int j,k,e1,fun v H' s r _=>⟨j,r.intE,q H' s⟩⟩
  |_=>cases e2)
def cutD (ds:List D) (lo hi:Option Int):List D:=(ds.drop (HT.sIx ds.length 0 lo)).take (HT.sIx ds.length ds.length hi-HT.sIx ds.length 0 lo)
def Y9 {K:aaa} {A:Zi} {H:Hp} {xs:List V} {ds:List D} {lo hi:Option Int} (r:Reps K A H xs ds):Reps K A H (cutV xs lo hi) (cutD ds lo hi):=by
 unfold cutV cutD;rw [r.length];exact (r.drop _).take _
def qX (f:T5) (fl fh:Sl->Res (Option Int)) (g:D->Option Int->Option Int->Res D):Sl->Res D:=fun env=>f env>>=fun a=>fl env>>=fun lo=>fh env>>=fun hi=>g a lo hi
end
section
variable {K:aaa} {G:Zi} {H0 H H1 H':Hp} {env env':Sl} {σ σ':L2.St} {i:Nat} {d:D} {v:V}
def jm {α:Type} {l:List α} {i j:Nat} {x:α} (h:i≠j):(l.set i x)[j]?=l[j]?:=acd h
def ju {α:Type} {l:List α} {i:Nat} {x y:α} (h:(l.set i x)[i]?=some y):y=x/\i<l.length:=by
 have hl:i<l.length:=by
  have:=(aaq.mp h).1;simpa using this
 rw [aa9 hl] at h;exact ⟨(aaG h).symm,hl⟩
def yE {s:Slot} {a:Addr} (h:qR (env.set i s) (σ.set i (some v)) a):qR env σ a\/(∃d,s= .own d/\v= .ref a):=by
 obtain ⟨j,d,h1,h2⟩:=h
 by_cases e:i=j
 · subst e;obtain ⟨q1,_⟩:=ju h1;obtain ⟨q2,_⟩:=ju h2;exact .inr ⟨d,q1.symm,(aaG q2).symm⟩
 · rw [jm e] at h1 h2;exact .inl ⟨j,d,h1,h2⟩
def EnvOk.setS (k:EnvOk K G H0 env σ H) (r:Rep K (Sf G env σ) H v d):EnvOk K G H0 (env.set i (.shr d)) (σ.set i (some v)) H:=by
 have w: ∀a,Sf G env σ a->Sf G (env.set i (.shr d)) (σ.set i (some v)) a:=fun a n=>⟨fun o=>(by
   rcases yE o with z| ⟨d',z,_⟩
   · exact n.1 z
   · cases z),n.2⟩
 refine ⟨by simp [k.len],k.base,k.g0,fun j e h=>?_,fun j e h=>?_,fun j j' e e' a h1 h2 h3 h4=>?_⟩
 · by_cases z:i=j
   · subst z;obtain ⟨q,hl⟩:=ju h;cases q;exact ⟨v,aa9 (by rw [k.len];exact hl),r.weak w⟩
   · rw [jm z] at h ⊢;obtain ⟨v',h1,h2⟩:=k.shr j e h;exact ⟨v',h1,h2.weak w⟩
 · by_cases z:i=j
   · subst z;obtain ⟨q,hl⟩:=ju h;cases q
   · rw [jm z] at h ⊢;obtain ⟨v',h1,h0,h2⟩:=k.own j e h;exact ⟨v',h1,h0,h2.stay (fun _ _ e _=>e) w fun _ e=>e⟩
 · have n1:i≠j:=fun z=>by subst z;obtain ⟨q,_⟩:=ju h1;cases q
   have n2:i≠j':=fun z=>by subst z;obtain ⟨q,_⟩:=ju h2;cases q
   rw [jm n1] at h1 h3;rw [jm n2] at h2 h4;exact k.dis j j' e e' a h1 h2 h3 h4
def JV:D->Bool
 | .lst _=>true
 | .dic _ _=>true
 | .dit _ _=>true
 | .obj _ _ _=>true
 |_=>false
def Zq {A:Zi} (r:Rep K A H v d) (h:JV d=true): ∃a,v= .ref a/\A a/\(∃o,H a=some o/\Mut (some o))/\Top K (fun c=>A c/\c≠a) H a d:=by
 cases r with
 |lst e a r=>exact ⟨_,rfl,a,⟨_,e,trivial⟩,.lst e r⟩
 |dic e a k1 k2 r=>exact ⟨_,rfl,a,⟨_,e,trivial⟩,.dic e k1 k2 r⟩
 |dit e a k1 k2 r=>exact ⟨_,rfl,a,⟨_,e,trivial⟩,.dit e k1 k2 r⟩
 |obj e a k1 k2 r=>exact ⟨_,rfl,a,⟨_,e,trivial⟩,.obj e k1 k2 r⟩
 |_=>cases h
def kN {a:Addr} (s:Same H H1) (nt:NewTop H (.ref a)) (h: ∃o,H1 a=some o/\Mut (some o)):H a=none:=by
 cases e:H a with
 |none=>rfl
 |some o=>
  obtain ⟨o',h1,h2⟩:=h;rw [s a o e] at h1;cases h1;exact (nt a rfl o e h2).elim
def EnvOk.setN (k:EnvOk K G H0 env σ H) (s:Same H H1) (r:Rep K (Sf G env σ) H1 v d) (nt:NewTop H v) (hd:JV d=true):EnvOk K G H0 (env.set i (.own d)) (σ.set i (some v)) H1/\ ∃a,v= .ref a/\H a=none:=by
 obtain ⟨a,rfl,ga,mt,top⟩:=Zq r hd;have fa:=kN s nt mt;refine ⟨?_,a,rfl,fa⟩
 have w: ∀c,(Sf G env σ c/\c≠a)->Sf G (env.set i (.own d)) (σ.set i (some (V.ref a))) c:=fun c n=>⟨fun o=>(by
   rcases yE o with z| ⟨d',z,z2⟩
   · exact n.1.1 z
   · cases z2;exact n.2 rfl),n.1.2⟩
 have w2: ∀c,(Sf G env σ c/\H c≠none)->Sf G (env.set i (.own d)) (σ.set i (some (V.ref a))) c:=fun c n=>w c ⟨n.1,fun e=>n.2 (by rw [e];exact fa)⟩
 have k1:=k.grow s;refine ⟨by simp [k.len],k1.base,k.g0,fun j e h=>?_,fun j e h=>?_,fun j j' e e' b h1 h2 h3 h4=>?_⟩
 · by_cases z:i=j
   · subst z;obtain ⟨q,hl⟩:=ju h;cases q
   · rw [jm z] at h ⊢;obtain ⟨v',h1,h2⟩:=k.shr j e h;exact ⟨v',h1,(h2.inDom.grow s).weak w2⟩
 · by_cases z:i=j
   · subst z;obtain ⟨q,hl⟩:=ju h;cases q;exact ⟨a,aa9 (by rw [k.len];exact hl),Same.free k.base fa,top.stay (fun _ _ e _=>e) w fun _ e=>e⟩
   · rw [jm z] at h ⊢;obtain ⟨v',h1,h0,h2⟩:=k.own j e h;refine ⟨v',h1,h0,?_⟩
     cases h2 with
     |lst e2 r2=>exact .lst (s _ _ e2) ((r2.inDom.grow s).weak w2)
     |dic e2 k2 k3 r2=>exact .dic (s _ _ e2) k2 k3 ((r2.inDom.grow s).weak w2)
     |dit e2 k2 k3 r2=>exact .dit (s _ _ e2) k2 k3 ((r2.inDom.grow s).weak w2)
     |obj e2 k2 k3 r2=>exact .obj (s _ _ e2) k2 k3 ((r2.inDom.grow s).weak w2)
 · have new: ∀(j:Nat) (e:D),env[j]?=some (.own e)->σ[j]?=some (some (.ref a))->False:=fun j e q1 q2=>by
     obtain ⟨u,q⟩:=k.there ⟨j,e,q1,q2⟩;rw [fa] at q;cases q
   by_cases z1:i=j
   · subst z1
     by_cases z2:i=j'
     · exact z2
     · rw [jm z2] at h2 h4;obtain ⟨q,_⟩:=ju h3;cases q;exact (new j' e' h2 h4).elim
   · rw [jm z1] at h1 h3
     by_cases z2:i=j'
     · subst z2;obtain ⟨q,_⟩:=ju h4;cases q;exact (new j e h1 h3).elim
     · rw [jm z2] at h2 h4;exact k.dis j j' e e' b h1 h2 h3 h4
def Frm.set {s:Slot} (sm:Same H H1) (fresh: ∀a d,s= .own d->v= .ref a->H a=none):Frm env σ H (env.set i s) (σ.set i (some v)) H1:=
 ⟨fun b o e _=>sm b o e,fun b o=>by
  rcases yE o with z| ⟨d',z,z2⟩
  · exact .inl z
  · exact .inr (fresh b d' z z2),fun b e=>Same.free sm e⟩
def Frm.sf (f:Frm env σ H env' σ' H'): ∀a,(Sf G env σ a/\H a≠none)->Sf G env' σ' a:=fun a z=>⟨fun o=>(f.more a o).elim z.1.1 z.2,z.1.2⟩
def Frm.st (k:EnvOk K G H0 env σ H) (f:Frm env σ H env' σ' H'):Stay (fun a=>Sf G env σ a/\H a≠none) H H':=fun a o e m=>f.keep a o e fun ow=>(m (k.mutO ow e)).1.1 ow
def Frm.rep (k:EnvOk K G H0 env σ H) (f:Frm env σ H env' σ' H') (r:Rep K (Sf G env σ) H v d):Rep K (Sf G env' σ') H' v d:=r.inDom.stay (f.st k) f.sf
def Frm.reps (k:EnvOk K G H0 env σ H) (f:Frm env σ H env' σ' H') {vs:List V} {ds:List D} (r:Reps K (Sf G env σ) H vs ds):Reps K (Sf G env' σ') H' vs ds:=r.inDom.stay (f.st k) f.sf
end
def xG (d:D):Slot:=if JV d=true then .own d else .shr d
def EnvOk.setNew {K:aaa} {G:Zi} {H0 H H1:Hp} {env:Sl} {σ:L2.St} {i:Nat} {d:D} {v:V} (k:EnvOk K G H0 env σ H) (s:Same H H1) (r:Rep K (Sf G env σ) H1 v d) (nt:NewTop H v):
   EnvOk K G H0 (env.set i (xG d)) (σ.set i (some v)) H1/\Frm env σ H (env.set i (xG d)) (σ.set i (some v)) H1:=by
 unfold xG
 by_cases h:JV d=true
 · rw [if_pos h];obtain ⟨z,a',e',fa⟩:=k.setN (i:=i) s r nt h;refine ⟨z,.set s fun a d' _ e=>?_⟩;rw [e] at e';cases e';exact fa
 · rw [if_neg h];exact ⟨(k.grow s).setS r,.set s fun _ _ z _=>by cases z⟩
def nxO:Sl->Res Out:=fun env=> .ok (.nx env)
def augI (h:Int->Int->Int) (a b:D):Res D:=match a,b with
 | .int m,.int n=> .ok (.int (h m n))
 |_,_=> .stuck
def seqO (g1 g2:T3):Sl->Res Out:=fun env=>g1 env>>=fun o=>match o with
 | .nx env'=>g2 env'
 | .rt fr d=> .ok (.rt fr d)
 | .bk env'=> .ok (.bk env')
 | .ct env'=> .ok (.ct env')
section
variable {X:Cx} {e c tg:Expr} {st:Stmt} {rest body orelse:List Stmt} {pos:Pos} {l:Lv} {f:T5} {g g1 g2:T3}
def qd:DSs X [] nxO:=by
 with_unfolding_all exact (PSs.imp X2 fun E σ H ⟨G,H0,env,o,k,ef,q⟩=>by
  cases ef
  exact q σ H k (Frm.refl (Same.refl H)))
def Wa {K:aaa} {G:Zi} {H0 H H':Hp} {env env':Sl} {σ σ':L2.St} {E:Ends} {o:Out} (f:Frm env σ H env' σ' H') (q:Post K G H0 env σ H E o):Post K G H0 env' σ' H' E o:=by
 cases o with
 |nx e=>exact fun σ2 H2 k2 f2=>q σ2 H2 k2 (f.trans f2)
 |bk e=>exact fun σ2 H2 k2 f2=>q σ2 H2 k2 (f.trans f2)
 |ct e=>exact fun σ2 H2 k2 f2=>q σ2 H2 k2 (f.trans f2)
 |rt fr d=>exact q
def jd (h1:DS X st g1) (h2:DSs X rest g2):DSs X (st::rest) (seqO g1 g2):=by
 with_unfolding_all exact (PSs.imp (Z4 h1 h2) fun E σ H ⟨G,H0,env,o,k,ef,q⟩=>by
  obtain ⟨o1,e1,e2⟩:=ja ef;refine ⟨G,H0,env,o1,k,e1,?_⟩
  cases o1 with
  |nx env1=>exact fun σ' H' k' f'=>⟨G,H0,env1,o,k',e2,Wa f' q⟩
  |rt fr d=>cases e2;exact q
  |bk e'=>cases e2;exact q
  |ct e'=>cases e2;exact q)
def jj (h1:DS X st g1):DSs X [st] g1:=by
 with_unfolding_all exact (PSs.imp (X1 h1) fun E σ H q=>q)
def retO (f:T5):Sl->Res Out:=fun env=>f env>>=fun d=> .ok (.rt true d)
def jU (h:DE X .t e f):DS X (.Return (some e) pos) (retO f):=by
 with_unfolding_all exact (PS.imp (Z6 h) fun E σ H ⟨G,H0,env,o,k,ef,q⟩=>by
  obtain ⟨d,e1,e2⟩:=ja ef;cases e2
  exact ⟨G,H0,env,d,k,e1,fun v H' s r nt=>q v H' (k.base.trans s) (r.weak fun a z=>z.2) fun _=>NewTop.grow k.base nt⟩)
def retS (f:T5):Sl->Res Out:=fun env=>f env>>=fun d=> .ok (.rt false d)
def Qf (h:DE X .s e f):DS X (.Return (some e) pos) (retS f):=by
 with_unfolding_all exact (PS.imp (Z6 h) fun E σ H ⟨G,H0,env,o,k,ef,q⟩=>by
  obtain ⟨d,e1,e2⟩:=ja ef;cases e2
  exact ⟨G,H0,env,d,k,e1,fun v H' s r nt=>q v H' (k.base.trans s) (r.weak fun a z=>z.2) fun z=>by cases z⟩)
def rdO (i:Nat):Sl->Res D:=fun env=>match env[i]? with
 |some (.own d)=> .ok d
 |some (.shr d)=>must (d.imm=true) (.ok d)
 |_=> .stuck
def YY (i:Nat) {x:Str} {p:Pos} (hN:X.N[i]?=some x:=by rfl) (hv:Vis X.env.scope x:=by first|exact abg rfl|exact aaR (abg rfl)|exact aaR (aaR rfl)) (hd:Z2 x:=by decide)
    (hcd:Zk x:=by decide):DS X (.Return (some (.Name x p)) pos) (retO (rdO i)):=by
 with_unfolding_all exact (PS.imp (Z6 (zI hN hv hd hcd)) fun E σ H ⟨G,H0,env,o,k,ef,q⟩=>by
  obtain ⟨d,e1,e2⟩:=ja ef;cases e2;unfold rdO at e1
  split at e1
  · rename_i d' hs;cases e1;obtain ⟨a,h1,h0,h2⟩:=k.own i d hs;refine ⟨.ref a,h1,q _ H k.base (h2.rep (fun c z=>⟨z.2,Z9 k hs h1 c z⟩) (k.g0 a h0)) fun _ b e o' q'=>?_⟩;cases e;rw [h0] at q';cases q'
  · rename_i d' hs;obtain ⟨hm,e3⟩:=jn e1;cases e3;obtain ⟨v,h1,h2⟩:=k.shr i d hs;exact ⟨v,h1,q v H k.base (h2.imm hm) fun _=>YE k.base h2 hm⟩
  · cases e1)
def ifO (t:T4) (g1 g2:T3):Sl->Res Out:=fun env=>t env>>=fun b=>if b=true then g1 env else g2 env
def zN {t:T4} (hc:DT X c t) (h1:DSs X body g1) (h2:DSs X orelse g2):DS X (.If c body orelse pos) (ifO t g1 g2):=by
 with_unfolding_all exact (PS.imp (Uj hc h1 h2) fun E σ H ⟨G,H0,env,o,k,ef,q⟩=>by
  obtain ⟨b,e1,e2⟩:=ja ef;refine ⟨G,H0,env,b,k,e1,fun H' s=>?_⟩
  cases b with
  |true=>rw [if_pos rfl] at e2 ⊢;exact ⟨G,H0,env,o,k.grow s,e2,Wa (Frm.refl s) q⟩
  |false=>rw [if_neg aaB] at e2 ⊢;exact ⟨G,H0,env,o,k.grow s,e2,Wa (Frm.refl s) q⟩)
def setO (i:Nat) (f:T5):Sl->Res Out:=fun env=>f env>>=fun d=> .ok (.nx (env.set i (xG d)))
def JF (i:Nat) {x:Str} {pos':Pos} (hN:X.N.Nodup) (h:DE X .t e f) (hi:X.N[i]?=some x:=by rfl) (hx:Loc X.env.scope x:=by first|exact abg rfl|exact aaR rfl) (hs:abB e (some (.Name x pos')) pos.line X.env=pure false:=by rfl)
   (hf:T8 X x:=by first|exact .inl rfl|exact .inr rfl|assumption):DS X (.Assign [.Name x pos'] e pos) (setO i f):=by
 with_unfolding_all exact (
  PS.imp (QB (i:=i) hN hi hx h hs hf) fun E σ H ⟨G,H0,env,o,k,ef,q⟩=>by
   obtain ⟨d,e1,e2⟩:=ja ef;cases e2
   exact ⟨G,H0,env,d,k,e1,fun v H' s r nt=>q _ H' (k.setNew s r nt).1 (k.setNew s r nt).2⟩)
def jB (i:Nat) (f:T5):Sl->Res Out:=fun env=>f env>>=fun d=> .ok (.nx (env.set i (.shr d)))
def jz (i:Nat) {x:Str} {pos':Pos} (hN:X.N.Nodup) (h:DE X .s e f) (hi:X.N[i]?=some x:=by rfl) (hx:Loc X.env.scope x:=by first|exact abg rfl|exact aaR rfl) (hs:abB e (some (.Name x pos')) pos.line X.env=pure false:=by rfl)
   (hf:T8 X x:=by first|exact .inl rfl|exact .inr rfl|assumption):DS X (.Assign [.Name x pos'] e pos) (jB i f):=by
 with_unfolding_all exact (
  PS.imp (QB (i:=i) hN hi hx h hs hf) fun E σ H ⟨G,H0,env,o,k,ef,q⟩=>by
   obtain ⟨d,e1,e2⟩:=ja ef;cases e2
   exact ⟨G,H0,env,d,k,e1,fun v H' s r _=>q _ H' ((k.grow s).setS r) (.set s fun _ _ z _=>by cases z)⟩)
def VN (i:Nat) {x:Str} {pos':Pos} {op:ab6} {h:Int->Int->Int} (hN:X.N.Nodup) (he:DE X l e f) (ho:PIp X op (ipI h)) (hi:X.N[i]?=some x:=by rfl) (hx:Loc X.env.scope x:=by first|exact abg rfl|exact aaR rfl)
   (hf:T8 X x:=by first|exact .inl rfl|exact .inr rfl|assumption):
   DS X (.AugAssign (.Name x pos') op e pos) (jB i (two (rdS i) f (augI h))):=by
 with_unfolding_all exact (
  PS.imp (ku (i:=i) hN hi hx he ho hf) fun E σ H ⟨G,H0,env,o,k,ef,q⟩=>by
   obtain ⟨d,e1,e2⟩:=ja ef;obtain ⟨a,e3,e4⟩:=ja e1;obtain ⟨b,e5,e6⟩:=ja e4;cases e2;obtain ⟨v,h1,h2⟩:=k.shr i a (XZ e3);refine ⟨v,h1,G,H0,env,b,k,e5,fun w H' s r _=>?_⟩
   cases a with
   |int m=>
    cases b with
    |int n=>
     cases e6;cases h2.intE;cases r.intE;exact ⟨m,n,rfl,rfl,q _ H' ((k.grow s).setS (.int _)) (.set s fun _ _ z _=>by cases z)⟩
    |_=>cases e6
   |_=>cases e6)
end
def Its (x:Str):It:=⟨fun i _=>i<x.cps.size,fun i H v H'=>H'=H/\ ∃c,x.cps[i]?=some c/\v= .str ⟨#[c]⟩,fun i _=>x.cps.size<=i⟩
def WS {P:aaE} {w:World} {K:aaa} {tg:Expr} (it:Addr) (x:Str) (t:Tok):Turn P w K tg (Its x) [it] it (fun i h=>h.IsStrIter it "str_ascii_iterator" x t i) where
 mem:=by simp
 obj:=fun i h st b hb=>by
  have e:b=it:=by simpa using hb
  subst e;obtain ⟨o,e,c,d⟩:=st;exact ⟨o,e,fun v z=>by rw [d] at z;cases z⟩
 keep:=fun i h h' st k=>let ⟨o,ho,r⟩:=st;⟨o,k it (by simp) o ho,r⟩
 item:=by
  intro X hP hw hK hc i pins s σ H E I hf st hg;subst hP hw hK;have hi:i<x.cps.size:=hg;obtain ⟨f0,f1,f2,f3,f4,f5⟩:=hf it (by simp);refine wpAny_pyNext_ascii_item st (c:=x.cps[i]) (by simp [hi]) fun h' st' sb=>?_
  have I1:Inv X pins σ H {s with heap:=h',toks:=s.toks+1}:=I.turned (fun b o hb e=>(sb.2 b hb).trans e) f0 f1 f3 f4 f5;obtain ⟨o,e,c,d⟩:=id st';exact ⟨_,rfl,Xb (s:={s with heap:=h',toks:=s.toks+1}) e c d (by decide) ⟨.str ⟨#[x.cps[i]]⟩,H,I1,⟨_,rfl⟩,⟨rfl,_,by simp [hi],rfl⟩,st',fun b hb=>(hf b hb).1⟩⟩
 done:=by
  intro X hP hw hK hc i pins s σ H E I hf st hg;subst hP hw hK;have hi:x.cps.size<=i:=hg;obtain ⟨f0,f1,f2,f3,f4,f5⟩:=hf it (by simp);exact wpAny_pyNext_ascii_end (I.ok.hd hc) st (by simp;exact hi) fun h' eb=>⟨rfl,I.turned (t':=s.toks) (fun b o hb e=>eb b o hb e) f0 f1 f3 f4 f5⟩
 self:=fun _ _ _ _ _ st h=>wpAny_pyIter_striter_ascii st h
def Xs {P:aaE} {w:World} {K:aaa} {tg:Expr} (it:Addr) (x:Str) (t:Tok):Turn P w K tg (Its x) [it] it (fun i h=>h.IsStrIter it "str_iterator" x t i) where
 mem:=by simp
 obj:=fun i h st b hb=>by
  have e:b=it:=by simpa using hb
  subst e;obtain ⟨o,e,c,d⟩:=st;exact ⟨o,e,fun v z=>by rw [d] at z;cases z⟩
 keep:=fun i h h' st k=>let ⟨o,ho,r⟩:=st;⟨o,k it (by simp) o ho,r⟩
 item:=by
  intro X hP hw hK hc i pins s σ H E I hf st hg;subst hP hw hK;have hi:i<x.cps.size:=hg;obtain ⟨f0,f1,f2,f3,f4,f5⟩:=hf it (by simp);refine wpAny_pyNext_wide_item st (c:=x.cps[i]) (by simp [hi]) fun h' st' sb=>?_
  have I1:Inv X pins σ H {s with heap:=h',toks:=s.toks+1}:=I.turned (fun b o hb e=>(sb.2 b hb).trans e) f0 f1 f3 f4 f5;obtain ⟨o,e,c,d⟩:=id st';exact ⟨_,rfl,Xb (s:={s with heap:=h',toks:=s.toks+1}) e c d (by decide) ⟨.str ⟨#[x.cps[i]]⟩,H,I1,⟨_,rfl⟩,⟨rfl,_,by simp [hi],rfl⟩,st',fun b hb=>(hf b hb).1⟩⟩
 done:=by
  intro X hP hw hK hc i pins s σ H E I hf st hg;subst hP hw hK;have hi:x.cps.size<=i:=hg;obtain ⟨f0,f1,f2,f3,f4,f5⟩:=hf it (by simp);exact wpAny_pyNext_wide_end (I.ok.hd hc) st (by simp;exact hi) fun h' eb=>⟨rfl,I.turned (t':=s.toks) (fun b o hb e=>eb b o hb e) f0 f1 f3 f4 f5⟩
 self:=fun _ _ _ _ _ st h=>wpAny_pyIter_striter_wide st h
def Walk (J:It) (xs:List V) (P:Hp->Prop):Prop:= ∀i H,P H->(i<xs.length->J.go i H)/\(i<xs.length-> ∀x H',J.yld i H x H'->H'=H/\xs[i]?=some x)/\(xs.length<=i->J.stop i H)
def Yd (K:aaa) (A:Zi) (H1 H H':Hp) (x:V) (d:D):Prop:=
 (H'=H/\Rep K A H1 x d)\/ ∃p vs es,H p=none/\x= .ref p/\H'=L2.upd H p (.tup vs)/\d= .tup es/\Reps K A H1 vs es
def U4 (K:aaa) (A:Zi) (H1:Hp) (J:It) (ds:List D) (P:Hp->Prop):Prop:= ∀i H,P H->(i<ds.length->J.go i H)/\(∀d,ds[i]?=some d-> ∀x H',J.yld i H x H'->Yd K A H1 H H' x d)/\(ds.length<=i->J.stop i H)
def Walk.toD {K:aaa} {A:Zi} {H1:Hp} {J:It} {xs:List V} {ds:List D} {P:Hp->Prop} (rs:Reps K A H1 xs ds) (w:Walk J xs P):U4 K A H1 J ds P:=fun i H p=>by
 have hl:=rs.length;obtain ⟨w1,w2,w3⟩:=w i H p;refine ⟨fun h=>w1 (by omega),fun d hd x H' y=>?_,fun h=>w3 (by omega)⟩;have hi:i<ds.length:=(aaq.mp hd).1;obtain ⟨e,hx⟩:=w2 (by omega) x H' y;obtain ⟨d',hd',r⟩:=rs.get' hx;rw [hd] at hd';cases hd';exact .inl ⟨e,r⟩
def tI (K:aaa) (f:T2):TI:=fun σ H R=> ∃G H0 env ds,EnvOk K G H0 env σ H/\f env= .ok ds/\
 ∀J H1 P,Same H H1->U4 K (Sf G env σ) H1 J ds P->P H1->(∀env' σ' H',Frm env σ H1 env' σ' H'->P H')->R J H1
@[irreducible] def DI (X:Cx) (tg e:Expr) (f:T2):Prop:=PI X tg e (tI X.K f)
def Jb (z:Str):List D:=z.cps.toList.map fun c=> .str ⟨#[c]⟩
def K2:D->Res (List D)
 | .lst ds=> .ok ds
 | .scr ds=> .ok ds
 | .tup ds=> .ok ds
 | .str z=> .ok (Jb z)
 |_=> .stuck
def WU (z:Str):List V:=z.cps.toList.map fun c=> .str ⟨#[c]⟩
def XL {K:aaa} {A:Zi} {H:Hp} (z:Str):Reps K A H (WU z) (Jb z):=by
 unfold WU Jb;generalize z.cps.toList=l
 induction l with
 |nil=>exact .nil
 |cons c r ih=>exact .cons (.str _ (Uv c)) ih
section
variable {X:Cx} {tg e:Expr} {f:T5} {l:Lv}
def itF (f:T5):Sl->Res (List D):=fun env=>f env>>=K2
def QV (h:DE X .s e f):DI X tg e (itF f):=by
 with_unfolding_all exact (by
  intro pins s σ H R I ⟨G,H0,env,ds,k,ef,q⟩;obtain ⟨d,e1,e2⟩:=ja ef;refine thn (h pins s σ H (fun v H1=>Same H H1/\Rep X.K (Sf G env σ) H1 v d) I ⟨G,H0,env,d,k,e1,fun v H' s r _=>⟨s,r⟩⟩) fun v s1 ⟨x,H1,I1,r1,sm,rep⟩=>?_
  have k1:=k.grow sm
  cases d with
  |lst ds'=>
   cases e2;obtain ⟨a,xs,rfl,ha,na,rs⟩:=rep.lstE;cases r1;obtain ⟨its,rv,p,hz⟩:=I1.list (.of ha);refine wpAny_pyIter_list p.isList ?_;refine ⟨s1.heap.objs.size,[s1.heap.objs.size],_,_,H1,rfl,I1.kept (t':=s1.toks) fun b o e=>aah _ e,Qt a _,⟨_,aay _ rfl,rfl,rfl⟩,fun b hb=>?_,?_⟩
   · have e:b=s1.heap.objs.size:=by simpa using hb
     subst e;exact I1.fpOk (aan _) (I1.hok.fresh (aan _))
   · refine q _ H1 (fun H=>H a=some (.lst xs)) sm (Walk.toD rs.low fun i H' p=>?_) ha (fun env' σ' H' fr=>fr.keep a _ ha na.1);exact ⟨fun hi=>⟨xs,xs[i],.of p,by simp [hi]⟩,fun _ x H' y=>⟨y.1,y.2 xs (.of p)⟩,fun hi=>⟨xs,.of p,hi⟩⟩
  |scr ds'=>
   cases e2;obtain ⟨a,xs,rfl,ha,rs⟩:=rep.scrE;cases r1;obtain ⟨its,rv,p,hz⟩:=I1.list ha.sql;refine wpAny_pyIter_list p.isList ?_;refine ⟨s1.heap.objs.size,[s1.heap.objs.size],_,_,H1,rfl,I1.kept (t':=s1.toks) fun b o e=>aah _ e,Qt a _,⟨_,aay _ rfl,rfl,rfl⟩,fun b hb=>?_,?_⟩
   · have e:b=s1.heap.objs.size:=by simpa using hb
     subst e;exact I1.fpOk (aan _) (I1.hok.fresh (aan _))
   · refine q _ H1 (fun H=>LsK X.K H a xs) sm (Walk.toD rs fun i H' p=>?_) ha (fun env' σ' H' fr=>?_)
     · exact ⟨fun hi=>⟨xs,xs[i],p.sql,by simp [hi]⟩,fun _ x H' y=>⟨y.1,y.2 xs p.sql⟩,fun hi=>⟨xs,p.sql,hi⟩⟩
     · rcases ha with ⟨o,eo⟩|z
       · exact .inl ⟨o,fr.keep a _ eo fun ow=>(k1.mutO ow eo).elim⟩
       · exact .inr z
  |tup ds'=>
   cases e2;obtain ⟨a,xs,rfl,ha,rs⟩:=rep.tupE;cases r1;obtain ⟨its,rv,p,hz⟩:=I1.tuple (.of ha);refine wpAny_pyIter_tuple (show s1.heap.IsTuple a its.toArray from p) ?_;refine ⟨s1.heap.objs.size,[s1.heap.objs.size],_,_,H1,rfl,I1.kept (t':=s1.toks) fun b o e=>aah _ e,WQ a _,⟨_,aay _ rfl,rfl,rfl⟩,fun b hb=>?_,?_⟩
   · have e:b=s1.heap.objs.size:=by simpa using hb
     subst e;exact I1.fpOk (aan _) (I1.hok.fresh (aan _))
   · refine q _ H1 (fun H=>H a=some (.tup xs)) sm (Walk.toD rs fun i H' p=>?_) ha (fun env' σ' H' fr=>fr.keep a _ ha fun ow=>(k1.mutO ow ha).elim);exact ⟨fun hi=>⟨xs,xs[i],.of p,by simp [hi]⟩,fun _ x H' y=>⟨y.1,y.2 xs (.of p)⟩,fun hi=>⟨xs,.of p,hi⟩⟩
  |str z=>
   cases e2;obtain ⟨rfl,hz⟩:=rep.strE;obtain ⟨t,rfl⟩:=r1
   have fin: ∀(J:It),J=Its z-> ∃(xs:List V) (P:Hp->Prop),Reps X.K (Sf G env σ) H1 xs (Jb z)/\Walk J xs P/\P H1/\ ∀env' σ' H',Frm env σ H1 env' σ' H'->P H':=by
     rintro J rfl;refine ⟨WU z,fun _=>True,XL z,fun i H' _=>?_,trivial,fun _ _ _ _=>trivial⟩;have hl:(WU z).length=z.cps.size:=by simp [WU]
     refine ⟨fun hi=>by rw [hl] at hi;exact hi,fun hi x H2 y=>?_,fun hi=>by rw [hl] at hi;exact hi⟩;obtain ⟨y1,c,y2,y3⟩:=y;refine ⟨y1,?_⟩;subst y3;simp [WU,y2]
   obtain ⟨xs,P,h1,h2,h3,h4⟩:=fin (Its z) rfl
   cases hall:z.cps.all (· <128) with
   |true=>
     refine wpAny_pyIter_ascii hall ?_;refine ⟨s1.heap.objs.size,[s1.heap.objs.size],_,_,H1,rfl,I1.kept (t':=s1.toks) fun b o e=>aah _ e,WS _ z t,⟨_,aay _ rfl,rfl,rfl⟩,fun b hb=>?_,q _ H1 P sm (Walk.toD h1 h2) h3 h4⟩;have e:b=s1.heap.objs.size:=by simpa using hb
     subst e;exact I1.fpOk (aan _) (I1.hok.fresh (aan _))
   |false=>
     refine wpAny_pyIter_wide hall ?_;refine ⟨s1.heap.objs.size,[s1.heap.objs.size],_,_,H1,rfl,I1.kept (t':=s1.toks) fun b o e=>aah _ e,Xs _ z t,⟨_,aay _ rfl,rfl,rfl⟩,fun b hb=>?_,q _ H1 P sm (Walk.toD h1 h2) h3 h4⟩;have e:b=s1.heap.objs.size:=by simpa using hb
     subst e;exact I1.fpOk (aan _) (I1.hok.fresh (aan _))
  |_=>cases e2)
def zD (lo:Int) (n:Nat):List D:=(aa0 n).map fun (i:Nat)=> .int (lo+(i:Int))
def W6 (lo:Int) (n:Nat):List V:=(aa0 n).map fun (i:Nat)=> .int (lo+(i:Int))
def YC {K:aaa} {A:Zi} {H:Hp} (lo:Int) (n:Nat):Reps K A H (W6 lo n) (zD lo n):=by
 unfold W6 zD;generalize aa0 n=l
 induction l with
 |nil=>exact .nil
 |cons c r ih=>exact .cons (.int _) ih
def WP (lo:Int) (n:Nat):Walk (Itr lo n) (W6 lo n) (fun _=>True):=fun i H _=>by
 have hl:(W6 lo n).length=n:=by simp [W6]
 refine ⟨fun hi=>by rw [hl] at hi;exact hi,fun hi x H2 y=>?_,fun hi=>by rw [hl] at hi;exact hi⟩;obtain ⟨y1,y2⟩:=y;refine ⟨y1,?_⟩;subst y2;rw [hl] at hi;simp [W6,hi]
def rng1:List D->Res (List D)
 | [.int j]=>must (-(2^62)<=j/\j<2^62) (.ok (zD 0 j.toNat))
 |_=> .stuck
def Reps.one {K:aaa} {A:Zi} {H:Hp} {vs:List V} {d:D} (r:Reps K A H vs [d]): ∃v,vs=[v]/\Rep K A H v d:=by
 cases r with
 |cons h t=>cases t;exact ⟨_,rfl,h⟩
def Reps.two {K:aaa} {A:Zi} {H:Hp} {vs:List V} {d d':D} (r:Reps K A H vs [d,d']): ∃v v',vs=[v,v']/\Rep K A H v d/\Rep K A H v' d':=by
 cases r with
 |cons h t=>
  obtain ⟨v',rfl,h'⟩:=t.one;exact ⟨_,_,rfl,h,h'⟩
def PI.imp {t t':TI} (h:PI X tg e t) (w: ∀σ H Q,t' σ H Q->t σ H Q):PI X tg e t':=fun pins s σ H Q I q=>h pins s σ H Q I (w σ H Q q)
def rngF (fa:T2):Sl->Res (List D):=fun env=>fa env>>=rng1
def wP {a:Expr} {p pos:Pos} {fa:T2} (hg:Gl X "range") (hm:X.mg "range" =none) (ha:DA X l [a] fa) (hs:aag [a] X.env=[(false,eval a X.env)]:=by rfl):DI X tg (.Call (.Name "range" p) [a] [] pos) (rngF fa):=by
 with_unfolding_all exact (
  PI.imp (X8 hg hm ha hs) fun σ H R ⟨G,H0,env,ds,k,ef,q⟩=>by
   obtain ⟨as,e1,e2⟩:=ja ef;refine ⟨G,H0,env,as,k,e1,fun vs H1 s1 r1=>?_⟩;unfold rng1 at e2
   split at e2
   · obtain ⟨⟨h1,h2⟩,e3⟩:=jn e2;cases e3;obtain ⟨v,rfl,r⟩:=r1.one;cases r.intE;exact ⟨_,rfl,h1,h2,q _ H1 _ s1 (Walk.toD (YC 0 _) (WP 0 _)) trivial fun _ _ _ _=>trivial⟩
   · cases e2)
def tG (K:aaa) (t:T0):TG:=fun v σ H Q=> ∃G H0 env d env',EnvOk K G H0 env σ H/\Rep K (Sf G env σ) H v d/\t d env= .ok env'/\ ∀σ',EnvOk K G H0 env' σ' H->Frm env σ H env' σ' H->Q σ' H
@[irreducible] def DG (X:Cx) (tg:Expr) (t:T0):Prop:=PG X tg (tG X.K t)
theorem PG.imp {t t':TG} (h:PG X tg t) (w: ∀v σ H Q,t' v σ H Q->t v σ H Q):PG X tg t':=fun pins s σ H v u Q I r q=>h pins s σ H v u Q I r (w v σ H Q q)
def gN (i:Nat):D->Sl->Res Sl:=fun d env=> .ok (env.set i (.shr d))
def qG (i:Nat) {x:Str} {pos:Pos} (hN:X.N.Nodup) (hi:X.N[i]?=some x:=by rfl) (hx:Loc X.env.scope x:=by first|exact abg rfl|exact aaR rfl)
   (hf:T8 X x:=by first|exact .inl rfl|exact .inr rfl|assumption):DG X (.Name x pos) (gN i):=by
 with_unfolding_all exact (
  PG.imp (Uo hN hi hx hf) fun v σ H Q ⟨G,H0,env,d,env',k,r,e,q⟩=>by
   cases e
   exact q _ (k.setS r) (.set (Same.refl H) fun _ _ z _=>by cases z))
def g2 (t u:T0):D->Sl->Res Sl:=fun d env=>match d with
 | .tup [x,y]=>t x env>>=fun env'=>u y env'
 |_=> .stuck
def vp {a b:Expr} {k:Nat} {pos:Pos} {t u:T0} (hc:X.calm=true) (h1:DG X a t) (h2:DG X b u)
   (hs:(abl [a,b] X.env).map (·.2)=assign a X.env::(abl [b] X.env).map (·.2):=by rfl) (hs2:(abl [b] X.env).map (·.2)=assign b X.env::(abl [] X.env).map (·.2):=by rfl)
   (hn:(abl [a,b] X.env).length=2:=by rfl) (hst:(abl [a,b] X.env).findIdx? (·.1)=none:=by rfl):DG X (.Tuple [a,b] k pos) (g2 t u):=by
 with_unfolding_all exact (
  PG.imp (ky (n:=2) hc (Z7 h1 (Z7 h2 Um hs2) hs) hn hst) fun v σ H Q ⟨G,H0,env,d,env',k,r,e,q⟩=>by
   unfold g2 at e
   split at e
   · obtain ⟨env1,e1,e2⟩:=ja e;obtain ⟨a,xs,rfl,ha,rs⟩:=r.tupE;obtain ⟨v1,v2,rfl,r1,r2⟩:=rs.two;refine ⟨a,_,rfl,.of ha,rfl,v1,[v2],rfl,G,H0,env,_,env1,k,r1,e1,fun σ1 k1 f1=>⟨v2,[],rfl,G,H0,env1,_,env',k1,f1.rep k r2,e2,fun σ2 k2 f2=>⟨rfl,q σ2 k2 (f1.trans f2)⟩⟩⟩
   · cases e)
def asgO (f:T5) (t:T0):Sl->Res Out:=fun env=>f env>>=fun d=>t d env>>=fun env'=> .ok (.nx env')
def vo {pos:Pos} {t:T0} (he:DE X .s e f) (hg:DG X tg t) (hs:swapsWithSole [tg] e pos.line X.env=pure false:=by rfl) (hw:swappedStores [tg] e X.env=pure none:=by rfl)
   (h1:(abl [tg] X.env).map (·.2)=[assign tg X.env]:=by rfl):DS X (.Assign [tg] e pos) (asgO f t):=by
 with_unfolding_all exact (
  PS.imp (Vu he hg hs hw h1) fun E σ H ⟨G,H0,env,o,k,ef,q⟩=>by
   obtain ⟨d,e1,e2⟩:=ja ef;obtain ⟨env',e3,e4⟩:=ja e2;cases e4
   exact ⟨G,H0,env,d,k,e1,fun v H' s r _=>⟨G,H0,env,d,env',k.grow s,r,e3,fun σ' k' f'=>q σ' H' k' (f'.grow s)⟩⟩)
def forD (body:D->Sl->Res Out):List D->Sl->Res Out
 | [],env=> .ok (.nx env)
 |d::ds,env=>body d env>>=fun o=>match o with
  | .nx env'=>forD body ds env'
  | .ct env'=>forD body ds env'
  | .bk env'=> .ok (.nx env')
  | .rt fr d=> .ok (.rt fr d)
def wf (t:T0) (g:T3):D->Sl->Res Out:=fun d env=>t d env>>=g
def forO (f:T2) (t:T0) (g:T3):Sl->Res Out:=fun env=>f env>>=fun ds=>forD (wf t g) ds env
def yl {pos:Pos} {body:List Stmt} {fi:T2} {t:T0} {g:T3} (hp:PassesOwn (model X.prog X.w) X.A X.env X.xe) (hc:X.calm=true) (hi:DI X tg e fi) (hg:DG X tg t) (hb:DSs X body g)
   (hs: ∀x,ab1 e X.env x=pure x:=by intro _;rfl):DS X (.For tg e body [] pos) (forO fi t g):=by
 with_unfolding_all exact (
  PS.imp (kr hp hc hi hg hb hs) fun E σ H ⟨G,H0,env,o,k,ef,q⟩=>by
   obtain ⟨ds,e1,e2⟩:=ja ef;refine ⟨G,H0,env,ds,k,e1,fun J H1 P sm wk p0 pst=>?_⟩;have k1:=k.grow sm;have q1:Post X.K G H0 env σ H1 E o:=Wa (Frm.refl sm) q;refine ⟨fun i m σ' H'=>m=ds.length-i/\i<=ds.length/\ ∃env',EnvOk X.K G H0 env' σ' H'/\Frm env σ H1 env' σ' H'/\forD (wf t g) (ds.drop i) env'= .ok o,⟨ds.length,by simp,acF _,env,k1,Frm.refl (Same.refl H1),by simpa using e2⟩,?_⟩;rintro i m σ' H' ⟨rfl,hi,env',k',f',e'⟩;obtain ⟨w1,w2,w3⟩:=wk i H' (pst env' σ' H' f')
   by_cases hd:i<ds.length
   · refine .inr ⟨w1 hd,?_⟩;rw [List.drop_eq_getElem_cons hd] at e';obtain ⟨o1,e3,e4⟩:=ja e';obtain ⟨env1,e5,e6⟩:=ja e3;refine ⟨fun σ2 H2=>ds.length-(i+1)=ds.length-(i+1)/\i+1<=ds.length/\ ∃env2,EnvOk X.K G H0 env2 σ2 H2/\Frm env σ H1 env2 σ2 H2/\forD (wf t g) (ds.drop (i+1)) env2= .ok o,fun σ2 H2 z=>⟨ds.length-(i+1),by omega,z⟩,fun x H2 y=>?_⟩
     obtain ⟨sm2,rd⟩:Same H' H2/\Rep X.K (Sf G env' σ') H2 x ds[i]:=by
      rcases w2 _ (aaD hd) x H2 y with ⟨rfl,rd⟩| ⟨p,vs,es,hp,rfl,rfl,ed,rds⟩
      · exact ⟨Same.refl _,f'.rep k1 rd⟩
      · refine ⟨Same.upd hp,?_⟩;rw [ed];exact .tup jF ((f'.reps k1 rds).grow (Same.upd hp))
     refine ⟨G,H0,env',ds[i],env1,k'.grow sm2,rd,e5,fun σ1 kk1 ff1=>⟨G,H0,env1,o1,kk1,e6,?_⟩⟩;have fr1:=(f'.trans (Frm.refl sm2)).trans ff1
     cases o1 with
     |nx env2=>exact fun σ2 H3 kk2 ff2=>⟨rfl,hd,env2,kk2,fr1.trans ff2,e4⟩
     |ct env2=>exact fun σ2 H3 kk2 ff2=>⟨rfl,hd,env2,kk2,fr1.trans ff2,e4⟩
     |bk env2=>cases e4;exact fun σ2 H3 kk2 ff2=>q1 σ2 H3 kk2 (fr1.trans ff2)
     |rt fr dd=>cases e4;exact q1
   · have he:i=ds.length:=by omega
     refine .inl ⟨w3 (by omega),?_⟩;rw [abZ (by omega)] at e';cases e'
     exact q1 σ' H' k' f')
def qB (n:Nat) (t:T4) (g:T3):Sl->Res Out:=fun env=>match n with
 |0=> .stuck
 |n+1=>t env>>=fun b=>if b=true then g env>>=fun o=>match o with
   | .nx env'=>qB n t g env'
   | .ct env'=>qB n t g env'
   | .bk env'=> .ok (.nx env')
   | .rt fr d=> .ok (.rt fr d)
  else .ok (.nx env)
def WB (n:Nat) {pos:Pos} {c:Expr} {body:List Stmt} {t:T4} {g:T3} (hp:PassesOwn (model X.prog X.w) X.A X.env X.xe) (hc:DT X c t) (hb:DSs X body g):DS X (.While c body [] pos) (qB n t g):=by
 with_unfolding_all exact (
  PS.imp (Z5 hp hc hb) fun E σ H ⟨G,H0,env,o,k,ef,q⟩=>by
   refine ⟨fun m σ' H'=> ∃env',EnvOk X.K G H0 env' σ' H'/\Frm env σ H env' σ' H'/\qB m t g env'= .ok o,⟨n,env,k,Frm.refl (Same.refl H),ef⟩,?_⟩;rintro m σ' H' ⟨env',k',f',e'⟩
   cases m with
   |zero=>cases e'
   |succ m=>
    obtain ⟨b,e1,e2⟩:=ja e';refine ⟨G,H0,env',b,k',e1,fun H1 s1=>?_⟩
    cases b with
    |false=>
     rw [if_neg aaB] at e2 ⊢;cases e2;exact q σ' H1 (k'.grow s1) (f'.trans (Frm.refl s1))
    |true=>
     rw [if_pos rfl] at e2 ⊢;obtain ⟨o1,e3,e4⟩:=ja e2;refine ⟨fun σ2 H2=> ∃env2,EnvOk X.K G H0 env2 σ2 H2/\Frm env σ H env2 σ2 H2/\qB m t g env2= .ok o,fun σ2 H2 z=>⟨m,aca m,z⟩,G,H0,env',o1,k'.grow s1,e3,?_⟩;have fr1:=f'.trans (Frm.refl s1)
     cases o1 with
     |nx env2=>exact fun σ2 H3 kk2 ff2=>⟨env2,kk2,fr1.trans ff2,e4⟩
     |ct env2=>exact fun σ2 H3 kk2 ff2=>⟨env2,kk2,fr1.trans ff2,e4⟩
     |bk env2=>cases e4;exact fun σ2 H3 kk2 ff2=>q σ2 H3 kk2 (fr1.trans ff2)
     |rt fr dd=>cases e4;exact q)
end
def frz (i:Nat) (env:Sl):Sl:=match env[i]? with
 |some (.own d)=>env.set i (.shr d)
 |_=>env
end M
namespace PySem.AutoSeq1
open PySem Builtin
def list_extend_tupleG (l:Addr) (items:Array Value) (n:Nat) (b:Addr) (items2:Array Value) (n2:Nat) (dd:Option Addr) (sl:Array (Option Value)) (hs0: ¬(!items.isEmpty&&abf (items.size+items2.size))=true) (hs1:items.size<=aae) (hs2:items.size+items2.size<=aae+1):
  Meets (Builtin.«list.extend» ⟨[.ref l,.ref b],[]⟩) (fun _ R s=>s.heap.get? l=some {cls:= .type "list",dict:=none,data:= .seq items n,slots:= #[]}/\s.heap.get? b=some {cls:= .type "tuple",dict:=dd,data:= .seq items2 n2,slots:=sl}/\R (.ok (.ret acU)) {s with heap:=s.heap.update l (Obj.mapSeq fun x=>x++items2),toks:=s.toks}):=
 .of_wp fun prog w A R s h=>by
  obtain ⟨hp,g,d,tk,os⟩:=s;obtain ⟨hl,hb,h⟩:=h;have f1:=idx_int;have f2:=sub_tuple_tuple;have f3:=sub_list_list;have f4:=sub_tuple_list;have f5:=sub_list_tuple;
  have hz':(items++items2).size<=aae+1:=by rw [Array.size_append];exact hs2
  wp_walk using (wpAny_updateSeq hl rfl (hz:=hs1) (_hz':=hz')),wpAny_loadPart' hl,wpAny_loadPart' hb;exact ⟨_,rfl,h⟩
end PySem.AutoSeq1
namespace M
open PySem PySem.Spec L2
open PyProof.Rows hiding St
theorem imms_iff: ∀ {ds:List D},D.imms ds=true↔ ∀d∈ds,d.imm=true
 | []=>by simp [D.imms]
 |d::ds=>by simp [D.imms,imms_iff (ds:=ds)]
section
variable {X:Cx}
def KC:V->List V->Hp->VK->Prop:=fun x vs H Q=> ∃l b xs zs,x= .ref l/\vs=[.ref b]/\H l=some (.lst xs)/\H b=some (.tup zs)/\xs.length+zs.length<=aae/\Q .non (upd H l (.lst (xs++zs)))
def W2:MtM X "list.extend" KC:=by
 intro pins s σ H x vs v us Q I rx rv h;obtain ⟨l,b,xs,zs,rfl,rfl,hH,hB,hz,q⟩:=h;cases rx;obtain ⟨u,rfl,ru⟩:=rv.one;cases ru;obtain ⟨z,its,n,r,hl,e⟩:=I.lstM hH;obtain ⟨its2,r2,⟨ob,e2,hc,n2,hd⟩,z2⟩:=I.tuple (.of hB);have hl2:=r2.length;obtain ⟨c2,dd2,dt2,sl2⟩:=ob;have hc':c2= .type "tuple" :=hc;have hd':dt2= .seq its2.toArray n2:=hd;subst hc' hd';have hsz:its.toArray.size+its2.toArray.size<=aae:=by rw [aac,aac];omega
 have hlong: ¬(!its.toArray.isEmpty&&abf (its.toArray.size+its2.toArray.size))=true:=by
  rw [Wg hsz,Bool.and_false];exact aaB
 refine call_meets acf ⟨_,e,rfl⟩ F.entry_list_extend (F.args_list_extend_2 _ _)
  (AutoSeq1.list_extend_tupleG l its.toArray n b its2.toArray n2 dd2 sl2 hlong (by rw [aac];omega) (by omega)) ⟨e,e2,?_⟩
 refine ⟨.non,_,I.lset (its':=its++its2) hH e (by simp) (r.append r2) ?_,rfl,q⟩;rw [aad];omega
def zJ {env:Sl} {σ:L2.St} {i:Nat} {d d':D} {a:Addr} (hi:env[i]?=some (.own d)):qR (env.set i (.own d')) σ a↔qR env σ a:=by
 have hl:i<env.length:=(aaq.mp hi).1
 constructor
 · rintro ⟨j,e,h1,h2⟩
   by_cases z:i=j
   · subst z;exact ⟨i,d,hi,h2⟩
   · rw [jm z] at h1;exact ⟨j,e,h1,h2⟩
 · rintro ⟨j,e,h1,h2⟩
   by_cases z:i=j
   · subst z;exact ⟨i,d',aa9 hl,h2⟩
   · exact ⟨j,e,by rw [jm z];exact h1,h2⟩
def EnvOk.write {K:aaa} {G:Zi} {H0 H:Hp} {env:Sl} {σ:L2.St} {i:Nat} {ds ds':List D} {a:Addr} {xs xs':List V} (k:EnvOk K G H0 env σ H) (hi:env[i]?=some (.own (.lst ds))) (ha:σ[i]?=some (some (.ref a))) (hx:H a=some (.lst xs))
   (r:Reps K (Sf G env σ) H xs' ds'):EnvOk K G H0 (env.set i (.own (.lst ds'))) σ (upd H a (.lst xs'))/\Frm env σ H (env.set i (.own (.lst ds'))) σ (upd H a (.lst xs')):=by
 have hl:i<env.length:=(aaq.mp hi).1;have ow:qR env σ a:=⟨i,_,hi,ha⟩
 have st:Stay (Sf G env σ) H (upd H a (.lst xs')):=fun c o e m=>by
   rw [jK ?_]
   · exact e
   · rintro rfl;rw [hx] at e;cases e;exact (m trivial).1 ow
 have w: ∀c,Sf G env σ c->Sf G (env.set i (.own (.lst ds'))) σ c:=fun c n=>⟨fun o=>n.1 ((zJ hi).mp o),n.2⟩
 refine ⟨⟨by simp [k.len],fun c o e=>?_,k.g0,fun j d' h=>?_,fun j d' h=>?_,fun j j' d1 d2 b q1 q2 q3 q4=>?_⟩,⟨fun c o e n=>?_,fun c o=> .inl ((zJ hi).mp o),fun c e=>?_⟩⟩
 · have hc:c≠a:=by
     rintro rfl;obtain ⟨b,h1,h0,_⟩:=k.own i _ hi;rw [ha] at h1;cases h1;rw [h0] at e;cases e
   rw [jK hc];exact k.base c o e
 · by_cases z:i=j
   · subst z;obtain ⟨q,_⟩:=ju h;cases q
   · rw [jm z] at h;obtain ⟨v,h1,h2⟩:=k.shr j d' h;exact ⟨v,h1,h2.stay st w⟩
 · by_cases z:i=j
   · subst z;obtain ⟨q,_⟩:=ju h;cases q;obtain ⟨b,h1,h0,_⟩:=k.own i _ hi;rw [ha] at h1;cases h1;exact ⟨a,ha,h0,.lst jF (r.stay st w)⟩
   · rw [jm z] at h;obtain ⟨b,h1,h0,h2⟩:=k.own j d' h
     have hb:b≠a:=by
       rintro rfl;exact z (k.dis i j _ _ b hi h ha h1)
     exact ⟨b,h1,h0,h2.stay st w fun o e=>by rw [jK hb];exact e⟩
 · have real: ∀(j:Nat) (d1:D),(env.set i (.own (.lst ds')))[j]?=some (.own d1)-> ∃d0:D,env[j]?=some (.own d0):=fun j d1 q=>by
     by_cases z:i=j
     · subst z;exact ⟨_,hi⟩
     · rw [jm z] at q;exact ⟨_,q⟩
   obtain ⟨e1,z1⟩:=real j d1 q1;obtain ⟨e2,z2⟩:=real j' d2 q2;exact k.dis j j' e1 e2 b z1 z2 q3 q4
 · have hc:c≠a:=by
     rintro rfl;exact n ow
   rw [jK hc];exact e
 · by_cases hc:c=a
   · subst hc;rw [jF] at e;cases e
   · rw [jK hc] at e;exact e
def zn {K:aaa} {G:Zi} {H0 H:Hp} {env:Sl} {σ:L2.St} {i:Nat} {ds:List D} (k:EnvOk K G H0 env σ H) (hi:env[i]?=some (.own (.lst ds))): ∃a xs,σ[i]?=some (some (.ref a))/\H a=some (.lst xs)/\Reps K (Sf G env σ) H xs ds:=by
 obtain ⟨a,h1,h0,h2⟩:=k.own i _ hi
 cases h2 with
 |lst e r=>exact ⟨a,_,h1,e,r⟩
variable {e:Expr} {f:T5} {l:Lv} {pos cpos apos p:Pos} {x:Str}
def ownL (i:Nat) (env:Sl):Res (List D):=match env[i]? with
 |some (.own (.lst ds))=> .ok ds
 |_=> .stuck
def za {i:Nat} {env:Sl} {ds:List D} (h:ownL i env= .ok ds):env[i]?=some (.own (.lst ds)):=by
 unfold ownL at h
 split at h
 · cases h;assumption
 · cases h
def jD (i:Nat) (f:T5):Sl->Res Out:=fun env=>ownL i env>>=fun ds=>f env>>=fun d=>must (ds.length<aae) (.ok (.nx (env.set i (.own (.lst (ds++[d]))))))
def qF (i:Nat) (he:DE X .s e f) (hN:X.N[i]?=some x:=by rfl) (hv:Vis X.env.scope x:=by first|exact abg rfl|exact aaR (abg rfl)|exact aaR (aaR rfl))
   (hd:Z2 x:=by decide) (hcd:Zk x:=by decide)
   (hbase:aaY (.Name x p) "append" X.env (eval (.Name x p) X.env)=eval (.Name x p) X.env:=by rfl)
   (hfew:((aa7 cpos (aag [e] X.env)).all (fun x=>!x.1)&&(abK cpos (abh [] X.env)).all (fun x=>x.1.isSome)
    &&decide ([e].length+([]:List abO).length+(if ([]:List abO).isEmpty then 0 else 1)<30))=true:=by exact xL rfl rfl)
   (hline:(apos.endLine==cpos.line)=true:=by rfl) (hs:aag [e] X.env=(false,eval e X.env)::aag [] X.env:=by exact jq rfl) (hplain:(aa7 cpos (aag [] X.env)).any (·.1)=false:=by exact jS rfl)
   (hsw:abB (.Call (.Attribute (.Name x p) "append" apos) [e] [] cpos) none pos.line X.env=pure false:=by rfl):
   DS X (.Expr (.Call (.Attribute (.Name x p) "append" apos) [e] [] cpos) pos) (jD i f):=by
 with_unfolding_all exact (
  PS.imp (JU (KM abj abY PySem.F.type_list_append yM (zI (i:=i) hN hv hd hcd) (wB he yD hs) hbase hfew hline hs hplain) hsw) fun E σ H ⟨G,H0,env,o,k,ef,q⟩=>by
   obtain ⟨ds,e1,e2⟩:=ja ef;obtain ⟨d,e3,e4⟩:=ja e2;obtain ⟨hz,e5⟩:=jn e4;cases e5;have hi:=za e1;obtain ⟨a,xs,ha,hx,rs⟩:=zn k hi;refine ⟨.ref a,ha,.inl ⟨rfl,xs,.of hx⟩,G,H0,env,d,k,e3,fun v H1 s1 r1 _=>?_⟩;have hx1:=s1 _ _ hx;refine ⟨a,xs,v,rfl,rfl,hx1,by rw [rs.length];exact hz,?_⟩;have W:=(k.grow s1).write hi ha hx1 (xs':=xs++[v]) (ds':=ds++[d]) ((rs.grow s1).append (.cons r1 .nil))
   exact q σ _ W.1 (W.2.grow s1))
def y0 (i:Nat) (f:T5):Sl->Res Out:=fun env=>ownL i env>>=fun ds=>f env>>=fun d=>match d with
 | .lst es=>must (ds.length+es.length<=aae) (.ok (.nx (env.set i (.own (.lst (ds++es))))))
 | .tup es=>must (ds.length+es.length<=aae) (.ok (.nx (env.set i (.own (.lst (ds++es))))))
 |_=> .stuck
def Y0 (i:Nat) (he:DE X .s e f) (hN:X.N[i]?=some x:=by rfl) (hv:Vis X.env.scope x:=by first|exact abg rfl|exact aaR (abg rfl)|exact aaR (aaR rfl))
   (hd:Z2 x:=by decide) (hcd:Zk x:=by decide)
   (hbase:aaY (.Name x p) "extend" X.env (eval (.Name x p) X.env)=eval (.Name x p) X.env:=by rfl)
   (hfew:((aa7 cpos (aag [e] X.env)).all (fun x=>!x.1)&&(abK cpos (abh [] X.env)).all (fun x=>x.1.isSome)
    &&decide ([e].length+([]:List abO).length+(if ([]:List abO).isEmpty then 0 else 1)<30))=true:=by exact xL rfl rfl)
   (hline:(apos.endLine==cpos.line)=true:=by rfl) (hs:aag [e] X.env=(false,eval e X.env)::aag [] X.env:=by exact jq rfl) (hplain:(aa7 cpos (aag [] X.env)).any (·.1)=false:=by exact jS rfl)
   (hsw:abB (.Call (.Attribute (.Name x p) "extend" apos) [e] [] cpos) none pos.line X.env=pure false:=by rfl):
   DS X (.Expr (.Call (.Attribute (.Name x p) "extend" apos) [e] [] cpos) pos) (y0 i f):=by
 with_unfolding_all exact (
  PS.imp (JU (KM abj acf PySem.F.type_list_extend (MtR.or Ys W2) (zI (i:=i) hN hv hd hcd) (wB he yD hs) hbase hfew hline hs hplain) hsw) fun E σ H ⟨G,H0,env,o,k,ef,q⟩=>by
   obtain ⟨ds,e1,e2⟩:=ja ef;obtain ⟨d,e3,e4⟩:=ja e2;have hi:=za e1;obtain ⟨a,xs,ha,hx,rs⟩:=zn k hi;refine ⟨.ref a,ha,.inl ⟨rfl,xs,.of hx⟩,G,H0,env,d,k,e3,fun v H1 s1 r1 _=>?_⟩;have hx1:=s1 _ _ hx
   cases d with
   |lst es=>
    obtain ⟨hz,e5⟩:=jn e4;cases e5;obtain ⟨b,ys,rfl,hb,_,ry⟩:=r1.lstE;have ry':=ry.low;refine .inl ⟨a,b,xs,ys,rfl,rfl,hx1,hb,by rw [rs.length,ry.length];exact hz,?_⟩;have W:=(k.grow s1).write hi ha hx1 (xs':=xs++ys) (ds':=ds++es) ((rs.grow s1).append ry');exact q σ _ W.1 (W.2.grow s1)
   |tup es=>
    obtain ⟨hz,e5⟩:=jn e4;cases e5;obtain ⟨b,ys,rfl,hb,ry⟩:=r1.tupE;have ry':=ry;refine .inr ⟨a,b,xs,ys,rfl,rfl,hx1,hb,by rw [rs.length,ry.length];exact hz,?_⟩;have W:=(k.grow s1).write hi ha hx1 (xs':=xs++ys) (ds':=ds++es) ((rs.grow s1).append ry');exact q σ _ W.1 (W.2.grow s1)
   |_=>cases e4)
def popO (i:Nat) (t:T0):Sl->Res Out:=fun env=>ownL i env>>=fun ds=>match ds.getLast? with
 |some d=>t d (env.set i (.own (.lst ds.dropLast)))>>=fun env'=> .ok (.nx env')
 |none=> .stuck
def vn (i:Nat) {tg:Expr} {t:T0} (hg:DG X tg t) (hN:X.N[i]?=some x:=by rfl) (hv:Vis X.env.scope x:=by first|exact abg rfl|exact aaR (abg rfl)|exact aaR (aaR rfl))
   (hd:Z2 x:=by decide) (hcd:Zk x:=by decide)
   (hbase:aaY (.Name x p) "pop" X.env (eval (.Name x p) X.env)=eval (.Name x p) X.env:=by rfl) (hline:(apos.endLine==cpos.line)=true:=by rfl)
   (hs:swapsWithSole [tg] (.Call (.Attribute (.Name x p) "pop" apos) [] [] cpos) pos.line X.env=pure false:=by rfl) (hw:swappedStores [tg] (.Call (.Attribute (.Name x p) "pop" apos) [] [] cpos) X.env=pure none:=by rfl)
   (h1:(abl [tg] X.env).map (·.2)=[assign tg X.env]:=by rfl):DS X (.Assign [tg] (.Call (.Attribute (.Name x p) "pop" apos) [] [] cpos) pos) (popO i t):=by
 with_unfolding_all exact (
  PS.imp (Vu (Vy abj acn PySem.F.type_list_pop VD (zI (i:=i) hN hv hd hcd) hbase hline) hg hs hw h1) fun E σ H ⟨G,H0,env,o,k,ef,q⟩=>by
   obtain ⟨ds,e1,e2⟩:=ja ef;have hi:=za e1;obtain ⟨a,xs,ha,hx,rs⟩:=zn k hi
   cases hl:ds.getLast? with
   |none=>rw [hl] at e2;cases e2
   |some d=>
    rw [hl] at e2;obtain ⟨env',e3,e4⟩:=ja e2;cases e4;rw [List.getLast?_eq_getElem?] at hl;obtain ⟨v,hv',rv⟩:=rs.get hl;have W:=k.write hi ha hx (xs':=xs.dropLast) (ds':=ds.dropLast) rs.dropLast;refine ⟨.ref a,ha,.inl ⟨rfl,xs,.of hx⟩,a,xs,v,rfl,rfl,hx,by rw [rs.length];exact hv',G,H0,_,d,env',W.1,?_,e3,fun σ' k' f'=>q σ' _ k' (W.2.trans f')⟩
    exact W.2.rep k rv)
end
def QX {prog:aaE} {w:World} {A:aa5} {R:Result->aaf->Prop} {s:aaf} {elt target iter:Expr} {ifs:List Expr} {scope:Scope} {pos:Pos} {it acc:Value} {env:Env} (I:Nat->aaf->Prop)
  (turn: ∀n s,I n s->wpAny (model prog w) A (pyNext it) (fun r s₁=>match r with
   |none=>R (.ok .next) s₁
   |some v=>wpAny (model prog w) A (ack target it v) (fun _ s₁'=>wpAny (model prog w) A (assign target env v) (fun _ s₂=>
    wpAny (model prog w) A (forIn ifs true fun c r=>if r=true then do let ok←isTrue c env (eval c env);pure (aco ok) else pure (aco r)) (fun ok s₃=>
     if ok=true then wpAny (model prog w) A (eval elt env) (fun x s₄=>
      wpAny (model prog w) A (call (.builtin "list.append") [acc,x]) (fun _ s₅=> ∃m,m<n/\I m s₅) (fun _ _=>False) s₄) (fun _ _=>False) s₃
     else∃m,m<n/\I m s₃) (fun _ _=>False) s₂) (fun _ _=>False) s₁') (fun _ _=>False) s₁) (fun _ _=>False) s)
  (n:Nat) (h:I n s):codeAny (model prog w) A (.compLoop (.ListComp elt [⟨target,iter,ifs,0⟩] scope pos) 0 it acc env) R s:=by
 refine codeAny_loop rfl I (fun n s hI=>?_) n h;show wpAny _ A ((compTurn (.ListComp elt [⟨target,iter,ifs,0⟩] scope pos) 0 it acc env).onRaise (fun x=>do noteFrame x env;theTreesLotGoes x)) _ _ s;refine wpAny_noted ?_;rw [compTurn_list];refine aap (wpAny_standAt (aap (abP (turn n s hI) (fun r s₁ h₁=>?_) fun _ _ h'=>h'.elim)))
 cases r with
 |none=>exact aax h₁
 |some v=>
  refine aap (abP h₁ (fun _ s₁' h₁'=>?_) fun _ _ h'=>h'.elim);refine aap (abP h₁' (fun _ s₂ h₂=>aap (abP h₂ (fun ok s₃ h₃=>?_) fun _ _ h'=>h'.elim)) fun _ _ h'=>h'.elim)
  cases ok with
  |false=>exact aax ⟨rfl,h₃⟩
  |true=>
   exact aap (aap (abP h₃ (fun x s₄ h₄=>aap (abP h₄ (fun _ s₅ h₅=>aax (aax ⟨rfl,h₅⟩)) fun _ _ h'=>h'.elim)) fun _ _ h'=>h'.elim))
def qJ (X:Cx) (N:List Str) (scope:Scope) (cl:List (Str×Addr)) (C:Addr) (s:aaf) (H:Hp) (fp:List Addr):Cx where
 prog:=X.prog
 w:=X.w
 K:=X.K
 mg:=X.mg
 base:=X.base
 A:=X.A
 N:=N
 s₀:=s
 H₀:=H
 env:=compEnvC scope cl C X.env
 outer:=X.stack
 stack:=X.stack
 ex:=fp
 fn:=fun _=>false
 calm:=true
 pn:=[]
 xe:=fun _ _=>False
@[irreducible] def DTs (X:Cx) (ifs:List Expr) (c:T4):Prop:=
 ∀(pins:List (Addr×Obj)) (s:aaf) (σ:L2.St) (H:Hp) (Q:Bool->Hp->Prop),Inv X pins σ H s->tT X.K c σ H Q->
  wpAny (model X.prog X.w) X.A (forIn ifs true fun c r=>if r=true then do let ok←isTrue c X.env (eval c X.env);pure (aco ok) else pure (aco r)) (TP X pins σ Q) X.xe s
def wn:Sl->Res Bool:=fun _=> .ok true
def ZL {X:Cx}:DTs X [] wn:=by
 with_unfolding_all exact (fun pins s σ H Q I ⟨G,H0,env,b,k,ef,q⟩=>by
  cases ef
  exact wpAny_tests_nil ⟨H,I,q H (Same.refl H)⟩)
def wT (n:Nat) (t:T0) (c:T4) (fe:T5):List D->Sl->Res Sl
 | [],env=> .ok env
 |d::ds,env=>t d env>>=fun env1=>c env1>>=fun b=>if b=true
  then fe env1>>=fun v=>ownL n env1>>=fun acc=>must (acc.length<aae) (wT n t c fe ds (env1.set n (.own (.lst (acc++[v])))))
  else wT n t c fe ds env1
def capS (im:Bool) (env:Sl) (j:Nat):Slot:=match env[j]? with
 |some (.shr d)=> .shr d
 |some (.own d)=>if im=true then .shr d else .un
 |_=> .un
def wS (im:Bool) (m:Nat) (js:List Nat) (env:Sl):Sl:=ab7 m .un++js.map (capS im env)++[.own (.lst [])]
def Je (im:Bool) (m:Nat) (js:List Nat) (fi:T2) (t:T0) (c:T4) (fe:T5):Sl->Res D:=fun env=>
 fi env>>=fun ds=>wT (m+js.length) t c fe ds (wS im m js env)>>=fun env'=>ownL (m+js.length) env'>>=fun acc=>must (im=true->D.imms acc=true) (.ok (.lst acc))
def zO (m:Nat) (js:List Nat) (σ:L2.St) (a:Addr):L2.St:=ab7 m none++js.map (fun j=>(σ[j]?).join)++[some (.ref a)]
theorem qL {env:Env}: ∀ {names:List (Str×NameKind)} {x:Str} {k:NameKind},
  (names.map fun (n,k)=>if (k==abH&&env.scope.kind== .function&&env.kindOf n==some .cell) then (n,abU) else (n,k)).lookup x=some k-> ∃k',(x,k')∈names/\(k=k'\/k'= .free)
 | [],_,_,h=>by simp at h
 | (n,k')::r,x,k,h=>by
  have h':abz x ((if (k'==abH&&env.scope.kind== .function&&env.kindOf n==some .cell)=true then (n,abU) else (n,k'))::(r.map fun (n,k)=>if (k==abH&&env.scope.kind== .function&&env.kindOf n==some .cell) then (n,abU) else (n,k)))=some k:=h
  by_cases hc:(k'==abH&&env.scope.kind== .function&&env.kindOf n==some .cell)=true
  · rw [if_pos hc] at h';simp only [abi] at h'
    cases hx:x==n with
    |true=>
     rw [hx] at h';have e:x=n:=by simpa using hx
     subst e;refine ⟨k',aaV,.inr ?_⟩;simp only [aal,beq_iff_eq] at hc;exact hc.1.1
    |false=>
     rw [hx] at h';obtain ⟨k2,h1,h2⟩:=qL h';exact ⟨k2,aaI _ h1,h2⟩
  · rw [if_neg hc] at h';simp only [abi] at h'
    cases hx:x==n with
    |true=>
     rw [hx] at h';have e:x=n:=by simpa using hx
     subst e;cases h';exact ⟨_,aaV,.inl rfl⟩
    |false=>
     rw [hx] at h';obtain ⟨k2,h1,h2⟩:=qL h';exact ⟨k2,aaI _ h1,h2⟩
structure CompSc (X:Cx) (scope:Scope) (cl:List (Str×Addr)) (N:List Str) (m:Nat) (js:List Nat):Prop where
 clos:closureFor scope X.env=pure cl
 kind:scope.kind= .function
 names: ∀x∈scope.names,x.2= .local->scope.names.lookup x.1=some .local
 nocell: ∀y∈scope.names,y.2≠ .cell
 cls: ∀x c,cl.lookup x=some c->X.env.cells.lookup x=some c
 free: ∀y∈scope.names,y.2= .free-> ∃c,cl.lookup y.1=some c
 nd:N.Nodup
 len:N.length=m+js.length+1
 cap: ∀(k j:Nat),js[k]?=some j-> ∃y,N[m+k]?=some y/\X.N[j]?=some y/\(X.env.scope.names.lookup y=some .cell\/X.env.scope.names.lookup y=some .free)/\scope.names.lookup y=some .free
 last: ∀y,N[m+js.length]?=some y-> ∀p∈scope.names,p.1≠y
section
variable {X:Cx} {tg iter elt:Expr} {ifs:List Expr} {scope:Scope} {cl:List (Str×Addr)} {N:List Str} {m:Nat} {js:List Nat} {pos:Pos} {im:Bool}
 {fi:T2} {t:T0} {c:T4} {fe:T5}
def UV {pins:List (Addr×Obj)} {σ:L2.St} {H:Hp} {s:aaf} {C:Addr} {fp:List Addr} (S:CompSc X scope cl N m js) (hc:X.calm=true) (I:Inv X pins σ H s) (hC:s.heap.objs.size<=C) (hf: ∀b∈fp,FpOk X pins H b) (hfp: ∀b∈fp,b<s.heap.objs.size):
  (qJ X N scope cl C s H fp).Ok where
 mod:=I.ok.mod
 kind:=S.kind
 glob:=I.ok.glob
 blt:=I.ok.blt
 above:=hC
 inj:=fun x y c h1 h2=>I.ok.inj x y c (S.cls x c h1) (S.cls y c h2)
 has:=fun x h=>by
  have mem: ∃k',(x,k')∈scope.names/\k'= .free:=by
    rcases h with h|h
    · obtain ⟨k',h1,h2⟩:=qL (env:=X.env) (names:=scope.names) h;rcases h2 with z|z
      · exact absurd z.symm (S.nocell _ h1)
      · exact ⟨k',h1,z⟩
    · obtain ⟨k',h1,h2⟩:=qL (env:=X.env) (names:=scope.names) h;rcases h2 with z|z
      · exact ⟨k',h1,z.symm⟩
      · exact ⟨k',h1,z⟩
  obtain ⟨k',h1,h2⟩:=mem;exact S.free _ h1 h2
 cab:=fun x c h=>by cases h
 hd:=fun _=>I.ok.hd hc
 frames:=I.ok.frames
 stk:= .inl rfl
 exf:=fun b hb=>⟨fun z=>absurd (aas (hfp b hb) (by rw [z];exact hC)) (aby _),fun x c h=>(hf b hb).2.2.2.2.1 x c (S.cls x c h)⟩
 bs:=I.bs
 bsz:=aau I.ok.bsz I.sz
 noex:=fun b o e hb=>by
  rcases (hf b hb).2.2.2.1 with z|z
  · exact I.ok.noex b o e z
  · exact absurd (aas (aat e) (aau I.ok.bsz z)) (aby _)
 exfs:=fun b hb z=>by
  rcases aaw.mp (I.stkSub b z) with q|q
  · exact (hf b hb).2.1 q
  · exact (hf b hb).2.2.1 q
 funs:=I.stack
 frf:=I.stkFree
def Ke {env:Sl} {j:Nat} {d:D} (h:capS im env j= .own d):False:=by
 unfold capS at h
 split at h
 · cases h
 · split at h<;>cases h
 · cases h
def Xh {env:Sl} {σ:L2.St} {a b:Addr} (h:qR (wS im m js env) (zO m js σ a) b):b=a:=by
 obtain ⟨i,d,h,h2⟩:=h
 have hi:i=m+js.length:=by
  unfold wS at h
  by_cases h1:i<m
  · rw [aaz,aar (by simpa using h1),aaM] at h
    split at h<;>cases h
  · rw [aaz,aaj (by simpa using h1)] at h;simp only [abe] at h
    by_cases h2:i-m<js.length
    · rw [aar (by simpa using h2),aaJ] at h
      cases e:js[i-m]? with
      |none=>rw [e] at h;cases h
      |some j=>
        rw [e] at h;have h':capS im env j= .own d:=aaG h;exact (Ke h').elim
    · rw [aaj (by simpa using h2)] at h;simp only [aaC] at h
      by_cases h3:i-m-js.length=0
      · omega
      · rw [abE (by simp;omega)] at h;cases h
 subst hi
 have at_n:(zO m js σ a)[m+js.length]?=some (some (.ref a)):=by
  unfold zO;rw [aaz,aaj (by simp),aaj (by simp)];simp
 rw [at_n] at h2;cases h2;rfl
abbrev Gc (im:Bool) (G:Zi) (env:Sl) (σ:L2.St):Addr->Prop:=fun c=>G c/\(im=false-> ¬qR env σ c)
def Ve {K:aaa} {G:Zi} {H0 H:Hp} {env:Sl} {σ:L2.St} {a:Addr} (k:EnvOk K G H0 env σ H) (ha:H a=none):
   EnvOk K (Gc im G env σ) H (wS im m js env) (zO m js σ a) (upd H a (.lst [])):=by
 have own1: ∀(i:Nat) (d:D),(wS im m js env)[i]?=some (.own d)->i=m+js.length/\d= .lst []:=fun i d h=>by
   unfold wS at h
   by_cases h1:i<m
   · rw [aaz,aar (by simpa using h1),aaM] at h
     split at h<;>cases h
   · rw [aaz,aaj (by simpa using h1)] at h;simp only [abe] at h
     by_cases h2:i-m<js.length
     · rw [aar (by simpa using h2),aaJ] at h
       cases e:js[i-m]? with
       |none=>rw [e] at h;cases h
       |some j=>
         rw [e] at h;have h':capS im env j= .own d:=aaG h;exact (Ke h').elim
     · rw [aaj (by simpa using h2)] at h;simp only [aaC] at h
       by_cases h3:i-m-js.length=0
       · rw [h3] at h;cases h;exact ⟨by omega,rfl⟩
       · rw [abE (by simp;omega)] at h;cases h
 have at_n:(zO m js σ a)[m+js.length]?=some (some (.ref a)):=by
   unfold zO;rw [aaz,aaj (by simp),aaj (by simp)];simp
 have owned: ∀b,qR (wS im m js env) (zO m js σ a) b->b=a:=fun b ⟨i,d,h1,h2⟩=>by
   obtain ⟨rfl,rfl⟩:=own1 i d h1;rw [at_n] at h2;cases h2;rfl
 have sm:Same H (upd H a (.lst [])):=Same.upd ha;refine ⟨by simp [wS,zO],sm,fun c z=>⟨(k.new c z).2,fun _=>(k.new c z).1⟩,fun i d h=>?_,fun i d h=>?_,fun i j d e b h1 h2 h3 h4=>(own1 i d h1).1.trans (own1 j e h2).1.symm⟩
 · unfold wS at h
   by_cases h1:i<m
   · rw [aaz,aar (by simpa using h1),aaM] at h
     split at h<;>cases h
   · rw [aaz,aaj (by simpa using h1)] at h;simp only [abe] at h
     by_cases h2:i-m<js.length
     · rw [aar (by simpa using h2),aaJ] at h
       cases e:js[i-m]? with
       |none=>rw [e] at h;cases h
       |some j=>
         rw [e] at h;have h':capS im env j= .shr d:=aaG h
         have hσ:(zO m js σ a)[i]?=some ((σ[j]?).join):=by
           unfold zO;rw [aaz,aaj (by simpa using h1)];simp only [abe];rw [aar (by simpa using h2),aaJ,e];rfl
         have fin: ∀v,σ[j]?=some (some v)->Rep K (Gc im G env σ) H v d-> ∃v,(zO m js σ a)[i]?=some (some v)/\Rep K (Sf (Gc im G env σ) (wS im m js env) (zO m js σ a)) (upd H a (.lst [])) v d:=fun v e1 r=>by
           refine ⟨v,by rw [hσ,e1];rfl,(r.inDom.grow sm).weak fun b z=>⟨fun o=>?_,z.1⟩⟩;rw [owned b o] at z;exact z.2 ha
         unfold capS at h'
         split at h'
         · rename_i d' hd;cases h';obtain ⟨v,h3,h4⟩:=k.shr j d hd;exact fin v h3 (h4.weak fun c z=>⟨z.2,fun _=>z.1⟩)
         · rename_i d' hd
           split at h'
           · rename_i hi';cases h';obtain ⟨v,h3,h0,h4⟩:=k.own j d hd;exact fin _ h3 (h4.rep (fun c z=>⟨⟨z.2,fun _=>z.1⟩,Z9 k hd h3 c z⟩) ⟨k.g0 _ h0,fun z=>by rw [hi'] at z;cases z⟩)
           · cases h'
         · cases h'
     · rw [aaj (by simpa using h2)] at h;simp only [aaC] at h
       by_cases h3:i-m-js.length=0
       · rw [h3] at h;cases h
       · rw [abE (by simp;omega)] at h;cases h
 · obtain ⟨rfl,rfl⟩:=own1 i d h;exact ⟨a,at_n,ha,.lst jF .nil⟩
def Kc (use:Option (Value->Sem Unit)) (Q':XU) (im:Bool) (N:List Str) (m:Nat) (js:List Nat) (S:CompSc X scope cl N m js) (hc:X.calm=true) (hi:PI X tg iter (tI X.K fi))
   (hb: ∀(C:Addr) (s:aaf) (H:Hp) (fp:List Addr),PG (qJ X N scope cl C s H fp) tg (tG X.K t)/\DTs (qJ X N scope cl C s H fp) ifs c/\PE (qJ X N scope cl C s H fp) elt (tE X.K .s fe))
   (hs: ∀x,ab1 iter X.env x=pure x) {pins:List (Addr×Obj)} {s:aaf} {σ:L2.St} {H:Hp} {G:Zi} {H0:Hp} {env:Sl} {d:D} (I:Inv X pins σ H s) (k:EnvOk X.K G H0 env σ H) (ef:Je im m js fi t c fe env= .ok d)
   (hend: ∀(a C:Addr) (s':aaf) (H':Hp) (mm:Zj) (r:Flow),s'.heap.Ns C mm->(∀h',acN C s'.heap h'->Inv X pins σ H' {s' with heap:=h'})->FpOk X pins H' C->Same H H'->Rep X.K (Sf G env σ) H' (.ref a) d->NewTop H (.ref a)->compPost (model X.prog X.w) X.A X.xe use Q' (.ref a) C (.ok r) s'):
   wpAny (model X.prog X.w) X.A (comprehension (.ListComp elt [⟨tg,iter,ifs,0⟩] scope pos) scope X.env (firstIterPos [⟨tg,iter,ifs,0⟩] pos) (newList []) (firstAsync [⟨tg,iter,ifs,0⟩]) (firstIter [⟨tg,iter,ifs,0⟩] X.env) use) Q' X.xe s:=by
 with_unfolding_all exact (by
  obtain ⟨ds,e1,ef⟩:=ja ef;obtain ⟨envF,e2,ef⟩:=ja ef;obtain ⟨accF,e3,e4⟩:=ja ef;obtain ⟨himF,e4⟩:=jn e4;cases e4;refine wpAny_comprehension_free (use:=use) rfl hs S.clos S.kind S.names ?_;refine thn (hi pins s σ H (fun J H1=> ∃P,Same H H1/\U4 X.K (Sf G env σ) H1 J ds P/\P H1/\ ∀env' σ' H',Frm env σ H1 env' σ' H'->P H') I ⟨G,H0,env,ds,k,e1,fun J H1 P a b c' d'=>⟨P,a,b,c',d'⟩⟩) fun v s1 h1=>thn h1 fun itv s2 h2=>?_
  obtain ⟨it,fp,tn,J,H2,rfl,I2,T,st2,f2,P,sm,wk,p0,pst⟩:=h2;have k2:=k.grow sm;refine abG (wpAny_newFunctionEnv S.nocell (by intro y hy;simp at hy) (fun h₁ hns₁ hsb₁=>?_) S.kind);dsimp only at hns₁ hsb₁ ⊢;have hfr:H2 s2.heap.objs.size=none:=I2.hok.fresh (aan _)
  let a:=s2.heap.objs.size
  have ha:H2 a=none:=hfr;have I3:Inv X pins σ (upd H2 a (.lst [])) {s2 with heap:=s2.heap.push {cls:= .type "list",dict:=none,data:= .seq ([]:List Value).toArray}}:=I2.lnew (t':=s2.toks) (its:=[]) .nil (acF _)
  let s3:aaf:={s2 with heap:=s2.heap.push {cls:= .type "list",dict:=none,data:= .seq ([]:List Value).toArray}}
  let C:=s3.heap.objs.size
  have f3: ∀b∈fp,FpOk X pins (upd H2 a (.lst [])) b:=fun b hb'=>by
   obtain ⟨z0,z⟩:=f2 b hb';refine ⟨?_,z⟩
   have hb2:b≠a:=by
     obtain ⟨o,ho,_⟩:=T.obj 0 _ st2 b hb';exact aaU (aat ho)
   rw [jK hb2];exact z0
  have hfp: ∀b∈fp,b<s3.heap.objs.size:=fun b hb'=>by
   obtain ⟨o,ho,_⟩:=T.obj 0 _ st2 b hb';refine aas (aat ho) ?_;show s2.heap.objs.size<=(s2.heap.push {cls:= .type "list",dict:=none,data:= .seq ([]:List Value).toArray}).objs.size;rw [Heap.size_push];exact Nat.le_succ _
  have XO:=UV (C:=C) S hc I3 (aan _) f3 hfp;obtain ⟨DGt,DTc,DEe⟩:=hb C s3 (upd H2 a (.lst [])) fp;have old: ∀b o,s3.heap.get? b=some o->h₁.get? b=some o:=fun b o e=>hsb₁.extBut b o (aaU (aat e)) (aah _ e)
  have I4:Inv (qJ X N scope cl C s3 (upd H2 a (.lst [])) fp) [] (zO m js σ a) (upd H2 a (.lst [])) {s2 with heap:=h₁,toks:=s2.toks+([]:List (Str×Value)).length}:=by
   refine ⟨XO,rfl,I3.bare,Un.kept old,⟨_,hns₁,fun i y v' h1 h2 h3=>?_⟩,fun y c' h=>?_,I3.hok.fresh (aan _),fun y c' h=>I3.freeC y c' (S.cls y c' h),fun p hp=>absurd hp (by simp [qJ]),I3.hok.kept old,?_⟩
   · --a captured name
     have hN1:N[i]?=some y:=h1;unfold zO at h2
     by_cases q1:i<m
     · rw [aaz,aar (by simpa using q1),aaM] at h2
       split at h2<;>cases h2
     · rw [aaz,aaj (by simpa using q1)] at h2;simp only [abe] at h2
       by_cases q2:i-m<js.length
       · rw [aar (by simpa using q2),aaJ] at h2
         cases e:js[i-m]? with
         |none=>rw [e] at h2;cases h2
         |some j=>
           rw [e] at h2;have h2':(σ[j]?).join=some v':=aaG h2
           have hj:σ[j]?=some (some v'):=by
             cases z:σ[j]? with
             |none=>rw [z] at h2';cases h2'
             |some w'=>rw [z] at h2';simp at h2';rw [h2']
           obtain ⟨y',g1,g2,g3,g4⟩:=S.cap (i-m) j e
           have ey:y'=y:=by
             rw [show m+(i-m)=i by omega,hN1] at g1;exact (aaG g1).symm
           subst ey;obtain ⟨mm,hn,hl⟩:=I3.loc
           have vis:Vis X.env.scope y':=by
             rcases g3 with z|z
             · exact .inr (.inl z)
             · exact .inr (.inr z)
           obtain ⟨u,ru,lk⟩:=hl j y' v' g2 hj vis;refine ⟨u,ru,.inr ⟨?_,?_⟩⟩
           · rcases h3 with z|z
             · exfalso;obtain ⟨k',m1,m2⟩:=qL (env:=X.env) (names:=scope.names) z;have lk2:=S.names _ m1;rcases m2 with w'|w'
               · subst w';have:=lk2 rfl;rw [g4] at this;cases this
               · subst w'
                 have: ∀ {names:List (Str×NameKind)},names.lookup y'=some .free->(names.map fun (n,k)=>if (k==abH&&X.env.scope.kind== .function&&X.env.kindOf n==some .cell) then (n,abU) else (n,k)).lookup y'≠some .local:=by
                  intro names
                  induction names with
                  |nil=>intro h;cases h
                  |cons p r ih=>
                   obtain ⟨n,kk⟩:=p;intro h h';have h'':abz y' ((if (kk==abH&&X.env.scope.kind== .function&&X.env.kindOf n==some .cell)=true then (n,abU) else (n,kk))::(r.map fun (n,k)=>if (k==abH&&X.env.scope.kind== .function&&X.env.kindOf n==some .cell) then (n,abU) else (n,k)))=some .local:=h';simp only [abi] at h
                   cases hx:y'==n with
                   |true=>
                    rw [hx] at h;cases h
                    split at h''<;>simp [abi,hx] at h''
                   |false=>
                    rw [hx] at h
                    split at h''<;>(simp only [abi,hx] at h'';exact ih h h'')
                 exact this g4 z
             · exact z
           · rcases lk with ⟨kk,_⟩| ⟨kk,c',hc',cell'⟩
             · exfalso;have kk':X.env.scope.names.lookup y'=some .local:=kk;rcases g3 with z|z<;>(rw [z] at kk';cases kk')
             · obtain ⟨c2,hc2⟩:=S.free (y',.free) (aba g4) rfl
               have:c2=c':=by
                 have:=S.cls _ _ hc2;rw [hc'] at this;exact (aaG this).symm
               subst this;obtain ⟨o,ho,hd⟩:=cell';exact ⟨c2,hc2,o,old _ _ ho,hd⟩
       · exfalso
         have hi':i=m+js.length:=by
           have hl:i<N.length:=(aaq.mp hN1).1;rw [S.len] at hl;omega
         subst hi';have no:=S.last y hN1;rcases h3 with z|z|z<;>
         · obtain ⟨k',m1,_⟩:=qL (env:=X.env) (names:=scope.names) z;exact no _ m1 rfl
   · obtain ⟨v',o,ho,hd⟩:=I3.cell y c' (S.cls y c' h);exact ⟨v',o,old _ _ ho,hd⟩
   · show (zO m js σ a).length=N.length;rw [S.len];simp [zO];omega
  have kC:EnvOk X.K (Gc im G env σ) H2 (wS im m js env) (zO m js σ a) (upd H2 a (.lst [])):=Ve k2 ha
  have fC: ∀b∈fp,FpOk (qJ X N scope cl C s3 (upd H2 a (.lst [])) fp) [] (upd H2 a (.lst [])) b:=fun b hb'=>by
   obtain ⟨z0,z1,z2,z3,z4,z5⟩:=f3 b hb';exact ⟨z0,(XO.exf b hb').1,XO.exfs b hb',.inl hb',(XO.exf b hb').2,fun p hp=>absurd hp (by simp [qJ])⟩
  have stC:tn 0 h₁:=T.keep 0 _ _ st2 fun b hb' o e=>old b o (aah _ e)
  have loop:codeAny (model X.prog X.w) X.A (.compLoop (.ListComp elt [⟨tg,iter,ifs,0⟩] scope pos) 0 (.ref it) (.ref a) (compEnvC scope cl C X.env))
     (compPost (model X.prog X.w) X.A X.xe use Q' (.ref a) C) {s2 with heap:=h₁,toks:=s2.toks+([]:List (Str×Value)).length}:=by
   refine QX (fun n s'=> ∃i σ' H' env',n=ds.length+1-i/\i<=ds.length/\Inv (qJ X N scope cl C s3 (upd H2 a (.lst [])) fp) [] σ' H' s'/\tn i s'.heap/\(∀b∈fp,H' b=none)/\(∀b,qR env' σ' b->b=a)/\
       EnvOk X.K (Gc im G env σ) H2 env' σ' H'/\Frm (wS im m js env) (zO m js σ a) (upd H2 a (.lst [])) env' σ' H'/\wT (m+js.length) t c fe (ds.drop i) env'= .ok envF) ?_ (ds.length+1)
     ⟨0,_,_,_,rfl,acF _,I4,stC,fun b hb'=>(fC b hb').1,?_,kC,Frm.refl (Same.refl _),by simpa using e2⟩
   · rintro n s' ⟨i,σ',H',env',rfl,hi',Ic,st,fr,hs',kc,fc,ec⟩;have hP:P H':=pst env σ H' (Frm.refl kc.base);obtain ⟨w1,w2,w3⟩:=wk i H' hP;have fpk: ∀ {H':Hp},(∀b∈fp,H' b=none)-> ∀b∈fp,FpOk (qJ X N scope cl C s3 (upd H2 a (.lst [])) fp) [] H' b:=fun hn b hb'=>⟨hn b hb',(fC b hb').2⟩
     by_cases hlt:i<ds.length
     · have hd:i<ds.length:=by omega
       rw [List.drop_eq_getElem_cons hd] at ec;obtain ⟨env1,e5,ec⟩:=ja ec;obtain ⟨b,e6,ec⟩:=ja ec;refine thn (T.item (qJ X N scope cl C s3 (upd H2 a (.lst [])) fp) rfl rfl rfl rfl i [] s' σ' H' (fun _ _=>False) Ic (fpk fr) st (w1 hlt)) fun r s4 ⟨u,hr,h4⟩=>?_
       subst hr;refine thn h4 fun _ s5 ⟨x,H5,I5,r5,y5,st5,fr5⟩=>?_
       have wkA: ∀b,(Sf G env σ b/\H2 b≠none)->Sf (Gc im G env σ) env' σ' b:=fun b z=>⟨fun o=>(by
         rw [hs' b o] at z
         exact z.2 ha),z.1.2,fun _=>z.1.1⟩
       obtain ⟨sm5,rd'⟩:Same H' H5/\Rep X.K (Sf (Gc im G env σ) env' σ') H5 x ds[i]:=by
         rcases w2 _ (aaD hd) x H5 y5 with ⟨rfl,rd⟩| ⟨p,vs,es,hp,rfl,rfl,ed,rds⟩
         · exact ⟨Same.refl _,(rd.inDom.grow kc.base).weak wkA⟩
         · refine ⟨Same.upd hp,?_⟩;rw [ed];exact .tup jF (((rds.inDom.grow kc.base).weak wkA).grow (Same.upd hp))
       have kc5:=kc.grow sm5;have I5':=I5.pinned (fpk fr5) (T.obj _ _ st5);refine thn (DGt _ s5 σ' H5 x u (fun σ1 Hn=>Hn=H5/\EnvOk X.K (Gc im G env σ) H2 env1 σ1 H5/\Frm env' σ' H5 env1 σ1 H5) I5' r5 ⟨_,H2,env',ds[i],env1,kc5,rd',e5,fun σ1 k1 f1=>⟨rfl,k1,f1⟩⟩) fun _ s6 ⟨σ6,H6,I6,z6,k6,ff6⟩=>?_
       subst z6
       have ow6: ∀b,qR env1 σ6 b->b=a:=fun b o=>by
         rcases ff6.more b o with z|z
         · exact hs' b z
         · obtain ⟨uu,hu⟩:=k6.there o;rw [z] at hu;cases hu
       refine thn (DTc _ s6 σ6 H6 (fun b' Hn=>b'=b/\Same H6 Hn) I6 ⟨_,H2,env1,b,k6,e6,fun Hn sn=>⟨rfl,sn⟩⟩) fun ok s7 ⟨H7,I7,z7,sm7⟩=>?_
       subst z7;have k7:=k6.grow sm7;have fr7:=((fc.trans (Frm.refl sm5)).trans ff6).trans (Frm.refl sm7)
       have out: ∀ {s8:aaf} {σ8:L2.St} {H8:Hp} {env8:Sl},Inv (qJ X N scope cl C s3 (upd H2 a (.lst [])) fp) ([]++QC fp s5.heap) σ8 H8 s8->(∀b,qR env8 σ8 b->b=a)->EnvOk X.K (Gc im G env σ) H2 env8 σ8 H8->
           Frm (wS im m js env) (zO m js σ a) (upd H2 a (.lst [])) env8 σ8 H8->wT (m+js.length) t c fe (ds.drop (i+1)) env8= .ok envF->
           ∃mm,mm<ds.length+1-i/\ ∃i σ' H' env',mm=ds.length+1-i/\i<=ds.length/\Inv (qJ X N scope cl C s3 (upd H2 a (.lst [])) fp) [] σ' H' s8/\tn i s8.heap/\(∀b∈fp,H' b=none)/\(∀b,qR env' σ' b->b=a)/\
             EnvOk X.K (Gc im G env σ) H2 env' σ' H'/\Frm (wS im m js env) (zO m js σ a) (upd H2 a (.lst [])) env' σ' H'/\wT (m+js.length) t c fe (ds.drop i) env'= .ok envF:=by
         intro s8 σ8 H8 env8 I8 ow8 k8 f8 e8;refine ⟨ds.length+1-(i+1),by omega,i+1,σ8,H8,env8,rfl,hlt,I8.unpinned,T.keep _ _ _ st5 fun b hb' o e=>(I8.pin (b,o) (aaH _ (aaH _ (xc hb' e)))).1,fun b hb'=>?_,ow8,k8,f8,e8⟩;obtain ⟨o,e,_⟩:=T.obj _ _ st5 b hb';exact (I8.pin (b,o) (aaH _ (aaH _ (xc hb' e)))).2.1
       cases ok with
       |false=>
         rw [if_neg aaB] at ec ⊢;exact out I7 ow6 k7 fr7 ec
       |true=>
         rw [if_pos rfl] at ec ⊢;obtain ⟨vd,e7,ec⟩:=ja ec;obtain ⟨acc,e8,ec⟩:=ja ec;obtain ⟨hz,ec⟩:=jn ec;refine thn (DEe _ s7 σ6 H7 (fun y Hn=>Same H7 Hn/\Rep X.K (Sf (Gc im G env σ) env1 σ6) Hn y vd) I7 ⟨_,H2,env1,vd,k7,e7,fun y Hn sn rn _=>⟨sn,rn⟩⟩) fun yv s8 ⟨y,H8,I8,ry,sm8,rep8⟩=>?_
         have k8:=k7.grow sm8;have hi8:=za e8;obtain ⟨a8,xs8,ha8,hx8,rs8⟩:=zn k8 hi8;have ea:a8=a:=ow6 a8 ⟨_,_,hi8,ha8⟩;subst ea;have W:=k8.write hi8 ha8 hx8 (xs':=xs8++[y]) (ds':=acc++[vd]) (rs8.append (.cons rep8 .nil))
         refine thn (yM (X:=qJ X N scope cl C s3 (upd H2 a (.lst [])) fp) _ s8 σ6 H8 (.ref a) [y] (.ref a) [yv] (fun _ Hn=>Hn=upd H8 a (.lst (xs8++[y]))) I8 rfl (.cons ry .nil)
           ⟨a,xs8,y,rfl,rfl,hx8,by rw [rs8.length];exact hz,rfl⟩) fun _ s9 ⟨_,H9,I9,_,z9⟩=>?_
         subst z9;exact out I9 (fun b o=>ow6 b ((zJ hi8).mp o)) W.1 ((fr7.trans (Frm.refl sm8)).trans W.2) ec
     · have he:i=ds.length:=by omega
       rw [abZ (by omega)] at ec;cases ec;refine thn (T.done (qJ X N scope cl C s3 (upd H2 a (.lst [])) fp) rfl rfl rfl rfl i [] s' σ' H' (fun _ _=>False) Ic (fpk fr) st (w3 (by omega))) fun r s4 ⟨hr,I5⟩=>?_
       subst hr;have hiF:=za e3;obtain ⟨aF,xsF,haF,hxF,rsF⟩:=zn kc hiF;have ea:aF=a:=hs' aF ⟨_,_,hiF,haF⟩;subst ea;obtain ⟨mm,hn,_⟩:=I5.loc;refine hend a C s4 H' mm _ hn (fun h' hsb=>?_) (I3.fpOk (aan _) I5.free) (sm.trans kc.base) (.lst hxF (k.new a (Same.free sm ha)) ?_) (zS sm ha)
       rotate_left
       · cases him:im with
         |true=>exact rsF.imm (himF him)
         |false=>exact rsF.weak fun c z=>⟨⟨z.2.2 him,z.2.1⟩,Z9 kc hiF haF c z⟩
       have nC: ∀b o,H' b=some o->b≠C:=fun b o e z=>by
         have:=I5.free;rw [z] at e;have e':H' C=none:=this;rw [e] at e';cases e'
       have B:=I5.base;have ltC: ∀b o,s3.heap.get? b=some o->b≠C:=fun b o e=>aaU (aat e)
       have U:Un (frs X.stack) fp (upd H2 a (.lst [])) H' s3.heap h':=⟨fun b o e n hb' hx'=>(hsb.2 b (ltC b o e)).trans (B.keep b o e n hb' hx'),
         fun b o e n hb' hx'=>let ⟨sl,z⟩:=B.slot b o e n hb' hx';⟨sl,(hsb.2 b (ltC b o e)).trans z⟩,B.free,
         fun b o e hx'=>let ⟨o',z⟩:=B.there b o e hx';⟨o',(hsb.2 b (ltC b o e)).trans z⟩,B.tups,B.frzs,B.tbls⟩
       refine Inv.call' (ch:=fp) I3 I5.os U (fun b o e=>(I5.hok b o e).stay (fun c' u hc' qq=>(hsb.2 c' ?_).trans qq) (fun _ z=>z) fun _ _ z=>z) I5.bare (fun b hb'=>?_)
       · rcases hc' with z|z
         · rw [z];exact nC b o e
         · exact nC c' _ z
       · obtain ⟨z0,z1,z2,z3,z4,z5⟩:=f3 b hb';exact ⟨z3,z1,z4,z5⟩
   · exact fun b o=>Xh o
  exact codeAny_compStart_list loop (T.self _ 0 _ _ _ stC loop))
def ZN (im:Bool) (N:List Str) (m:Nat) (js:List Nat) (S:CompSc X scope cl N m js) (hc:X.calm=true) (hi:DI X tg iter fi)
   (hb: ∀(C:Addr) (s:aaf) (H:Hp) (fp:List Addr),DG (qJ X N scope cl C s H fp) tg t/\DTs (qJ X N scope cl C s H fp) ifs c/\DE (qJ X N scope cl C s H fp) .s elt fe)
   (hs: ∀x,ab1 iter X.env x=pure x:=by intro _;rfl):
   DE X .t (.ListComp elt [⟨tg,iter,ifs,0⟩] scope pos) (Je im m js fi t c fe):=by
 with_unfolding_all exact (by
  intro pins s σ H Q I ⟨G,H0,env,d,k,ef,q⟩;rw [eval_ListComp]
  exact Kc none (EP X pins σ Q) im N m js S hc hi hb hs I k ef fun a C s' H' mm r hn hinv hfp sm rep nt=>⟨mm,hn,fun h' hsb=>⟨.ref a,H',hinv h' hsb,rfl,q _ H' sm rep nt⟩⟩)
end
def jT (n:Nat) (ds:List D):Sl:=ds.map .shr++ab7 (n-ds.length) .un
def YV {K:aaa} {B:Zi} {N:List Str} {vs:List V} {ds:List D} {H:Hp} (r:Reps K B H vs ds):EnvOk K (fun a=>H a=none\/B a) H (jT N.length ds) (start N vs) H:=by
 have hl:=r.length
 have no: ∀(i:Nat) (d:D),(jT N.length ds)[i]?≠some (.own d):=fun i d h=>by
   unfold jT at h
   by_cases q:i<ds.length
   · rw [aar (by simpa using q),aaJ] at h
     cases e:ds[i]? with
     |none=>rw [e] at h;cases h
     |some x=>rw [e] at h;cases h
   · rw [aaj (by simpa using q),aaM] at h
     split at h<;>cases h
 refine ⟨by simp [L2.start,jT,hl],Same.refl H,fun _ z=> .inl z,fun i d h=>?_,fun i d h=>(no i d h).elim,fun i j d e a h=>(no i d h).elim⟩;unfold jT at h
 by_cases q:i<ds.length
 · rw [aar (by simpa using q),aaJ] at h
   cases e:ds[i]? with
   |none=>rw [e] at h;cases h
   |some x=>
     rw [e] at h;cases h;obtain ⟨v,h1,h2⟩:=r.get e;refine ⟨v,?_,h2.weak fun a z=>⟨fun o=>?_,.inr z⟩⟩
     · unfold L2.start;rw [aar (by simp;omega),aaJ,h1];rfl
     · obtain ⟨i',d',z,_⟩:=o;exact no i' d' z
 · rw [aaj (by simpa using q),aaM] at h
   split at h<;>cases h
section
variable {P:aaE} {w:World} {K:aaa} {mg:Zj} {base:Heap}
def Meets (fr:Bool) (n:Nat) (g:T3) (ds:List D) (d:D):Prop:=(∃fr',g (jT n ds)= .ok (.rt fr' d)/\(fr=true->fr'=true))\/(d= .non/\ ∃env',g (jT n ds)= .ok (.nx env'))
def ve {x qual:Str} {st:Stmt} {f:Addr} {fd:abo} {N ps:List Str} {k:Nat} {fr:Bool} {F:T1} {g:T3} (Fu:Fun K x qual st f fd) (S:FnScope N ps (je st))
    (hb: ∀(cdv:Value) (A:aa5) (outer:List Env) (s:aaf) (H:Hp) (E:XK),Room k (A.deeper (ace qual (je st) s.heap.objs.size f cdv))->DSs (cxOf CX0 P w K mg base N qual (je st) f cdv A outer s H E).nox (qe st) g)
    (hF: ∀ds d,ds.length=ps.length->F ds= .ok d->Meets fr N.length g ds d):
    FnOk P w K mg base CX0 (k+1) f fd ps (spF K fr ps.length F):=by
 with_unfolding_all exact (by
  refine Fu.ok S (fun vs H Q E ⟨B,ds,d,hl,_⟩=>hl) (fun cdv A outer s H vs Q E hr h=>?_);obtain ⟨B,ds,d,hl,r,e,q⟩:=h;refine ⟨_,hb cdv A outer s H E hr,?_⟩;have kk:=YV (N:=N) r;rcases hF ds d (by rw [←r.length];exact hl) e with ⟨fr',z,hf⟩| ⟨rfl,env',z⟩
  · exact ⟨_,H,_,_,kk,z,fun v H' s r nt=>q v H' s r fun hh=>nt (hf hh)⟩
  · exact ⟨_,H,_,_,kk,z,fun σ' H' k' f'=>q .non H' k'.base .non fun _ a e=>by cases e⟩)
end
open PySem.W in
theorem UX {ns:List Int} (h:WData.layableAll [WData.list (ns.map WData.int)]=true): ∀n∈ns,abb n<=2^20:=fun n hn=>by
 have h1:=layableW_arg h _ aaV;have h2:=layableW_item h1 (.int n) (acx.mpr ⟨n,hn,rfl⟩);have h3:=(layableW_iff.mp h2).2.2;simpa only [WData.weight,abb] using h3
open PySem.W PySem.Calls Att in
theorem ZS {l:acS} {n:Nat} {q:aaE} {loose:List Str} {XP:(Str->Option Value)->Heap->Prop} {YP:World->Heap->Prop} {d:DefRec}
  (hn:l.most=some n) (hdf:d.params.defaults=[])
  (call: ∀(w:World) (s₀ s₁:aaf) (mg mb:Zj) (fa:Addr) (o:Obj) (pm cd doc:Value) (a:Addr) (vs:List Value) (ns:List Int),
   Ground q loose [] XP w s₀ mg mb s₁.heap->YP w s₁.heap->
   s₁.heap.get? fa=some o->o.data= .func (docDef d.name d.params d.body d.scope pm cd doc)->s₁.heap.CodeRec cd d.name->mg d.name=some (.ref fa)->
   s₁.heap.get? a=some {cls:= .type "list",data:= .seq vs.toArray}->IntsAre vs ns->ns.length<=n->(∀n∈ns,abb n<=2^20)->s₁.gens= #[]->
   codeAny (model l.prog w) callerA (.call (.ref fa) ⟨[.ref a],[]⟩) (fun r s'=>r= .ok (.ret (.bool true))/\OldK s₁.heap s'.heap/\s'.os=s₁.os/\acM s'.gens) s₁):
  WalkO q loose XP YP l.row.toRowW d [] (fun f vs=>PySem.call f vs):=by
 intro w s₀ s₁ mg mb G Y fa o pm cd doc dV kV ho hd hcd hD hmg hg args vals as hpre hlay hrd hwl hlo;obtain rfl:dV= .none:=Dflts.none hD hdf;obtain rfl:kV= .none:=Dflts.noKw hD;obtain ⟨a,vs,ns,rfl,rfl,hobj,hints,hlen⟩:=XT hn hpre hwl;refine enter_call (codeAny_mono (call w s₀ s₁ mg mb fa o pm cd doc a vs ns G Y ho (fd_plain hd) hcd hmg hobj hints hlen (UX hlay) hg) fun r s' hq=>?_);obtain ⟨rfl,h2,h3,h4⟩:=hq;exact ⟨.inl ⟨.bool true,.bool true,[],rfl,fun _=>rfl,.bool true,X5 l _,fun _=>⟨List.Pairwise.nil,fun _ hm=>(nomatch hm)⟩⟩,h2,h3,h4⟩
def KO {K:aaa} {H:Hp} {a:Addr} {xs:List V} (hO:Only H) (h:SqL K H a xs):LsK K H a xs:=by
 rcases h with (h|h)|h
 · rcases hO a with z| ⟨o,ys,z⟩
   · rw [z] at h;cases h
   · rw [z] at h;cases h
 · exact .inl h
 · exact .inr h
theorem Wm {K:aaa} {A:Zi} {H:Hp}: ∀ns:List Int,Reps K A H (ns.map V.int) (ns.map D.int)
 | []=> .nil
 |n::r=> .cons (.int n) (Wm r)
def walk_law {l:acS} {n k:Nat} {q:aaE} {loose:List Str} {XP:(Str->Option Value)->Heap->Prop} {YP:World->Heap->Prop} {d:DefRec} {K:Params->aaa} {F:T1} {x:Str}
  (hn:l.most=some n) (hn2:n<=aae) (hdf:d.params.defaults=[]) (hr:Room k callerA)
  (hY: ∀(w:World) (h:Heap),YP w h->(K w.params).In h)
  (hF: ∀(w:World) (mg:Zj) (fa:Addr) (h:Heap),(K w.params).In h->h.Ns aam mg->mg d.name=some (.ref fa)->
   ∃fd:abo,(∀(s:aaf) (u:Value),BindsTo s fd ⟨[u],[]⟩ [(x,u)])/\
    ∀base:Heap,(K w.params).In base->base.Ns aam mg->FnOk l.prog w (K w.params) mg base CX0 k fa fd [x] (spF (K w.params) true 1 F))
  (ht: ∀ns:List Int,ns.length<=n->(∀i∈ns,abb i<=2^20)->F [.scr (ns.map D.int)]= .ok (.bl true)):
  PySem.W.WalkO q loose XP YP l.row.toRowW d [] (fun f vs=>PySem.call f vs):=by
 refine ZS hn hdf fun w s₀ s₁ mg mb fa o pm cd doc a vs ns G Y ho hd hcd hmg hobj hints hlen hbits hg=>?_
 have KX:=hY w _ Y;obtain ⟨fd,hb,hFn⟩:=hF w mg fa _ KX G.T.g hmg;refine K0 KX G.T.g G.T.b G.T.builtins G.T.nolimit hg hobj hints (aau hlen hn2) hr hFn hb (fun H hO hS=>?_) fun H e s' h=>h
 exact ⟨Any,_,_,rfl,.cons (.lsk (KO hO hS) (Wm ns)) .nil,ht ns hlen hbits,fun v H' _ r _=>r.blE⟩
section
variable {X:Cx} {K:aaa}
def iOp (C:Int->Int->Prop) [∀i j,Decidable (C i j)] (g:Int->Int->D):D->D->Res D
 | .int i,.int j=>must (C i j) (.ok (g i j))
 |_,_=> .stuck
def YG {C:Int->Int->Prop} [∀i j,Decidable (C i j)] {g:Int->Int->D} {a b d:D} (h:iOp C g a b= .ok d): ∃i j,a= .int i/\b= .int j/\C i j/\d=g i j:=by
 unfold iOp at h
 split at h
 · obtain ⟨h1,h2⟩:=jn h;cases h2;exact ⟨_,_,rfl,rfl,h1,rfl⟩
 · cases h
def od_I {C C':Int->Int->Prop} [∀i j,Decidable (C i j)] {h:Int->Int->V} {g:Int->Int->D} (w: ∀i j,C i j->C' i j) (r: ∀i j,Sc K (h i j) (g i j)):OpS K (rI C' h) (iOp C g):=by
 intro x y H a b d Q ra rb e q;obtain ⟨i,j,rfl,rfl,hc,rfl⟩:=YG e;exact ⟨i,j,ra.intE,rb.intE,w i j hc,q _ (r i j)⟩
abbrev Jf:Int->Int->Prop:=fun _ _=>True
instance: ∀i j,Decidable (Jf i j):=fun _ _=>inferInstanceAs (Decidable True)
def KR {h:Int->Int->V} {g:Int->Int->D} (r: ∀i j,Sc K (h i j) (g i j)):OpS K (rI0 h) (iOp Jf g):=by
 intro x y H a b d Q ra rb e q;obtain ⟨i,j,rfl,rfl,hc,rfl⟩:=YG e;exact ⟨i,j,ra.intE,rb.intE,q _ (r i j)⟩
def uQ {v:V} {d:D} {H:Hp} (h:Sc K v d):NewTop H v:=fun a e=>absurd e (h.2 a)
def addD:D->D->Res D
 | .int i,.int j=> .ok (.int (i+j))
 | .str i,.str j=>must (i.length+j.length<=aae) (.ok (.str (i++j)))
 | .lst a,.lst b=>must (a.length+b.length<=aae) (.ok (.lst (a++b)))
 | .tup a,.tup b=>must (a.isEmpty=false/\a.length+b.length<=aae) (.ok (.tup (a++b)))
 |_,_=> .stuck
def jw:OpR X (abu .Add) (fun x y H Q=>rI0 (fun i j=> .int (i+j)) x y H Q\/(∃i j,x= .str i/\y= .str j/\i.length+j.length<=aae/\Q (.str (i++j)) H)\/rCat x y H Q\/Uf X.K x y H Q):=
 op_add.or (op_add_str.or (op_cat.or Uu))
def Reps.len_app {A:Zi} {H:Hp} {xs ys:List V} {a b:List D} (r:Reps K A H xs a) (s:Reps K A H ys b) (h:a.length+b.length<=aae):xs.length+ys.length<=aae:=by rw [r.length,s.length];exact h
def orA {A:Zi} {H:Hp}: ∀c,A c->(H c=none\/A c):=fun _ z=> .inr z
def jO:OpD K (fun x y H Q=>rI0 (fun i j=> .int (i+j)) x y H Q\/(∃i j,x= .str i/\y= .str j/\i.length+j.length<=aae/\Q (.str (i++j)) H)\/rCat x y H Q\/Uf K x y H Q) addD:=by
 intro A x y H a b d Q ra rb e q;unfold addD at e
 split at e
 · cases e;exact .inl ⟨_,_,ra.intE,rb.intE,q _ H (Same.refl H) (.int _) (uQ (uE (K:=K) _))⟩
 · obtain ⟨h1,h2⟩:=jn e;cases h2;have hl: ∀i j:Str,i.length+j.length<=aae->(i++j).length<=aae:=fun i j h=>by rw [acg];exact h
   exact .inr (.inl ⟨_,_,ra.strE.1,rb.strE.1,h1,q _ H (Same.refl H) (.str _ (hl _ _ h1)) (uQ (uP (K:=K) _ (hl _ _ h1)))⟩)
 · obtain ⟨h3,h4⟩:=jn e;cases h4;obtain ⟨l,xs,rfl,hl,_,rx⟩:=ra.lstE;obtain ⟨l',ys,rfl,hl',_,ry⟩:=rb.lstE;refine .inr (.inr (.inl ⟨l,l',xs,ys,rfl,rfl,hl,hl',rx.low.len_app ry.low h3,fun p hp=>q _ _ (Same.upd hp) ?_ (zS (Same.refl H) hp)⟩));exact .lst jF (.inl hp) (((rx.low.append ry.low).laid hp).weak fun c z=>⟨.inr z.1,z.2⟩)
 · obtain ⟨⟨h3,h4⟩,h5⟩:=jn e;cases h5;obtain ⟨l,xs,rfl,hl,rx⟩:=ra.tupE;obtain ⟨l',ys,rfl,hl',ry⟩:=rb.tupE;refine .inr (.inr (.inr ⟨l,l',xs,ys,rfl,rfl,.of hl,.of hl',fun z=>?_,rx.len_app ry h4,fun z=>?_,fun z p hp=>q _ _ (Same.upd hp) ?_ (zS (Same.refl H) hp)⟩))
   · subst z;cases rx;cases h3
   · subst z;cases ry;rw [abw] at q;refine q _ H (Same.refl H) (.tup hl (rx.weak orA)) fun a e o q' m=>?_
     cases e;rw [hl] at q';cases q';exact m
   · exact .tup jF (((rx.append ry).weak orA).grow (Same.upd hp))
 · cases e
def Wd:OpS K (rI0 fun i j=> .int (i-j)) (iOp Jf fun i j=> .int (i-j)):=KR fun i j=>uE _
abbrev MulC:Int->Int->Prop:=fun i j=>abb i+abb j<=134217728
def yH:OpR X (abu .Mult) (rI MulC fun i j=> .int (i*j)):=opI fun _ _ _ _ _ _ _ hc q=>mul_int q (IntMulOk.of_le (aan _) (aan _) hc)
def QI:OpS K (rI MulC fun i j=> .int (i*j)) (iOp MulC fun i j=> .int (i*j)):=od_I (fun _ _ h=>h) fun i j=>uE _
abbrev DivC:Int->Int->Prop:=fun _ j=>0<j/\j<1073741824
def qW:OpS K (rI CDiv fun i j=> .int (i/j)) (iOp DivC fun i j=> .int (i/j)):=od_I (fun _ _ h=>h) fun i j=>uE _
abbrev PosC:Int->Int->Prop:=fun _ j=>0<j
def wE:OpS K (rI (fun _ j=>0<j) fun i j=> .int (i%j)) (iOp PosC fun i j=> .int (i%j)):=od_I (fun _ _ h=>h) fun i j=>uE _
abbrev PowC:Int->Int->Prop:=fun i j=>0<=j/\j<=1000000/\i.natAbs<2^64
def kI:OpS K (rI CPow fun i j=> .int (i^j.toNat)) (iOp PowC fun i j=> .int (i^j.toNat)):=od_I (fun _ _ h=>h) fun i j=>uE _
def Yn:OpS K (rI0 fun i j=> .bl (decide (i<j))) (iOp Jf fun i j=> .bl (decide (i<j))):=KR fun i j=>uD _
def QJ:OpS K (rI0 fun i j=> .bl (decide (i<=j))) (iOp Jf fun i j=> .bl (decide (i<=j))):=KR fun i j=>uD _
def Yo:OpS K (rI0 fun i j=> .bl (decide (j<i))) (iOp Jf fun i j=> .bl (decide (j<i))):=KR fun i j=>uD _
def inS (i j:Str):Bool:=!(abQ j i 0 j.length 1).isEmpty
def inD:D->D->Res D
 | .str i,.str j=> .ok (.bl (inS i j))
 |_,_=> .stuck
def Vz:OpS K (fun x y H Q=> ∃i j,x= .str i/\y= .str j/\Q (.bl (!(abQ j i 0 j.length 1).isEmpty)) H) inD:=by
 intro x y H a b d Q ra rb e q;unfold inD at e
 split at e
 · cases e;exact ⟨_,_,ra.strE.1,rb.strE.1,q _ (uD _)⟩
 · cases e
def lenD:List D->Res D
 | [.lst ds]=> .ok (.int ds.length)
 | [.scr ds]=> .ok (.int ds.length)
 | [.tup ds]=> .ok (.int ds.length)
 | [.str z]=> .ok (.int z.length)
 |_=> .stuck
def qg:CallR X (.builtin "len") (fun xs H Q=>(∃p ys,xs=[.ref p]/\(SqL X.K H p ys\/SqT X.K H p ys)/\Q (.int ys.length) H)\/(∃z,xs=[.str z]/\z.length<=aae/\Q (.int z.length) H)):=call_len_seq.or Q0
def wU:Kp K (fun xs H Q=>(∃p ys,xs=[.ref p]/\(SqL K H p ys\/SqT K H p ys)/\Q (.int ys.length) H)\/(∃z,xs=[.str z]/\z.length<=aae/\Q (.int z.length) H)) lenD:=by
 intro xs H ds d Q r e q;unfold lenD at e
 split at e
 · cases e;obtain ⟨v,rfl,r1⟩:=r.one;obtain ⟨p,ys,rfl,hp,_,ry⟩:=r1.lstE;exact .inl ⟨p,ys,rfl,.inl (.of hp),by rw [ry.length];exact q _ (uE _)⟩
 · cases e;obtain ⟨v,rfl,r1⟩:=r.one;obtain ⟨p,ys,rfl,hp,ry⟩:=r1.scrE;exact .inl ⟨p,ys,rfl,.inl hp.sql,by rw [ry.length];exact q _ (uE _)⟩
 · cases e;obtain ⟨v,rfl,r1⟩:=r.one;obtain ⟨p,ys,rfl,hp,ry⟩:=r1.tupE;exact .inl ⟨p,ys,rfl,.inr (.of hp),by rw [ry.length];exact q _ (uE _)⟩
 · cases e;obtain ⟨v,rfl,r1⟩:=r.one;obtain ⟨rfl,hz⟩:=r1.strE;exact .inr ⟨_,rfl,hz,q _ (uE _)⟩
 · cases e
def Jl:List D->Res D
 | [.lst ds]=>(.ok (.tup ds))
 | [.tup ds]=>(.ok (.tup ds))
 |_=> .stuck
def Xt {H:Hp} {p:Addr} {xs:List V} (h:H p=some (.tup xs)):NewTop H (.ref p):=fun a e o q m=>by
 cases e;rw [h] at q;cases q;exact m
def Qi:Kq K (fun xs H Q=> ∃p ys,xs=[.ref p]/\((SqL K H p ys/\ ∀l,H l=none->Q (.ref l) (upd H l (.tup ys)))\/(SqT K H p ys/\Q (.ref p) H))) Jl:=by
 intro A xs H ds d Q r e q;unfold Jl at e
 split at e
 · cases e;obtain ⟨v,rfl,r1⟩:=r.one;obtain ⟨p,ys,rfl,hp,_,ry⟩:=r1.lstE;exact ⟨p,ys,rfl,.inl ⟨.of hp,fun l hl=>q _ _ (Same.upd hl) (.tup jF ((ry.low.weak orA).grow (Same.upd hl))) (zS (Same.refl H) hl)⟩⟩
 · cases e;obtain ⟨v,rfl,r1⟩:=r.one;obtain ⟨p,ys,rfl,hp,ry⟩:=r1.tupE;exact ⟨p,ys,rfl,.inr ⟨.of hp,q _ H (Same.refl H) (.tup hp (ry.weak orA)) (Xt hp)⟩⟩
 · cases e
def minD:List D->Res D
 | [.int i,.int j]=> .ok (.int (if j<i then j else i))
 |_=> .stuck
def vz:Kp K (fun xs H Q=> ∃i j,xs=[.int i,.int j]/\Q (.int (if j<i then j else i)) H) minD:=by
 intro xs H ds d Q r e q;unfold minD at e
 split at e
 · cases e;obtain ⟨v,v',rfl,r1,r2⟩:=r.two;cases r1.intE;cases r2.intE;exact ⟨_,_,rfl,q _ (uE _)⟩
 · cases e
def tyN:D->Option String
 | .non=>some "NoneType"
 | .bl _=>some "bool"
 | .int _=>some "int"
 | .str _=>some "str"
 | .tup _=>some "tuple"
 | .lst _=>some "list"
 | .scr _=>none
 | .dic _ _=>some "dict"
 | .dit _ _=>some "dict"
 | .exn _=>none
 | .fdc _ _=>none
 | .hdc _ _=>none
 | .obj _ _ _=>none
def vG {A:Zi} {H:Hp} {v:V} {d:D} {n:String} (r:Rep K A H v d) (h:tyN d=some n):TyOf K H v (.type n):=by
 cases r with
 |non=>cases h;exact .non
 |bl b=>cases h;exact .bl b
 |int i=>cases h;exact .int i
 |str x _=>cases h;exact .str x
 |tup e _=>cases h;exact .tup e
 |lst e _ _=>cases h;exact .lst e
 |lsk _ _=>cases h
 |dic e _ _ _ _=>cases h;exact .dK e
 |dit e _ _ _ _=>cases h;exact .dT e
 |exn _ _ _=>cases h
 |fdc _ _ _ _=>cases h
 |hdc _ _ _ _=>cases h
 |obj _ _ _ _ _=>cases h
def isTy (T n:String):Bool:=n==T|| (T== "int" &&n== "bool")
def IsTy (T:String):Prop:= ∀(K:aaa) (n:String),n∈["NoneType", "bool", "int", "str", "tuple", "list", "dict"]->abk K (.type n) (.type T)=some (isTy T n)
def U9 {d:D} {n:String} (h:tyN d=some n):n∈["NoneType", "bool", "int", "str", "tuple", "list", "dict"]:=by
 cases d<;>first| (cases h;done)| (cases h;decide)
def J4 {T:String} (h: ∀(K:aaa),abk K (.type "NoneType") (.type T)=some (isTy T "NoneType")/\abk K (.type "bool") (.type T)=some (isTy T "bool")/\abk K (.type "int") (.type T)=some (isTy T "int")/\
  abk K (.type "str") (.type T)=some (isTy T "str")/\abk K (.type "tuple") (.type T)=some (isTy T "tuple")/\abk K (.type "list") (.type T)=some (isTy T "list")/\abk K (.type "dict") (.type T)=some (isTy T "dict")):IsTy T:=by
 intro K n hn;obtain ⟨h1,h2,h3,h4,h5,h6,h7⟩:=h K;simp only [aaw,aaO,or_false] at hn;rcases hn with rfl|rfl|rfl|rfl|rfl|rfl|rfl<;>assumption
def Wl:IsTy "int" :=J4 fun K=>⟨rfl,rfl,rfl,rfl,rfl,rfl,rfl⟩
def QP:IsTy "bool" :=J4 fun K=>⟨rfl,rfl,rfl,rfl,rfl,rfl,rfl⟩
def xJ:IsTy "str" :=J4 fun K=>⟨rfl,rfl,rfl,rfl,rfl,rfl,rfl⟩
def zK:IsTy "tuple" :=J4 fun K=>⟨rfl,rfl,rfl,rfl,rfl,rfl,rfl⟩
def isiD (T:String) (d:D):Res D:=match tyN d with
 |some n=> .ok (.bl (isTy T n))
 |none=> .stuck
def Vh (T:String) (h:IsTy T):CallR X (.builtin "isinstance") (fun xs H Q=> ∃x d,xs=[x,.ty T]/\Rep X.K Any H x d/\ ∃b,isiD T d= .ok (.bl b)/\Q (.bl b) H):=by
 intro pins s σ H xs us Q I r ⟨x,d,ex,rp,b,e,q⟩;subst ex;obtain ⟨u,w',rfl,r1,r2⟩:=U7 r;cases (show w'=acV T from r2);unfold isiD at e
 split at e
 · rename_i n hn;cases e;refine Yz I r1 (vG rp hn) (h X.K n (U9 hn)) fun tk=>⟨.bl _,H,I.tok tk,rfl,q⟩
 · cases e
def isiF (T:String) (f:T5):Sl->Res D:=fun env=>f env>>=isiD T
def zu (T:String) (Ty:Str) {l l':Lv} {e:Expr} {f:T5} {p p2 pos:Pos} (ht:IsTy T) (he:DE X l e f) (hg:Gl X "isinstance") (hm:X.mg "isinstance" =none) (hg2:Gl X Ty) (hm2:X.mg Ty=none) (hv:abq Ty=some (.type T))
   (hn:Ty≠ "__name__" :=by decide) (hd:Z2 Ty:=by decide) (hs:aag [e,.Name Ty p2] X.env=(false,eval e X.env)::aag [.Name Ty p2] X.env:=by exact jq rfl)
   (hs2:aag [.Name Ty p2] X.env=(false,eval (.Name Ty p2) X.env)::aag [] X.env:=by exact jq rfl) (hpl:(aa7 pos (aag [.Name Ty p2] X.env)).any (·.1)=false:=by exact jS rfl):
   DE X l' (.Call (.Name "isinstance" p) [e,.Name Ty p2] [] pos) (isiF T f):=by
 with_unfolding_all exact (
  PE.imp (Z8 (Vh T ht) hg hm boot_isinstance (wB he (wB (Us (v:= .ty T) hg2 hm2 hv rfl hn hd) yD hs2) hs) (by decide) (by decide) hs hpl) fun σ H Q ⟨G,H0,env,d,k,ef,q⟩=>by
   obtain ⟨a,e1,e2⟩:=ja ef;refine ⟨G,H0,env,a,k,e1,fun v H' s r _=>?_⟩
   have hb: ∃b,d= .bl b:=by
    unfold isiD at e2
    split at e2
    · cases e2;exact ⟨_,rfl⟩
    · cases e2
   obtain ⟨b,rfl⟩:=hb
   exact ⟨v,a,rfl,r.weak Lv.weak_b,b,e2,q _ H' s (.bl b) (uD (K:=X.K) b).T⟩)
def ZR:List D->Option (List Bool)
 | []=>some []
 | .bl b::r=>(ZR r).map (b:: ·)
 |_=>none
theorem Q2: ∀ {ds:List D} {bs:List Bool},ZR ds=some bs->ds=bs.map D.bl
 | [],bs,h=>by cases h;rfl
 |d::r,bs,h=>by
  cases d with
  |bl b=>
   simp only [ZR,Option.map_eq_some_iff] at h;obtain ⟨bs',h1,rfl⟩:=h;rw [Q2 h1];rfl
  |_=>cases h
def Vi (bs:List Bool):ZR (bs.map D.bl)=some bs:=by
 induction bs with
 |nil=>rfl
 |cons b r ih=>simp [ZR,ih]
def allD:List D->Res D
 | [.lst ds]=>match ZR ds with
  |some bs=> .ok (.bl (bs.all id))
  |none=> .stuck
 |_=> .stuck
theorem Jt {A:Zi} {H:Hp}: ∀ {bs:List Bool} {xs:List V},Reps K A H xs (bs.map D.bl)->xs=bs.map V.bl
 | [],_,.nil=>rfl
 |b::bs,_,.cons h t=>by rw [h.blE,Jt t];rfl
theorem Jj: ∀ {bs:List Bool} {us:List Value},Vals (bs.map V.bl) us->us=bs.map abF
 | [],_,.nil=>rfl
 |b::bs,_,.cons h t=>by
  rw [Jj t];have:_=abF b:=h;rw [this];rfl
def Q1 (hc:X.calm=true):CallR X (.builtin "all") (fun xs H Q=> ∃(p:Addr) (bs:List Bool),xs=[.ref p]/\SqL X.K H p (bs.map V.bl)/\Q (.bl (bs.all id)) H):=by
 intro pins s σ H xs us Q I r ⟨p,bs,ex,hq,q⟩;subst ex;obtain ⟨u,rfl,ru⟩:=Zc r;cases ru;obtain ⟨its,rv,pl,hz⟩:=I.list hq;have hits:=Jj rv;subst hits;refine call_all_walk (wpAny_pyIter_list pl.isList ?_)
 have hne:p≠s.heap.objs.size:=by
   obtain ⟨o,n,e,_⟩:=pl;exact aaU (aat e)
 refine ⟨s.heap.objs.size,_,_,_,_,_,fun i=>(bs[i]?).getD true,rfl,Walks.list (show X.A.in1.handled=none from I.ok.hd hc) s.heap.objs.size p hne (bs.map abF).toArray,⟨⟨_,aay _ rfl,rfl,rfl⟩,pl.isList.at fun o e=>aah _ e⟩,?_,fun h' tk kk=>?_⟩
 · intro i v s' Q' E' hP hQ;have hP':(bs.map abF)[i]?=some v:=by simpa using hP
   rw [aaJ] at hP'
   cases e:bs[i]? with
   |none=>rw [e] at hP';cases hP'
   |some b=>
    rw [e] at hP';cases hP';dsimp only at hQ;rw [e] at hQ;exact aa1 hQ
 · have hn:(bs.map abF).toArray.size=bs.length:=by simp
   have e:((aa0 (bs.map abF).toArray.size).all fun i=>(bs[i]?).getD true)=bs.all id:=by
    rw [hn,Bool.eq_iff_iff,aaZ,aaZ]
    constructor
    · intro hh b hb;obtain ⟨i,hi,rfl⟩:=List.mem_iff_getElem.mp hb;have:=hh i (ab5.mpr hi);rw [aaD hi] at this;exact this
    · intro hh i hi;have hi':=ab5.mp hi;rw [aaD hi'];exact hh _ (abM hi')
   rw [e];refine ⟨.bl _,H,?_,rfl,q⟩
   exact I.kept (t':=tk) fun b o e=>kk b o (by
    intro z;have hb:b=s.heap.objs.size:=by simpa using z
    exact absurd (aat e) (by rw [hb];exact aby _)) (aah _ e)
def VR:Kp K (fun xs H Q=> ∃(p:Addr) (bs:List Bool),xs=[.ref p]/\SqL K H p (bs.map V.bl)/\Q (.bl (bs.all id)) H) allD:=by
 intro xs H ds d Q r e q;unfold allD at e
 split at e
 · split at e
   · rename_i bs hbs;cases e;obtain ⟨v,rfl,r1⟩:=r.one;obtain ⟨p,ys,rfl,hp,_,ry⟩:=r1.lstE;rw [Q2 hbs] at ry;have:=Jt ry;subst this;exact ⟨p,bs,rfl,.of hp,q _ (uD _)⟩
   · cases e
 · cases e
end
end M
namespace M
open PySem PySem.Spec L2
open PyProof.Rows hiding St
open PySem.SeqAt (EqAt RcAt RcNeAt)
mutual
theorem D.ind {P:D->Prop} (h0:P .non) (h1: ∀b,P (.bl b)) (h2: ∀i,P (.int i)) (h3: ∀x,P (.str x)) (h4: ∀ds,(∀d∈ds,P d)->P (.tup ds)) (h5: ∀ds,(∀d∈ds,P d)->P (.lst ds))
  (h6: ∀ds,(∀d∈ds,P d)->P (.scr ds)) (h7:(∀ks ds,(∀d∈ds,P d)->P (.dic ks ds))/\(∀ks ds,(∀d∈ds,P d)->P (.dit ks ds))/\(∀c,P (.exn c))/\(∀ks ds,(∀d∈ds,P d)->P (.fdc ks ds))/\(∀ks ds,(∀d∈ds,P d)->P (.hdc ks ds))/\ ∀c ns ds,(∀d∈ds,P d)->P (.obj c ns ds)): ∀d,P d
 | .non=>h0
 | .bl b=>h1 b
 | .int i=>h2 i
 | .str x=>h3 x
 | .tup ds=>h4 ds (D.inds h0 h1 h2 h3 h4 h5 h6 h7 ds)
 | .lst ds=>h5 ds (D.inds h0 h1 h2 h3 h4 h5 h6 h7 ds)
 | .scr ds=>h6 ds (D.inds h0 h1 h2 h3 h4 h5 h6 h7 ds)
 | .dic ks ds=>h7.1 ks ds (D.inds h0 h1 h2 h3 h4 h5 h6 h7 ds)
 | .dit ks ds=>h7.2.1 ks ds (D.inds h0 h1 h2 h3 h4 h5 h6 h7 ds)
 | .exn c=>h7.2.2.1 c
 | .fdc ks ds=>h7.2.2.2.1 ks ds (D.inds h0 h1 h2 h3 h4 h5 h6 h7 ds)
 | .hdc ks ds=>h7.2.2.2.2.1 ks ds (D.inds h0 h1 h2 h3 h4 h5 h6 h7 ds)
 | .obj c ns ds=>h7.2.2.2.2.2 c ns ds (D.inds h0 h1 h2 h3 h4 h5 h6 h7 ds)
theorem D.inds {P:D->Prop} (h0:P .non) (h1: ∀b,P (.bl b)) (h2: ∀i,P (.int i)) (h3: ∀x,P (.str x)) (h4: ∀ds,(∀d∈ds,P d)->P (.tup ds)) (h5: ∀ds,(∀d∈ds,P d)->P (.lst ds))
  (h6: ∀ds,(∀d∈ds,P d)->P (.scr ds)) (h7:(∀ks ds,(∀d∈ds,P d)->P (.dic ks ds))/\(∀ks ds,(∀d∈ds,P d)->P (.dit ks ds))/\(∀c,P (.exn c))/\(∀ks ds,(∀d∈ds,P d)->P (.fdc ks ds))/\(∀ks ds,(∀d∈ds,P d)->P (.hdc ks ds))/\ ∀c ns ds,(∀d∈ds,P d)->P (.obj c ns ds)): ∀ds:List D,∀d∈ds,P d
 | [],_,h=>by cases h
 |x::r,d,h=>by
  have p:=D.ind h0 h1 h2 h3 h4 h5 h6 h7 x;have q:=D.inds h0 h1 h2 h3 h4 h5 h6 h7 r;rcases aaw.mp h with z|z
  · rw [z];exact p
  · exact q d z
end
mutual
def D.dep:D->Nat
 | .tup ds=>D.deps ds+1
 | .lst ds=>D.deps ds+1
 |_=>0
def D.deps:List D->Nat
 | []=>0
 |d::ds=>max (D.dep d) (D.deps ds)
end
mutual
def D.eqb:D->Bool
 | .scr _=>false
 | .dic _ _=>false
 | .dit _ _=>false
 | .exn _=>false
 | .fdc _ _=>false
 | .hdc _ _=>false
 | .obj _ _ _=>false
 | .tup ds=>D.eqbs ds
 | .lst ds=>D.eqbs ds
 |_=>true
def D.eqbs:List D->Bool
 | []=>true
 |d::ds=>D.eqb d&&D.eqbs ds
end
mutual
def eqD:D->D->Bool
 | .non,.non=>true
 | .bl a,.bl b=>a==b
 | .bl a,.int j=>(if a then 1 else 0)==j
 | .int i,.bl b=>i==(if b then 1 else 0)
 | .int i,.int j=>i==j
 | .str x,.str y=>x==y
 | .tup a,.tup b=>eqDs a b
 | .lst a,.lst b=>eqDs a b
 |_,_=>false
def eqDs:List D->List D->Bool
 | [],[]=>true
 |a::as,b::bs=>eqD a b&&eqDs as bs
 |_,_=>false
end
theorem xR: ∀ {ds:List D} {d:D},d∈ds->D.dep d<=D.deps ds
 |x::r,d,h=>by
  simp only [D.deps];rcases aaw.mp h with rfl|h
  · omega
  · have:=xR h;omega
theorem Qc: ∀ {ds:List D} {d:D},D.eqbs ds=true->d∈ds->D.eqb d=true
 |x::r,d,hb,h=>by
  simp only [D.eqbs,aal] at hb;rcases aaw.mp h with rfl|h
  · exact hb.1
  · exact Qc hb.2 h
theorem wN: ∀ {ds:List D},(∀d∈ds,D.eqb d=true->eqD d d=true)->D.eqbs ds=true->eqDs ds ds=true
 | [],_,_=>by simp [eqDs]
 |d::ds,h,hb=>by
  simp only [D.eqbs,aal] at hb;simp only [eqDs,aal];exact ⟨h d aaV hb.1,wN (fun x hx=>h x (aaI _ hx)) hb.2⟩
def Ww (d:D):D.eqb d=true->eqD d d=true:=by
 refine D.ind (P:=fun d=>D.eqb d=true->eqD d d=true) ?_ ?_ ?_ ?_ ?_ ?_ ?_ ?_ d
 · intro _;simp [eqD]
 · intro b _;simp [eqD]
 · intro i _;simp [eqD]
 · intro x _;simp [eqD]
 · intro ds ih hb;simp only [eqD];exact wN ih (by simpa only [D.eqb] using hb)
 · intro ds ih hb;simp only [eqD];exact wN ih (by simpa only [D.eqb] using hb)
 · intro ds ih hb;simp [D.eqb] at hb
 · exact ⟨by intro ks ds ih hb;simp [D.eqb] at hb,by intro ks ds ih hb;simp [D.eqb] at hb,by intro c hb;simp [D.eqb] at hb,by intro ks ds ih hb;simp [D.eqb] at hb,by intro ks ds ih hb;simp [D.eqb] at hb,by intro c ns ds ih hb;simp [D.eqb] at hb⟩
section
variable {K:aaa} {H:Hp}
theorem Reps.inj_of: ∀ {A A':Zi} {vs:List V} {ds ds':List D},(∀d∈ds,∀(A A':Zi) v d',D.eqb d=true->D.eqb d'=true->Rep K A H v d->Rep K A' H v d'->d=d')->D.eqbs ds=true->D.eqbs ds'=true->Reps K A H vs ds->Reps K A' H vs ds'->ds=ds'
 |_,_,_,_,_,_,_,_,.nil,.nil=>rfl
 |_,_,_,_,_,h,hb,hb',.cons r t,.cons r' t'=>by
  simp only [D.eqbs,aal] at hb hb';rw [h _ aaV _ _ _ _ hb.1 hb'.1 r r',Reps.inj_of (fun d hd=>h d (aaI _ hd)) hb.2 hb'.2 t t']
def Rep.inj (d:D): ∀(A A':Zi) v d',D.eqb d=true->D.eqb d'=true->Rep K A H v d->Rep K A' H v d'->d=d':=by
 refine D.ind (P:=fun d=> ∀(A A':Zi) v d',D.eqb d=true->D.eqb d'=true->Rep K A H v d->Rep K A' H v d'->d=d') ?_ ?_ ?_ ?_ ?_ ?_ ?_ ?_ d
 · intro A A' v d' _ _ r r';cases r.nonE;cases r';rfl
 · intro b A A' v d' _ _ r r';cases r.blE;cases r';rfl
 · intro b A A' v d' _ _ r r';cases r.intE;cases r';rfl
 · intro b A A' v d' _ _ r r';cases r.strE.1;cases r';rfl
 · intro ds ih A A' v d' hb hd' r r';obtain ⟨a,xs,rfl,ha,rs⟩:=r.tupE;have hb':D.eqbs ds=true:=by simpa only [D.eqb] using hb
   cases r' with
   |tup e rs'=>
    rw [ha] at e;cases e;rw [Reps.inj_of ih hb' (by simpa only [D.eqb] using hd') rs rs']
   |lst e _ _=>rw [ha] at e;cases e
   |lsk e _=>simp [D.eqb] at hd'
   |dic e _ _ _ _=>rw [ha] at e;cases e
   |dit e _ _ _ _=>rw [ha] at e;cases e
   |exn e _ _=>rw [ha] at e;cases e
   |fdc e _ _ _=>rcases e with ⟨e,_⟩| ⟨o,e⟩<;>(rw [ha] at e;cases e)
   |hdc e _ _ _=>obtain ⟨o,e⟩:=e;rw [ha] at e;cases e
   |obj e _ _ _ _=>rw [ha] at e;cases e
 · intro ds ih A A' v d' hb hd' r r';obtain ⟨a,xs,rfl,ha,_,rs⟩:=r.lstE;have hb':D.eqbs ds=true:=by simpa only [D.eqb] using hb
   cases r' with
   |tup e rs'=>rw [ha] at e;cases e
   |lst e _ rs'=>
    rw [ha] at e;cases e;rw [Reps.inj_of ih hb' (by simpa only [D.eqb] using hd') rs rs']
   |lsk e _=>simp [D.eqb] at hd'
   |dic e _ _ _ _=>rw [ha] at e;cases e
   |dit e _ _ _ _=>rw [ha] at e;cases e
   |exn e _ _=>rw [ha] at e;cases e
   |fdc e _ _ _=>rcases e with ⟨e,_⟩| ⟨o,e⟩<;>(rw [ha] at e;cases e)
   |hdc e _ _ _=>obtain ⟨o,e⟩:=e;rw [ha] at e;cases e
   |obj e _ _ _ _=>rw [ha] at e;cases e
 · intro ds ih A A' v d' hb;simp [D.eqb] at hb
 · exact ⟨by intro ks ds ih A A' v d' hb;simp [D.eqb] at hb,by intro ks ds ih A A' v d' hb;simp [D.eqb] at hb,by intro c A A' v d' hb;simp [D.eqb] at hb,by intro ks ds ih A A' v d' hb;simp [D.eqb] at hb,by intro ks ds ih A A' v d' hb;simp [D.eqb] at hb,by intro c ns ds ih A A' v d' hb;simp [D.eqb] at hb⟩
end
def YU (a b:List D) (j:Nat):Bool:=match a[j]?,b[j]? with
 |some x,some y=>eqD x y
 |_,_=>true
theorem xk: ∀(a b:List D),a.length=b.length->eqDs a b=(aa0 a.length).all (YU a b)
 | [],[],_=>by simp [eqDs]
 |x::a,y::b,h=>by
  have hl:a.length=b.length:=by simpa using h
  rw [aab,ab0,acG,List.all_map];simp only [eqDs];rw [xk a b hl];congr 1
theorem xO: ∀(a b:List D),a.length≠b.length->eqDs a b=false
 | [],[],h=>absurd rfl h
 | [],y::b,_=>by simp [eqDs]
 |x::a,[],_=>by simp [eqDs]
 |x::a,y::b,h=>by
  simp only [eqDs];rw [xO a b (by simpa using h),Bool.and_false]
def Wv (a b:List D):eqDs a b=((aa0 (min a.length b.length)).all (YU a b)&&a.length==b.length):=by
 by_cases h:a.length=b.length
 · rw [xk a b h,h];simp
 · rw [xO a b h];simp [h]
section
variable {X:Cx} {pins:List (Addr×Obj)} {σ:L2.St} {H:Hp} {s:aaf}
inductive Cm (X:Cx) (H:Hp) (s:aaf):Value->D->Prop where
 |non:Cm X H s .none .non
 |bl (b:Bool):Cm X H s (.bool b) (.bl b)
 |int (i:Int) (t:Tok):Cm X H s (.int i t) (.int i)
 |str (x:Str) (t:Tok):Cm X H s (.str x t) (.str x)
 |tup {a:Addr} {xs:List V} {its:List Value} {ds:List D}:H a=some (.tup xs)->s.heap.IsTuple a its.toArray->Vals xs its->Reps X.K Any H xs ds->Cm X H s (.ref a) (.tup ds)
 |lst {a:Addr} {xs:List V} {its:List Value} {ds:List D}:H a=some (.lst xs)->s.heap.IsList a its.toArray->Vals xs its->Reps X.K Any H xs ds->Cm X H s (.ref a) (.lst ds)
def xS (I:Inv X pins σ H s) {v:V} {u:Value} {d:D} (r:Rep X.K Any H v d) (ru:RelV v u) (hb:D.eqb d=true):Cm X H s u d:=by
 cases r with
 |non=>cases ru;exact .non
 |bl b=>cases ru;exact .bl b
 |int i=>obtain ⟨t,rfl⟩:=ru;exact .int i t
 |str x _=>obtain ⟨t,rfl⟩:=ru;exact .str x t
 |tup e rs=>
  cases ru;obtain ⟨its,rv,p,hz⟩:=I.tuple (.of e);exact .tup e p rv rs
 |lst e _ rs=>
  cases ru;obtain ⟨its,rv,p,hz⟩:=I.list (.of e);exact .lst e p.isList rv rs.low
 |lsk _ _=>simp [D.eqb] at hb
 |dic _ _ _ _ _=>simp [D.eqb] at hb
 |dit _ _ _ _ _=>simp [D.eqb] at hb
 |exn _ _ _=>simp [D.eqb] at hb
 |fdc _ _ _ _=>simp [D.eqb] at hb
 |hdc _ _ _ _=>simp [D.eqb] at hb
 |obj _ _ _ _ _=>simp [D.eqb] at hb
def Vf {A:aa5} {xs ys:List V} {its its2:List Value} {a b:List D} (ra:Reps X.K Any H xs a) (rb:Reps X.K Any H ys b) (va:Vals xs its) (vb:Vals ys its2)
  (ih: ∀d∈a,∀(v v':V) (u u':Value) (d':D),Rep X.K Any H v d->RelV v u->Rep X.K Any H v' d'->RelV v' u'->D.eqb d=true->D.eqb d'=true->EqAt A.in1 s u u' (eqD d d')) (ha:D.eqbs a=true) (hb:D.eqbs b=true):
  ∀j (h1:j<its.toArray.size) (h2:j<its2.toArray.size),EqAt A.in1 s its.toArray[j] its2.toArray[j] (YU a b j):=by
 intro j h1 h2;have l1:=va.length;have l2:=vb.length;have l3:=ra.length;have l4:=rb.length;have j1:j<a.length:=by simp at h1;omega
 have j2:j<b.length:=by simp at h2;omega
 obtain ⟨v,e1,r1⟩:=ra.get (aaD j1);obtain ⟨v',e2,r2⟩:=rb.get (aaD j2);obtain ⟨u,e3,r3⟩:=va.get e1;obtain ⟨u',e4,r4⟩:=vb.get e2
 have g1:its.toArray[j]=u:=by
  have:=aaq.mp e3;obtain ⟨_,q⟩:=this;simpa using q
 have g2:its2.toArray[j]=u':=by
  have:=aaq.mp e4;obtain ⟨_,q⟩:=this;simpa using q
 rw [g1,g2];have e:YU a b j=eqD a[j] b[j]:=by unfold YU;rw [aaD j1,aaD j2]
 rw [e];exact ih _ (abM j1) v v' u u' _ r1 r3 r2 r4 (Qc ha (abM j1)) (Qc hb (abM j2))
def Wx (I:Inv X pins σ H s) (d:D): ∀(A:aa5) (v v':V) (u u':Value) (d':D),A.units+d.dep<cLine->Rep X.K Any H v d->RelV v u->Rep X.K Any H v' d'->RelV v' u'->D.eqb d=true->D.eqb d'=true->EqAt A s u u' (eqD d d'):=by
 refine D.ind (P:=fun d=> ∀(A:aa5) (v v':V) (u u':Value) (d':D),A.units+d.dep<cLine->Rep X.K Any H v d->RelV v u->Rep X.K Any H v' d'->RelV v' u'->D.eqb d=true->D.eqb d'=true->EqAt A s u u' (eqD d d')) ?_ ?_ ?_ ?_ ?_ ?_ ?_ ?_ d
 · intro A v v' u u' d' hu r ru r' ru' hb hb';cases xS I r ru hb;have hu':A.units<cLine:=by simp only [D.dep] at hu;omega
   cases xS I r' ru' hb'<;>simp only [eqD]
   · exact EqAt.same _
   · exact EqAt.none_bool _
   · exact EqAt.none_int _ _
   · exact EqAt.none_str _ _
   · exact EqAt.none_tuple (by assumption) hu'
   · exact EqAt.none_list (by assumption) hu'
 · intro b A v v' u u' d' hu r ru r' ru' hb hb';cases xS I r ru hb;have hu':A.units<cLine:=by simp only [D.dep] at hu;omega
   cases xS I r' ru' hb'<;>simp only [eqD]
   · exact EqAt.bool_none _
   · exact EqAt.bool_bool _ _
   · exact EqAt.bool_int _ _ _
   · exact EqAt.bool_str _ _ _
   · exact EqAt.bool_tuple _ (by assumption) hu'
   · exact EqAt.bool_list _ (by assumption) hu'
 · intro i A v v' u u' d' hu r ru r' ru' hb hb';cases xS I r ru hb;have hu':A.units<cLine:=by simp only [D.dep] at hu;omega
   cases xS I r' ru' hb'<;>simp only [eqD]
   · exact EqAt.int_none _ _
   · exact EqAt.int_bool _ _ _
   · exact EqAt.int_int _ _ _ _
   · exact EqAt.int_str _ _ _ _
   · exact EqAt.int_tuple _ _ (by assumption) hu'
   · exact EqAt.int_list _ _ (by assumption) hu'
 · intro x A v v' u u' d' hu r ru r' ru' hb hb';cases xS I r ru hb;have hu':A.units<cLine:=by simp only [D.dep] at hu;omega
   cases xS I r' ru' hb'<;>simp only [eqD]
   · exact EqAt.str_none _ _
   · exact EqAt.str_bool _ _ _
   · exact EqAt.str_int _ _ _ _
   · exact EqAt.str_str _ _ _ _
   · exact EqAt.str_tuple _ _ (by assumption) hu'
   · exact EqAt.str_list _ _ (by assumption) hu'
 · intro ds ih A v v' u u' d' hu r ru r' ru' hb hb';have hu':A.units<cLine:=by simp only [D.dep] at hu;omega
   have c1:=xS I r ru hb;have c2:=xS I r' ru' hb'
   cases c1 with
   |tup e p rv rs=>
     cases c2 with
     |non=>simp only [eqD];exact EqAt.tuple_none p hu'
     |bl b=>simp only [eqD];exact EqAt.tuple_bool _ p hu'
     |int i t=>simp only [eqD];exact EqAt.tuple_int _ _ p hu'
     |str x t=>simp only [eqD];exact EqAt.tuple_str _ _ p hu'
     |lst e2 p2 rv2 rs2=>simp only [eqD];exact EqAt.tuple_list p p2 hu'
     | @tup a2 xs2 its2 ds2 e2 p2 rv2 rs2=>
      rename_i a1 xs1 its1
      by_cases z:a1=a2
      · subst z;have ed:D.tup ds=D.tup ds2:=Rep.inj _ Any Any _ _ hb hb' (Rep.tup e rs) (Rep.tup e2 rs2);rw [←ed,Ww _ hb];exact EqAt.same _
      · have q:=RcAt.tuples (A:=A) (s:=s) p p2 hu' (Vf (A:=A) rs rs2 rv rv2 (fun d hd v v' u u' d' g1 g2 g3 g4 g5 g6=>ih d hd A.in1 v v' u u' d' (by
          have:=xR hd;simp only [D.dep] at hu;show A.units+1+d.dep<cLine
          omega) g1 g2 g3 g4 g5 g6) (by simpa only [D.eqb] using hb) (by simpa only [D.eqb] using hb'))
        have n1:its1.toArray.size=ds.length:=by rw [aac,←rv.length,rs.length]
        have n2:its2.toArray.size=ds2.length:=by rw [aac,←rv2.length,rs2.length]
        rw [n1,n2,←Wv] at q;simp only [eqD];exact EqAt.of_refs z q
 · intro ds ih A v v' u u' d' hu r ru r' ru' hb hb';have hu':A.units<cLine:=by simp only [D.dep] at hu;omega
   have c1:=xS I r ru hb;have c2:=xS I r' ru' hb'
   cases c1 with
   |lst e p rv rs=>
     cases c2 with
     |non=>simp only [eqD];exact EqAt.list_none p hu'
     |bl b=>simp only [eqD];exact EqAt.list_bool _ p hu'
     |int i t=>simp only [eqD];exact EqAt.list_int _ _ p hu'
     |str x t=>simp only [eqD];exact EqAt.list_str _ _ p hu'
     |tup e2 p2 rv2 rs2=>simp only [eqD];exact EqAt.list_tuple p p2 hu'
     | @lst a2 xs2 its2 ds2 e2 p2 rv2 rs2=>
      rename_i a1 xs1 its1;have n1:its1.toArray.size=ds.length:=by rw [aac,←rv.length,rs.length]
      have n2:its2.toArray.size=ds2.length:=by rw [aac,←rv2.length,rs2.length]
      by_cases z:a1=a2
      · subst z
        have ed:D.lst ds=D.lst ds2:=by
          rw [e] at e2;cases e2;rw [Reps.inj_of (fun d _ A A' v d'=>Rep.inj d A A' v d') (by simpa only [D.eqb] using hb) (by simpa only [D.eqb] using hb') rs rs2]
        rw [←ed,Ww _ hb];exact EqAt.same _
      · simp only [eqD]
        by_cases hl:ds.length=ds2.length
        · have q:=RcAt.lists (A:=A) (s:=s) p p2 (by rw [n1,n2];exact hl) hu' (Vf (A:=A) rs rs2 rv rv2 (fun d hd v v' u u' d' g1 g2 g3 g4 g5 g6=>ih d hd A.in1 v v' u u' d' (by
           have:=xR hd;simp only [D.dep] at hu;show A.units+1+d.dep<cLine
           omega) g1 g2 g3 g4 g5 g6) (by simpa only [D.eqb] using hb) (by simpa only [D.eqb] using hb'))
          rw [n1,←xk ds ds2 hl] at q;exact EqAt.of_refs z q
        · rw [xO ds ds2 hl];exact EqAt.of_refs z (RcAt.lists_lengths p p2 (by rw [n1,n2];simp [hl]) hu')
 · intro ds ih A v v' u u' d' hu r ru r' ru' hb;simp [D.eqb] at hb
 · exact ⟨by intro ks ds ih A v v' u u' d' hu r ru r' ru' hb;simp [D.eqb] at hb,by intro ks ds ih A v v' u u' d' hu r ru r' ru' hb;simp [D.eqb] at hb,by intro c A v v' u u' d' hu r ru r' ru' hb;simp [D.eqb] at hb,by intro ks ds ih A v v' u u' d' hu r ru r' ru' hb;simp [D.eqb] at hb,by intro ks ds ih A v v' u u' d' hu r ru r' ru' hb;simp [D.eqb] at hb,by intro c ns ds ih A v v' u u' d' hu r ru r' ru' hb;simp [D.eqb] at hb⟩
def Z3 (I:Inv X pins σ H s) {A:aa5} {v v':V} {u u':Value} {d d':D} (hu:A.units+d.dep<cLine) (r:Rep X.K Any H v d) (ru:RelV v u) (r':Rep X.K Any H v' d') (ru':RelV v' u') (hb:D.eqb d=true) (hb':D.eqb d'=true):
  RcAt A s u u' (eqD d d')/\RcNeAt A s u u' (!eqD d d'):=by
 have hu':A.units<cLine:=by omega
 have c1:=xS I r ru hb;have c2:=xS I r' ru' hb'
 cases c1 with
 |non=>
  cases c2<;>simp only [eqD,abV,aaQ]
  · exact ⟨RcAt.none_none,RcNeAt.none_none⟩
  · exact ⟨RcAt.none_bool _,RcNeAt.none_bool _⟩
  · exact ⟨RcAt.none_int _ _,RcNeAt.none_int _ _⟩
  · exact ⟨RcAt.none_str _ _,RcNeAt.none_str _ _⟩
  · exact ⟨RcAt.none_tuple (by assumption) hu',RcNeAt.none_tuple (by assumption) hu'⟩
  · exact ⟨RcAt.none_list (by assumption) hu',RcNeAt.none_list (by assumption) hu'⟩
 |bl b=>
  cases c2<;>simp only [eqD,abV,aaQ]
  · exact ⟨RcAt.bool_none _,RcNeAt.bool_none _⟩
  · exact ⟨RcAt.bool_bool _ _,RcNeAt.bool_bool _ _⟩
  · exact ⟨RcAt.bool_int _ _ _,RcNeAt.bool_int _ _ _⟩
  · exact ⟨RcAt.bool_str _ _ _,RcNeAt.bool_str _ _ _⟩
  · exact ⟨RcAt.bool_tuple _ (by assumption) hu',RcNeAt.bool_tuple _ (by assumption) hu'⟩
  · exact ⟨RcAt.bool_list _ (by assumption) hu',RcNeAt.bool_list _ (by assumption) hu'⟩
 |int i t=>
  cases c2<;>simp only [eqD,abV,aaQ]
  · exact ⟨RcAt.int_none _ _,RcNeAt.int_none _ _⟩
  · exact ⟨RcAt.int_bool _ _ _,RcNeAt.int_bool _ _ _⟩
  · exact ⟨RcAt.int_int _ _ _ _,RcNeAt.int_int _ _ _ _⟩
  · exact ⟨RcAt.int_str _ _ _ _,RcNeAt.int_str _ _ _ _⟩
  · exact ⟨RcAt.int_tuple _ _ (by assumption) hu',RcNeAt.int_tuple _ _ (by assumption) hu'⟩
  · exact ⟨RcAt.int_list _ _ (by assumption) hu',RcNeAt.int_list _ _ (by assumption) hu'⟩
 |str x t=>
  cases c2<;>simp only [eqD,abV,aaQ]
  · exact ⟨RcAt.str_none _ _,RcNeAt.str_none _ _⟩
  · exact ⟨RcAt.str_bool _ _ _,RcNeAt.str_bool _ _ _⟩
  · exact ⟨RcAt.str_int _ _ _ _,RcNeAt.str_int _ _ _ _⟩
  · exact ⟨RcAt.str_str _ _ _ _,RcNeAt.str_str _ _ _ _⟩
  · exact ⟨RcAt.str_tuple _ _ (by assumption) hu',RcNeAt.str_tuple _ _ (by assumption) hu'⟩
  · exact ⟨RcAt.str_list _ _ (by assumption) hu',RcNeAt.str_list _ _ (by assumption) hu'⟩
 | @tup a1 xs1 its1 ds e p rv rs=>
  cases c2 with
  |non=>simp only [eqD,aaQ];exact ⟨RcAt.tuple_none p hu',RcNeAt.tuple_none p hu'⟩
  |bl b=>simp only [eqD,aaQ];exact ⟨RcAt.tuple_bool _ p hu',RcNeAt.tuple_bool _ p hu'⟩
  |int i t=>simp only [eqD,aaQ];exact ⟨RcAt.tuple_int _ _ p hu',RcNeAt.tuple_int _ _ p hu'⟩
  |str x t=>simp only [eqD,aaQ];exact ⟨RcAt.tuple_str _ _ p hu',RcNeAt.tuple_str _ _ p hu'⟩
  |lst e2 p2 rv2 rs2=>simp only [eqD,aaQ];exact ⟨RcAt.tuple_list p p2 hu',RcNeAt.tuple_list p p2 hu'⟩
  | @tup a2 xs2 its2 ds2 e2 p2 rv2 rs2=>
    have n1:its1.toArray.size=ds.length:=by rw [aac,←rv.length,rs.length]
    have n2:its2.toArray.size=ds2.length:=by rw [aac,←rv2.length,rs2.length]
    have el:=Vf (A:=A) (s:=s) rs rs2 rv rv2 (fun d hd v v' u u' d' g1 g2 g3 g4 g5 g6=>Wx I d A.in1 v v' u u' d' (by
      have:=xR hd;simp only [D.dep] at hu;show A.units+1+d.dep<cLine
      omega) g1 g2 g3 g4 g5 g6) (by simpa only [D.eqb] using hb) (by simpa only [D.eqb] using hb')
    have q:=RcAt.tuples p p2 hu' el;have q2:=RcNeAt.tuples p p2 hu' el;rw [n1,n2,←Wv] at q q2;simp only [eqD];exact ⟨q,q2⟩
 | @lst a1 xs1 its1 ds e p rv rs=>
  cases c2 with
  |non=>simp only [eqD,aaQ];exact ⟨RcAt.list_none p hu',RcNeAt.list_none p hu'⟩
  |bl b=>simp only [eqD,aaQ];exact ⟨RcAt.list_bool _ p hu',RcNeAt.list_bool _ p hu'⟩
  |int i t=>simp only [eqD,aaQ];exact ⟨RcAt.list_int _ _ p hu',RcNeAt.list_int _ _ p hu'⟩
  |str x t=>simp only [eqD,aaQ];exact ⟨RcAt.list_str _ _ p hu',RcNeAt.list_str _ _ p hu'⟩
  |tup e2 p2 rv2 rs2=>simp only [eqD,aaQ];exact ⟨RcAt.list_tuple p p2 hu',RcNeAt.list_tuple p p2 hu'⟩
  | @lst a2 xs2 its2 ds2 e2 p2 rv2 rs2=>
    have n1:its1.toArray.size=ds.length:=by rw [aac,←rv.length,rs.length]
    have n2:its2.toArray.size=ds2.length:=by rw [aac,←rv2.length,rs2.length]
    simp only [eqD]
    by_cases hl:ds.length=ds2.length
    · have el:=Vf (A:=A) (s:=s) rs rs2 rv rv2 (fun d hd v v' u u' d' g1 g2 g3 g4 g5 g6=>Wx I d A.in1 v v' u u' d' (by
       have:=xR hd;simp only [D.dep] at hu;show A.units+1+d.dep<cLine
       omega) g1 g2 g3 g4 g5 g6) (by simpa only [D.eqb] using hb) (by simpa only [D.eqb] using hb')
      have q:=RcAt.lists p p2 (by rw [n1,n2];exact hl) hu' el;have q2:=RcNeAt.lists p p2 (by rw [n1,n2];exact hl) hu' el;rw [n1,←xk ds ds2 hl] at q q2;exact ⟨q,q2⟩
    · rw [xO ds ds2 hl];exact ⟨RcAt.lists_lengths p p2 (by rw [n1,n2];simp [hl]) hu',RcNeAt.lists_lengths p p2 (by rw [n1,n2];simp [hl]) hu'⟩
end
section
variable {X:Cx}
def Jk:D->D->Bool
 | .lst a,.lst b=>a.length !=b.length
 |_,_=>false
def Qr {a b:D} (h:Jk a b=true):eqD a b=false:=by
 unfold Jk at h
 split at h
 · simp only [eqD];exact xO _ _ (by simpa using h)
 · cases h
def EqC (a b:D):Prop:=(D.eqb a=true/\D.eqb b=true/\a.dep<=190)\/Jk a b=true
instance (a b:D):Decidable (EqC a b):=inferInstanceAs (Decidable (_\/_))
def rEqD (K:aaa) (neg:Bool):R2:=fun x y H Q=> ∃a b,Rep K Any H x a/\Rep K Any H y b/\EqC a b/\Q (.bl (if neg then !eqD a b else eqD a b)) H
def Qs {pins:List (Addr×Obj)} {σ:L2.St} {H:Hp} {s:aaf} (I:Inv X pins σ H s) {A:aa5} {v v':V} {u u':Value} {d d':D} (hu:A.units<cLine) (r:Rep X.K Any H v d) (ru:RelV v u) (r':Rep X.K Any H v' d') (ru':RelV v' u') (h:Jk d d'=true):
   RcAt A s u u' false/\RcNeAt A s u u' true:=by
 unfold Jk at h
 split at h
 · obtain ⟨a,xs,rfl,ha,_,rs⟩:=r.lstE;obtain ⟨a',xs',rfl,ha',_,rs'⟩:=r'.lstE;cases ru;cases ru';obtain ⟨its,rv,p,_⟩:=I.list (.of ha);obtain ⟨its',rv',p',_⟩:=I.list (.of ha')
   have e:(its.toArray.size !=its'.toArray.size)=true:=by
    rw [aac,aac,←rv.length,←rv'.length,rs.length,rs'.length];exact h
   exact ⟨RcAt.lists_lengths p.isList p'.isList e hu,RcNeAt.lists_lengths p.isList p'.isList e hu⟩
 · cases h
def yI (hu:X.A.units+200<cLine):OpR X (abd .Eq) (rEqD X.K false):=by
 intro pins s σ H x y v u Q I rx ry ⟨a,b,ra,rb,hc,q⟩;rcases hc with ⟨ha,hb,hd⟩|hc
 · exact (Z3 I (A:=X.A) (by omega) ra rx rb ry ha hb).1 X.prog X.w X.xe _ ⟨.bl _,H,I,rfl,q⟩
 · have q':Q (.bl false) H:=by have:=Qr hc;simpa [this] using q
   exact (Qs I (A:=X.A) (by omega) ra rx rb ry hc).1 X.prog X.w X.xe _ ⟨.bl _,H,I,rfl,q'⟩
def Wc (hu:X.A.units+200<cLine):OpR X (abd .NotEq) (rEqD X.K true):=by
 intro pins s σ H x y v u Q I rx ry ⟨a,b,ra,rb,hc,q⟩;rcases hc with ⟨ha,hb,hd⟩|hc
 · exact (Z3 I (A:=X.A) (by omega) ra rx rb ry ha hb).2 X.prog X.w X.xe _ ⟨.bl _,H,I,rfl,q⟩
 · have q':Q (.bl true) H:=by have:=Qr hc;simpa [this] using q
   exact (Qs I (A:=X.A) (by omega) ra rx rb ry hc).2 X.prog X.w X.xe _ ⟨.bl _,H,I,rfl,q'⟩
def eqR (a b:D):Res D:=must (EqC a b) (.ok (.bl (eqD a b)))
def neR (a b:D):Res D:=must (EqC a b) (.ok (.bl (!eqD a b)))
def Zx {K:aaa}:OpS K (rEqD K false) eqR:=fun x y H a b d Q ra rb e q=>by
 obtain ⟨h1,e2⟩:=jn e;cases e2;exact ⟨a,b,ra,rb,h1,q _ (uD _)⟩
def KQ {K:aaa}:OpS K (rEqD K true) neR:=fun x y H a b d Q ra rb e q=>by
 obtain ⟨h1,e2⟩:=jn e;cases e2;exact ⟨a,b,ra,rb,h1,q _ (uD _)⟩
def Room.u200 {k:Nat} {A:aa5} (r:Room k A):A.units+200<cLine:=by have:=r.un;omega
end
end M
namespace M
open PySem PySem.Spec L2
open PyProof.Rows hiding St
section
variable {X:Cx} {K:aaa}
def J7 {prog:aaE} {w:World} {A:aa5} {E:XU} {s:aaf} {t sl:Addr} {items:Array Value} {vl vu:Value} {lo hi:Option Int} {Q:XU} (ht:IsTup s.heap t items) (hs:s.heap.IsSliceOf sl vl vu .none) (pl:IsPart vl lo) (pu:IsPart vu hi)
  (hw:HT.sIx items.size 0 lo=0/\HT.sIx items.size items.size hi=items.size) (h:Q (.ref t) s):wpAny (model prog w) A (getItem (.ref t) (.ref sl)) Q E s:=by
 obtain ⟨os,hos,hcs,hds⟩:=id hs;have hTs:s.TypeIs (.ref sl) "slice" :=⟨os,hos,hcs⟩
 unfold getItem
 try with_reducible refine wpAny_holding ?_
 first|refine aap (aax ?_)|skip
 refine aap (wpAny_sequenceKey ht.typeIs (by decide) ?_)
 refine aap (wpAny_callSpecial?_slot (name:=aav "__getitem__") ht.typeIs aaF
  (wpAny_call_entry aaF ht.typeIs entry_tuple_getitem ?_ (args_tuple_getitem _ _)))
 show wpAny _ _ (act (.ref t)>>=_) _ _ s;refine aap (tupleItemsOf_ ht ?_);refine aap (wpAny_typeOf hTs ?_);rw [if_pos (by decide)];refine aap (HT.sliceApplied_gen hs pl pu ?_)
 have hyes:(((HT.sIx items.size 0 lo:Nat):Int)==0&&(1:Int)==1&&(HT.sIx items.size items.size hi-HT.sIx items.size 0 lo)==items.size)=true:=by
  rw [hw.1,hw.2];simp
 show wpAny _ _ (if (((HT.sIx items.size 0 lo:Nat):Int)==0&&(1:Int)==1&&(HT.sIx items.size items.size hi-HT.sIx items.size 0 lo)==items.size)=true then _ else _) _ _ s;rw [if_pos hyes];show wpAny _ _ (acu (.ref t)>>=_) _ _ s;unfold acu;refine aap (aap (wpAny_typeOf ht.typeIs (aax ?_)));show wpAny _ _ (if (acV "tuple" ==acV "tuple")=true then _ else _) _ _ s;rw [if_pos (by decide)]
 first
  |exact aap (wpAny_rule (aap (aax (aax ⟨_,rfl,aax h⟩))))
  |exact aap (wpAny_rule (aax ⟨_,rfl,aax h⟩))
  |exact aap (wpAny_rule (aap (aax ⟨_,rfl,aax h⟩)))
def rSlW (K:aaa):V->Option Int->Option Int->Hp->VK->Prop:=fun x lo hi H Q=> ∃a xs,x= .ref a/\SqT K H a xs/\(HT.sIx xs.length 0 lo=0/\HT.sIx xs.length xs.length hi=xs.length)/\Q (.ref a) H
def sl_whole:SlR X (rSlW X.K):=by
 intro pins s σ H x v vl vu lo hi sl Q I rx hs pl pu ⟨a,xs,ex,hx,hw,q⟩;subst ex;cases rx;obtain ⟨its,r,ht,hz⟩:=I.tuple hx;have hlen:its.toArray.size=xs.length:=by rw [aac];exact r.length.symm
 exact ⟨"tuple",_,aaF.lookup,ht.typeIs,J7 ht hs pl pu (by rw [hlen];exact hw) ⟨.ref a,H,I,rfl,q⟩⟩
def cutS (z:Str) (lo hi:Option Int):Str:=
 if ((aai lo hi 1 z.length).length==z.length)=true then z else ⟨((aai lo hi 1 z.length).filterMap (z.cps[·]?)).toArray⟩
def WE (z:Str) (lo hi:Option Int):(cutS z lo hi).length<=z.length:=by
 unfold cutS
 split
 · exact aan _
 · show ((aai lo hi 1 z.length).filterMap (z.cps[·]?)).toArray.size<=z.length;rw [aac];exact aau (List.length_filterMap_le _ _) (PyProof.Rows.indices_len_le lo hi z.length)
def rSlS:V->Option Int->Option Int->Hp->VK->Prop:=fun x lo hi H Q=> ∃z,x= .str z/\z.length<=aae/\Q (.str (cutS z lo hi)) H
def Ye {v:Value} {o:Option Int} (h:IsPart v o): ∃p:Option (Int×Tok),v=partValue p/\p.map (·.1)=o:=by
 cases h with
 |none=>exact ⟨none,rfl,rfl⟩
 |int i t=>exact ⟨some (i,t),rfl,rfl⟩
def kl:SlR X rSlS:=by
 intro pins s σ H x v vl vu lo hi sl Q I rx hs pl pu ⟨z,ex,hz,q⟩;subst ex;obtain ⟨t,rfl⟩:=rx;obtain ⟨l,rfl,el⟩:=Ye pl;obtain ⟨u,rfl,eu⟩:=Ye pu;refine ⟨"str",_,F.slot_str_getitem.lookup,typeIs_str s z t,wpAny_getItem_str_slice (l:=l) (u:=u) (st:=none) hs rfl ?_⟩;have hp:slicePicked z l u none=aai lo hi 1 z.length:=by unfold slicePicked;rw [el,eu];rfl
 unfold sliceMade;rw [hp]
 by_cases hc:((aai lo hi 1 z.length).length==z.length)=true
 · have e:cutS z lo hi=z:=by unfold cutS;rw [if_pos hc]
   rw [e] at q;rw [if_pos (by simpa using hc)];exact ⟨.str z,H,I,⟨t,rfl⟩,q⟩
 · have e:cutS z lo hi=⟨((aai lo hi 1 z.length).filterMap (z.cps[·]?)).toArray⟩:=by unfold cutS;rw [if_neg hc]
   have hl:=WE z lo hi;rw [e] at q hl;rw [if_neg (by simpa using hc)];exact ⟨aau hl hz,.str _,H,I.tok _,⟨_,rfl⟩,q⟩
def slD:D->Option Int->Option Int->Res D
 | .tup ds,lo,hi=>(.ok (.tup (cutD ds lo hi)))
 | .lst ds,lo,hi=>(.ok (.lst (cutD ds lo hi)))
 | .str z,lo,hi=> .ok (.str (cutS z lo hi))
 |_,_,_=> .stuck
def Y8 {ds:List D} {lo hi:Option Int} (h1:HT.sIx ds.length 0 lo=0) (h2:HT.sIx ds.length ds.length hi=ds.length):cutD ds lo hi=ds:=by
 unfold cutD;rw [h1,h2];simp
def VX {A:Zi} {x:V} {H:Hp} {a d:D} {lo hi:Option Int} {Q:VK} (r3:Rep X.K A H x a) (e4:slD a lo hi= .ok d) (q: ∀v H',Same H H'->Rep X.K (fun c=>H c=none\/A c) H' v d->NewTop H v->Q v H'):
  rSlT X.K x lo hi H Q\/rSlW X.K x lo hi H Q\/rSlL X.K x lo hi H Q\/rSlS x lo hi H Q:=by
 cases a with
 |tup ds=>
  cases e4;obtain ⟨b,xs,rfl,hb,rs⟩:=r3.tupE;have hl:=rs.length
  by_cases hw:HT.sIx xs.length 0 lo=0/\HT.sIx xs.length xs.length hi=xs.length
  · refine .inr (.inl ⟨b,xs,rfl,.of hb,hw,?_⟩);rw [hl] at hw;rw [Y8 hw.1 hw.2] at q;exact q _ H (Same.refl H) (.tup hb (rs.weak orA)) (Xt hb)
  · exact .inl ⟨b,xs,rfl,.of hb,hw,fun p hp=>q _ _ (Same.upd hp) (.tup jF (((Y9 rs).weak orA).grow (Same.upd hp))) (zS (Same.refl H) hp)⟩
 |lst ds=>
  cases e4;obtain ⟨b,xs,rfl,hb,_,rs⟩:=r3.lstE;exact .inr (.inr (.inl ⟨b,xs,rfl,.of hb,fun p hp=>q _ _ (Same.upd hp) (.lst jF (.inl hp) (((Y9 rs.low).laid hp).weak fun c z=>⟨.inr z.1,z.2⟩)) (zS (Same.refl H) hp)⟩))
 |str z=>
  cases e4;obtain ⟨rfl,hz⟩:=r3.strE;have hl:=aau (WE z lo hi) hz;exact .inr (.inr (.inr ⟨z,rfl,hz,q _ H (Same.refl H) (.str _ hl) (uQ (uP (K:=X.K) _ hl))⟩))
 |_=>cases e4
def zX {e:Expr} {lo hi:Option Expr} {p2 pos:Pos} {f:T5} {fl fh:Sl->Res (Option Int)} (he:DE X .s e f) (hl:DO X lo fl) (hh:DO X hi fh):
   DE X .t (.Subscript e (.Slice lo hi none p2) pos) (qX f fl fh slD):=by
 with_unfolding_all exact (
  PE.imp (KH (sl_tup.or (sl_whole.or (sl_list.or kl))) he hl hh) fun σ H Q ⟨G,H0,env,d,k,ef,q⟩=>by
   obtain ⟨a,e1,ef⟩:=ja ef;obtain ⟨lo',e2,ef⟩:=ja ef;obtain ⟨hi',e3,e4⟩:=ja ef;refine ⟨G,H0,env,a,k,e1,fun x H1 s1 r1 _=>⟨G,H0,env,lo',k.grow s1,e2,fun H2 s2=>⟨G,H0,env,hi',(k.grow s1).grow s2,e3,fun H3 s3=>?_⟩⟩⟩;have sm:=s1.trans (s2.trans s3)
   exact VX ((r1.grow s2).grow s3) e4 fun v H4 s4 r4 nt=>q v H4 (sm.trans s4) (r4.weak fun c z=>z.elim (fun z=>k.new c (Same.free sm z)) fun z=>z) (nt.grow sm))
def MtD (K:aaa) (r:V->List V->Hp->VK->Prop) (g:D->List D->Res D):Prop:= ∀(x:V) (xs:List V) (H:Hp) (a:D) (ds:List D) (d:D) (Q:VK),Rep K Any H x a->Reps K Any H xs ds->g a ds= .ok d->(∀v,Sc K v d->Q v H)->r x xs H Q
def ki {A:Zi} {H:Hp} {v:V} {z:Str} (r:Rep K A H v (.str z)):tyV K "str" v H:=by rw [r.strE.1];exact rfl
def smF (f:T5) (fa:T2) (g:Str->List D->Res D):Sl->Res D:=fun env=>f env>>=fun a=>match a with
 | .str z=>fa env>>=fun ds=>g z ds
 |_=> .stuck
def vq {l1 l2 l':Lv} {o e:Expr} {es:List Expr} {name:Str} {apos cpos:Pos} {id:String} {r:V->List V->Hp->VK->Prop} {g:Str->List D->Res D} {f:T5} {fa:T2}
   (slot:PySem.Slot "str" name id) (hty:typeOf (.builtin id)=pure (.type "method_descriptor")) (hm:MtR X id r) (hr:MtD X.K r (fun a ds=>match a with| .str z=>g z ds|_=> .stuck)) (ho:DE X l1 o f) (ha:DA X l2 (e::es) fa)
   (hbase:aaY o name X.env (eval o X.env)=eval o X.env:=by rfl)
   (hfew:((aa7 cpos (aag (e::es) X.env)).all (fun x=>!x.1)&&(abK cpos (abh [] X.env)).all (fun x=>x.1.isSome)
    &&decide ((e::es).length+([]:List abO).length+(if ([]:List abO).isEmpty then 0 else 1)<30))=true:=by exact xL rfl rfl)
   (hline:(apos.endLine==cpos.line)=true:=by rfl) (hs:WV X e es:=by exact jq rfl) (hplain:T9 X cpos es:=by exact jS rfl):
   DE X l' (.Call (.Attribute o name apos) (e::es) [] cpos) (smF f fa g):=by
 with_unfolding_all exact (
  PE.imp (KM PySem.F.plainAttrs_str slot hty hm ho ha hbase hfew hline hs hplain) fun σ H Q ⟨G,H0,env,d,k,ef,q⟩=>by
   obtain ⟨a,e1,e2⟩:=ja ef
   cases a with
   |str z=>
    obtain ⟨ds,e3,e4⟩:=ja e2;refine ⟨G,H0,env,_,k,e1,fun x H1 s1 r1 _=>⟨ki r1,G,H0,env,ds,k.grow s1,e3,fun xs H2 s2 r2=>?_⟩⟩;exact hr x xs H2 (.str z) ds d Q ((r1.grow s2).weak Lv.weak_b) (r2.weak Lv.weak_b) e4 fun v sc=>q v H2 (s1.trans s2) (sc.1 _ _) sc.T
   |_=>cases e2)
def UB:MtR X "str.find" (fun x xs H Q=> ∃z y,x= .str z/\xs=[.str y]/\Q (.int (Txt.find z y)) H):=by
 intro pins s σ H x xs v us Q I rx rv ⟨z,y,ex,exs,q⟩;subst ex exs;obtain ⟨t,rfl⟩:=rx;obtain ⟨u,rfl,ru⟩:=Zc rv;obtain ⟨t',rfl⟩:=ru;exact SC.find ⟨.int _,H,I.tok _,⟨_,rfl⟩,q⟩
def Va (z:Str):List D->Res D
 | [.str y]=> .ok (.int (Txt.find z y))
 |_=> .stuck
def UD:MtD K (fun x xs H Q=> ∃z y,x= .str z/\xs=[.str y]/\Q (.int (Txt.find z y)) H) (fun a ds=>match a with| .str z=>Va z ds|_=> .stuck):=by
 intro x xs H a ds d Q ra rs e q
 cases a with
 |str z=>
  dsimp only at e;unfold Va at e
  split at e
  · cases e;obtain ⟨v,rfl,r1⟩:=rs.one;exact ⟨z,_,ra.strE.1,by rw [r1.strE.1],q _ (uE _)⟩
  · cases e
 |_=>cases e
def negD:D->Res D
 | .int i=> .ok (.int (-i))
 |_=> .stuck
def negF (f:T5):Sl->Res D:=fun env=>f env>>=negD
def vt {l l':Lv} {e:Expr} {pos:Pos} {f:T5} (h:DE X l e f):DE X l' (.UnaryOp .USub e pos) (negF f):=by
 with_unfolding_all exact (PE.imp (v3 U8 h) fun σ H Q ⟨G,H0,env,d,k,ef,q⟩=>by
  obtain ⟨a,e1,e2⟩:=ja ef;refine ⟨G,H0,env,a,k,e1,fun v H' s r _=>?_⟩
  cases a with
  |int i=>cases e2;exact ⟨i,r.intE,q _ H' s (.int _) (uE (K:=X.K) _).T⟩
  |_=>cases e2)
end
abbrev subI:D->D->Res D:=iOp Jf fun i j=> .int (i-j)
abbrev mulI:D->D->Res D:=iOp MulC fun i j=> .int (i*j)
abbrev divI:D->D->Res D:=iOp DivC fun i j=> .int (i/j)
abbrev modI:D->D->Res D:=iOp PosC fun i j=> .int (i%j)
abbrev powI:D->D->Res D:=iOp PowC fun i j=> .int (i^j.toNat)
abbrev ltI:D->D->Res D:=iOp Jf fun i j=> .bl (decide (i<j))
abbrev leI:D->D->Res D:=iOp Jf fun i j=> .bl (decide (i<=j))
abbrev gtI:D->D->Res D:=iOp Jf fun i j=> .bl (decide (j<i))
structure Av (P:aaE) (w:World) (K:aaa) (mg:Zj) (base:Heap) (k:Nat) (x:Str) (ps:List Str) (fr:Bool) (F:T1):Prop where
 ex: ∃f fd,FnOk P w K mg base CX0 k f fd ps (spF K fr ps.length F)/\mg x=some (.ref f)/\aaK K (.ref f)=true/\Binds K fd ps []
def Av.mono {P:aaE} {w:World} {K:aaa} {mg:Zj} {base:Heap} {j k:Nat} {x:Str} {ps:List Str} {fr:Bool} {F:T1} (h:Av P w K mg base j x ps fr F) (hj:j<=k):Av P w K mg base k x ps fr F:=
 let ⟨f,fd,a,b⟩:=h.ex
 ⟨f,fd,a.mono hj,b⟩
section
variable {X:Cx} {k:Nat} {x:Str} {ps:List Str} {fr:Bool} {F:T1} {e:Expr} {es:List Expr} {p pos:Pos} {g:T2}
def Av.call {n:Nat} (A:Av X.prog X.w X.K X.mg X.base k x ps fr F) (hr:Room k X.A) (ha:DA X .s (e::es) g) (hn:ps.length=n:=by rfl) (hg:Gl X x:=by rfl) (hdb:Z2 x:=by decide)
  (he:WV X e es:=by exact jq rfl) (hpl:T9 X pos es:=by exact jS rfl):DE X .s (.Call (.Name x p) (e::es) [] pos) (jx n F g):=by
 subst hn;obtain ⟨f,fd,h1,h2,h3,h4⟩:=A.ex;exact UT h1 hr hg h2 h3 h4 Yc ha hdb he hpl
def Av.callT {n:Nat} (A:Av X.prog X.w X.K X.mg X.base k x ps true F) (hr:Room k X.A) (ha:DA X .s (e::es) g) (hn:ps.length=n:=by rfl) (hg:Gl X x:=by rfl) (hdb:Z2 x:=by decide)
  (he:WV X e es:=by exact jq rfl) (hpl:T9 X pos es:=by exact jS rfl):DE X .t (.Call (.Name x p) (e::es) [] pos) (jx n F g):=by
 subst hn;obtain ⟨f,fd,h1,h2,h3,h4⟩:=A.ex;exact Vg h1 hr hg h2 h3 h4 Yc ha hdb he hpl
end
def runF (fr:Bool) (n:Nat) (g:T3) (ds:List D):Res D:=match g (jT n ds) with
 | .ok (.rt fr' d)=>if fr=true/\fr'=false then .stuck else .ok d
 | .ok (.nx _)=> .ok .non
 |_=> .stuck
def Js {fr:Bool} {n:Nat} {g:T3} {ds:List D} {d:D} (h:runF fr n g ds= .ok d):Meets fr n g ds d:=by
 unfold runF at h
 split at h
 · rename_i fr' d' e
   split at h
   · cases h
   · rename_i hn;cases h;refine .inl ⟨fr',e,fun hf=>?_⟩
     cases fr' with
     |true=>rfl
     |false=>exact absurd ⟨hf,rfl⟩ hn
 · rename_i env' e;cases h;exact .inr ⟨rfl,env',e⟩
 · cases h
section
variable {P:aaE} {w:World} {K:aaa} {mg:Zj} {base:Heap}
def uj {x:Str} {st:Stmt} {f:Addr} {fd:abo} {N ps:List Str} {k:Nat} (fr:Bool) {g:T3} (Fu:Fun K x x st f fd) (hmg:mg x=some (.ref f)) (S:FnScope N ps (je st)) (hbi:Binds K fd ps [])
  (hb: ∀(cdv:Value) (A:aa5) (outer:List Env) (s:aaf) (H:Hp) (E:XK),Room k (A.deeper (ace x (je st) s.heap.objs.size f cdv))->DSs (cxOf CX0 P w K mg base N x (je st) f cdv A outer s H E).nox (qe st) g):
  Av P w K mg base (k+1) x ps fr (runF fr N.length g):=
 ⟨f,fd,ve Fu S hb fun ds d _ h=>Js h,hmg,Fu.kp,hbi⟩
def UY {x:Str} {st:Stmt} {f:Addr} {fd:abo} {ps:List Str} {k:Nat} (fr:Bool) (Fu:Fun K x x st f fd) (hmg:mg x=some (.ref f)) (hbi:Binds K fd ps []):Av P w K mg base k x ps fr (fun _=> .stuck):=
 ⟨f,fd,⟨fun vs H Q E ⟨B,ds,d,hl,_⟩=>hl,fun A outer s H args us vs Q E _ _ _ _ ⟨B,ds,d,_,_,e,_⟩=>by cases e⟩,hmg,Fu.kp,hbi⟩
end
def Xc {P:aaE} {w:World} {K:aaa} {mg:Zj} {base:Heap} {x:Str} {st:Stmt} {f:Addr} {fd:abo} {N ps:List Str} {k:Nat} (fr:Bool) {g:T3} (Fu:Fun K x x st f fd) (S:FnScope N ps (je st))
 (hb: ∀(cdv:Value) (A:aa5) (outer:List Env) (s:aaf) (H:Hp) (E:XK),Room k (A.deeper (ace x (je st) s.heap.objs.size f cdv))->DSs (cxOf CX0 P w K mg base N x (je st) f cdv A outer s H E).nox (qe st) g):
 FnOk P w K mg base CX0 (k+1) f fd ps (spF K fr ps.length (runF fr N.length g)):=ve Fu S hb fun ds d _ h=>Js h
def Kh:abq "min" =some (.builtin "min"):=by decide+kernel
def ug (N0:List Str) (sc0 scope:Scope) (N:List Str) (m:Nat) (js:List Nat):Bool:=(aa0 js.length).all fun k=>match N[m+k]?,(js[k]?).bind (N0[·]?) with
 |some y,some y'=>y==y'&&(sc0.names.lookup y==some .cell||sc0.names.lookup y==some .free)&&scope.names.lookup y==some .free
 |_,_=>false
def scOk (N0:List Str) (sc0 scope:Scope) (cl:List (Str×Addr)) (N:List Str) (m:Nat) (js:List Nat):Bool:=
 (scope.names.all fun x=>x.2 != .local||scope.names.lookup x.1==some .local)&&(scope.names.all fun x=>x.2 != .cell)&&(scope.names.all fun y=>y.2 != .free||cl.any fun p=>p.1==y.1)&&
  ug N0 sc0 scope N m js&&(match N[m+js.length]? with
   |some y=>scope.names.all fun p=>p.1 !=y
   |none=>true)&&N.length==m+js.length+1
def Xk {cl:List (Str×Addr)} {y:Str} (h:(cl.any fun p=>p.1==y)=true): ∃c,cl.lookup y=some c:=by
 induction cl with
 |nil=>cases h
 |cons p r ih=>
  obtain ⟨n,c⟩:=p;rw [List.any_cons,Bool.or_eq_true] at h;simp only [abi]
  cases e:y==n with
  |true=>exact ⟨c,rfl⟩
  |false=>
   rcases h with h|h
   · have:n=y:=by simpa using h
     subst this;simp at e
   · exact ih h
def ZP {X:Cx} {scope:Scope} {cl:List (Str×Addr)} {N:List Str} {m:Nat} {js:List Nat} (clos:closureFor scope X.env=pure cl) (kind:scope.kind= .function) (nd:N.Nodup) (cl2: ∀p∈cl,X.env.cells.lookup p.1=some p.2)
   (h:scOk X.N X.env.scope scope cl N m js=true):CompSc X scope cl N m js:=by
 simp only [scOk,aal,aaZ,beq_iff_eq] at h;obtain ⟨⟨⟨⟨⟨h1,h2⟩,h3⟩,h4⟩,h5⟩,h6⟩:=h;refine ⟨clos,kind,fun x hx e=>?_,fun y hy e=>?_,fun x c e=>cl2 (x,c) (aba e),fun y hy e=>?_,nd,h6,fun k j e=>?_,fun y e p hp=>?_⟩
 · have:=h1 x hx;rw [e] at this;simpa using this
 · have:=h2 y hy;rw [e] at this;simp at this
 · have:=h3 y hy;rw [e] at this;exact Xk (by simpa using this)
 · have hk:k<js.length:=(aaq.mp e).1;have:=aaZ.mp h4 k (ab5.mpr hk);rw [e] at this;simp only [Option.bind_some] at this
   cases e1:N[m+k]? with
   |none=>rw [e1] at this;cases this
   |some y=>
    cases e2:X.N[j]? with
    |none=>rw [e1,e2] at this;cases this
    |some y'=>
     rw [e1,e2] at this;simp only [aal,Bool.or_eq_true,beq_iff_eq] at this;obtain ⟨⟨g1,g2⟩,g3⟩:=this;subst g1;exact ⟨y,rfl,rfl,g2,g3⟩
 · rw [e] at h5;have:=aaZ.mp h5 p hp;simpa using this
end M
namespace M
open PySem PySem.Spec L2
def J8 {body:D->Sl->Res Out} {d:D} {ds:List D} {env env':Sl} (h:body d env= .ok (.nx env')):forD body (d::ds) env=forD body ds env':=by
 show (body d env>>=_)=_;rw [h];rfl
theorem QQ {α:Type} {body:D->Sl->Res Out} (E:α->Sl) (step:α->D->α) (P:List D->α->Prop)
  (hb: ∀d ds a,P (d::ds) a->body d (E a)= .ok (.nx (E (step a d)))/\P ds (step a d)): ∀(ds:List D) (a:α),P ds a->forD body ds (E a)= .ok (.nx (E (ds.foldl step a)))
 | [],a,_=>rfl
 |d::ds,a,h=>by
  obtain ⟨h1,h2⟩:=hb d ds a h;rw [J8 h1,QQ E step P hb ds _ h2];rfl
theorem QY {n:Nat} {t:T0} {fe:T5} {E:D->List D->Sl} (h:D->D) (P:D->Prop)
  (hn: ∀x acc,ownL n (E x acc)= .ok acc) (hs: ∀x acc acc',(E x acc).set n (.own (.lst acc'))=E x acc')
  (ht: ∀x d acc,t d (E x acc)= .ok (E d acc)) (hf: ∀d acc,P d->fe (E d acc)= .ok (h d)):
  ∀(ds:List D) (x:D) (acc:List D),(∀d∈ds,P d)->acc.length+ds.length<=aae-> ∃y,wT n t wn fe ds (E x acc)= .ok (E y (acc++ds.map h))
 | [],x,acc,_,_=>⟨x,by simp [wT]⟩
 |d::ds,x,acc,hP,hl=>by
  simp only [aab] at hl;obtain ⟨y,hy⟩:=QY h P hn hs ht hf ds d (acc++[h d]) (fun e he=>hP e (by simp [he])) (by simp only [aad,aab,aak];omega);refine ⟨y,?_⟩
  have h1:wT n t wn fe (d::ds) (E x acc)=wT n t wn fe ds (E d (acc++[h d])):=by
   show (t d (E x acc)>>=_)=_;rw [ht];show (fe (E d acc)>>=_)=_;rw [hf d acc (hP d (by simp))];show (ownL n (E d acc)>>=_)=_;rw [hn];show must _ _=_;rw [jl (by omega),hs]
  rw [h1,hy];simp
def uf {fi:T2} {fe:T5} {env:Sl} {ds:List D} (h:D->D) (P:D->Prop) (hi:fi env= .ok ds) (hP: ∀d∈ds,P d) (hl:ds.length<=aae)
  (hf: ∀d acc,P d->fe [.shr d,.own (.lst acc)]= .ok (h d)):Je false 1 [] fi (gN 0) wn fe env= .ok (.lst (ds.map h)):=by
 show (fi env>>=_)=_;rw [hi];show (wT 1 (gN 0) wn fe ds [.un,.own (.lst [])]>>=_)=_
 cases ds with
 |nil=>rfl
 |cons d ds=>
  simp only [aab] at hl;obtain ⟨y,hy⟩:=QY (n:=1) (t:=gN 0) (fe:=fe) (E:=fun x acc=>[.shr x,.own (.lst acc)]) h P (fun _ _=>rfl) (fun _ _ _=>rfl) (fun _ _ _=>rfl) hf ds d [h d] (fun e he=>hP e (by simp [he])) (by simp only [aab,aak];omega)
  have h1:wT 1 (gN 0) wn fe (d::ds) [.un,.own (.lst [])]=wT 1 (gN 0) wn fe ds [.shr d,.own (.lst [h d])]:=by
   show (fe [.shr d,.own (.lst [])]>>=_)=_;rw [hf d [] (hP d (by simp))];exact jl (c:=([]:List D).length<aae) (by simp only [aak];omega)
  rw [h1,hy];rfl
variable {env env':Sl} {f f1 f2 f3:T5} {g g1 g2:T3} {t t1 t2:T4} {fa:T2} {i:Nat} {d:D} {b:Bool}
@[simp] theorem zk {α β:Type} {a:α} {f:α->Res β}:(Res.ok a>>=f)=f a:=rfl
@[simp] theorem YQ {α β:Type} {c:Prop} [Decidable c] {a b:Res α} {f:α->Res β}:((if c then a else b)>>=f)=if c then a>>=f else b>>=f:=by split<;>rfl
def outK (g:T3):Out->Res Out
 | .nx e=>g e
 |o=> .ok o
@[simp] theorem Yh:outK g (.nx env)=g env:=rfl
@[simp] theorem Zs {fr:Bool}:outK g (.rt fr d)= .ok (.rt fr d):=rfl
@[simp] theorem xq:seqO g1 g2 env=(g1 env>>=outK g2):=by
 show (g1 env>>=_)=_;congr 1;funext o;cases o<;>rfl
@[simp] theorem UJ:setO i f env=(f env>>=fun d=> .ok (.nx (env.set i (xG d)))):=rfl
@[simp] theorem Wr:jB i f env=(f env>>=fun d=> .ok (.nx (env.set i (.shr d)))):=rfl
@[simp] theorem y4:retO f env=(f env>>=fun d=> .ok (.rt true d)):=rfl
@[simp] theorem UK:retS f env=(f env>>=fun d=> .ok (.rt false d)):=rfl
@[simp] theorem VL:nxO env= .ok (.nx env):=rfl
@[simp] theorem JD:ifO t g1 g2 env=(t env>>=fun b=>if b=true then g1 env else g2 env):=rfl
@[simp] theorem ZK:andB t1 t2 env=(t1 env>>=fun b=>if b=true then t2 env else .ok false):=rfl
@[simp] theorem YO:orB t1 t2 env=(t1 env>>=fun b=>if b=true then .ok true else t2 env):=rfl
@[simp] theorem ZH:notB t env=(t env>>=fun b=> .ok (!b)):=rfl
def asBD:D->Res Bool
 | .bl b=> .ok b
 |_=> .stuck
@[simp] theorem ZV:asBD (.bl b)= .ok b:=rfl
@[simp] theorem Wt:asB f env=(f env>>=asBD):=rfl
@[simp] theorem Wq {h:D->D->Res D}:two f1 f2 h env=(f1 env>>=fun x=>f2 env>>=fun y=>h x y):=rfl
@[simp] theorem UN {j:Int}:cI j env= .ok (.int j):=rfl
@[simp] theorem vh:cB b env= .ok (.bl b):=rfl
@[simp] theorem yw:jc f fa env=(f env>>=fun d=>fa env>>=fun ds=> .ok (d::ds)):=rfl
@[simp] theorem ZI:nil1 env= .ok []:=rfl
@[simp] theorem Wu {h:T1}:app fa h env=(fa env>>=h):=rfl
@[simp] theorem Ws {n:Nat} {F:T1}:jx n F fa env=(fa env>>=fun ds=>must (ds.length=n) (F ds)):=rfl
@[simp] theorem UI:tupF fa env=(fa env>>=fun ds=>must (ds.length<=aae) (.ok (.tup ds))):=rfl
@[simp] theorem UM:lstF fa env=(fa env>>=fun ds=>must (ds.length<=aae) (.ok (.lst ds))):=rfl
@[simp] theorem Qb {T:String}:isiF T f env=(f env>>=isiD T):=rfl
@[simp] theorem YR:itF f env=(f env>>=K2):=rfl
@[simp] theorem ZJ {tt:T0} {fi:T2}:forO fi tt g env=(fi env>>=fun ds=>forD (wf tt g) ds env):=rfl
@[simp] theorem Vc {fl fh:Sl->Res (Option Int)} {h:D->Option Int->Option Int->Res D}:qX f fl fh h env=(f env>>=fun a=>fl env>>=fun lo=>fh env>>=fun hi=>h a lo hi):=rfl
@[simp] theorem Vb:zG f env=(f env>>=asI):=rfl
@[simp] theorem YN:rdS i env=match env[i]? with|some (.shr d)=> .ok d|_=> .stuck:=rfl
def toK (g:Res D) (w:Bool):D->Res D
 | .bl b=>if b=w then g else .ok (.bl b)
 |_=> .stuck
@[simp] theorem ke {r:Res D} {w:Bool}:toK r w (.bl b)=if b=w then r else .ok (.bl b):=rfl
@[simp] theorem YM {w:Bool}:toB f1 f2 w env=(f1 env>>=toK (f2 env) w):=by
 show (f1 env>>=_)=_;congr 1
def chK (f:Res D) (g':D->D->Res D) (y:D):D->Res D
 | .bl true=>f>>=fun w=>g' y w
 | .bl false=> .ok (.bl false)
 |_=> .stuck
@[simp] theorem WH {r:Res D} {h:D->D->Res D} {y:D}:chK r h y (.bl b)=if b=true then r>>=fun w=>h y w else .ok (.bl false):=by cases b<;>rfl
@[simp] theorem xN {h h':D->D->Res D}:Qh f1 f2 f3 h h' env=(f1 env>>=fun x=>f2 env>>=fun y=>h x y>>=chK (f3 env) h' y):=by
 show (f1 env>>=_)=_;congr 1
@[simp] theorem UL {α:Type} {c:Prop} [Decidable c] {r:Res α}:must c r=if c then r else .stuck:=rfl
@[simp] theorem YS {C:Int->Int->Prop} [∀i j,Decidable (C i j)] {h:Int->Int->D} {m n:Int}:iOp C h (.int m) (.int n)=if C m n then .ok (h m n) else .stuck:=rfl
def runK (fr:Bool):Out->Res D
 | .rt fr' d=>if fr=true/\fr'=false then .stuck else .ok d
 | .nx _=> .ok .non
 |_=> .stuck
def xM {fr:Bool} {n:Nat} {ds:List D} {o:Out} (h:g (jT n ds)= .ok o):runF fr n g ds=runK fr o:=by
 unfold runF;rw [h];cases o<;>rfl
end M
namespace M
def Qp {n:Nat} {t:T4} {g:T3} {env env':Sl} (ht:t env= .ok true) (h:g env= .ok (.nx env')):qB (n+1) t g env=qB n t g env':=by
 rw [qB,ht,zk,if_pos rfl,h];rfl
def Xr {n:Nat} {t:T4} {g:T3} {env:Sl} {fr:Bool} {d:D} (ht:t env= .ok true) (h:g env= .ok (.rt fr d)):qB (n+1) t g env= .ok (.rt fr d):=by
 rw [qB,ht,zk,if_pos rfl,h];rfl
def Ji {n:Nat} {t:T4} {g:T3} {env:Sl} (ht:t env= .ok false):qB (n+1) t g env= .ok (.nx env):=by
 rw [qB,ht,zk,if_neg (by simp)]
end M
namespace M
open PySem PySem.Spec L2
def kids:D->List D
 | .tup (_::r)=>r
 |_=>[]
mutual
def num:D->Nat
 | .tup (_::r)=>1+nums r
 |_=>1
def nums:List D->Nat
 | []=>0
 |d::r=>num d+nums r
end
mutual
def hgt:D->Nat
 | .tup (_::r)=>1+hgts r
 |_=>1
def hgts:List D->Nat
 | []=>0
 |d::r=>max (hgt d) (hgts r)
end
def KW:D->Bool| .scr _=>false| .exn _=>false| .fdc _ _=>false| .hdc _ _=>false| .obj _ _ _=>false|_=>true
mutual
def fine:D->Bool
 | .scr _=>false
 | .exn _=>false
 | .fdc _ _=>false
 | .hdc _ _=>false
 | .obj _ _ _=>false
 | .tup ds=>decide (ds.length<=11)&&fines ds
 |_=>true
def fines:List D->Bool
 | []=>true
 |d::r=>fine d&&fines r
end
def VA (d:D):num d=1+nums (kids d):=by
 cases d with
 |tup ds=>cases ds<;>simp [num,kids,nums]
 |_=>simp [num,kids,nums]
def YI (d:D):hgt d=1+hgts (kids d):=by
 cases d with
 |tup ds=>cases ds<;>simp [hgt,kids,hgts]
 |_=>simp [hgt,kids,hgts]
def Wf (a b:List D):nums (a++b)=nums a+nums b:=by
 induction a with
 |nil=>simp [nums]
 |cons d r ih=>simp [nums,ih];omega
def K5 (a b:List D):hgts (a++b)=max (hgts a) (hgts b):=by
 induction a with
 |nil=>simp [hgts]
 |cons d r ih=>simp [hgts,ih]
def Qa {d:D} (h:fine d=true):KW d=true:=by
 cases d<;>first|rfl| (simp [fine] at h)
theorem yY: ∀ {ds:List D} {d:D},fines ds=true->d∈ds->fine d=true
 |x::r,d,h,hm=>by
  simp only [fines,aal] at h;rcases aaw.mp hm with rfl|hm
  · exact h.1
  · exact yY h.2 hm
theorem J9: ∀ {ds:List D},(∀d∈ds,fine d=true)->fines ds=true
 | [],_=>rfl
 |x::r,h=>by simp only [fines,aal];exact ⟨h x (by simp),J9 fun d hd=>h d (by simp [hd])⟩
def QR {d:D} (h:fine d=true):fines (kids d)=true/\(kids d).length<=10:=by
 cases d with
 |tup ds=>
  cases ds with
  |nil=>exact ⟨rfl,by simp [kids]⟩
  |cons x r=>
   simp only [fine,fines,aal,decide_eq_true_eq,aab] at h;exact ⟨h.2.2,by simp only [kids];omega⟩
 |_=>exact ⟨rfl,by simp [kids]⟩
def zj (row:List D):List D:=row.flatMap kids
def W1 (row:List D):nums row=row.length+nums (zj row):=by
 induction row with
 |nil=>rfl
 |cons d r ih=>
  have:zj (d::r)=kids d++zj r:=rfl;rw [this,Wf];simp only [nums,aab,ih,VA d];omega
def W9 (row:List D) (h:row≠[]):hgts row=1+hgts (zj row):=by
 induction row with
 |nil=>exact absurd rfl h
 |cons d r ih=>
  have e:zj (d::r)=kids d++zj r:=rfl;rw [e,K5];simp only [hgts,YI d]
  cases r with
  |nil=>simp [hgts,zj]
  |cons x r=>rw [ih (by simp)];omega
def ZF {row:List D} (h:fines row=true):fines (zj row)=true:=
 J9 fun d hd=>by
  obtain ⟨x,hx,hk⟩:=abC.mp hd;exact yY (QR (yY h hx)).1 hk
def Ki {row:List D} (h:fines row=true):(zj row).length<=10*row.length:=by
 induction row with
 |nil=>simp [zj]
 |cons d r ih=>
  simp only [fines,aal] at h;have e:zj (d::r)=kids d++zj r:=rfl;have:=ih h.2;have:=(QR h.1).2;rw [e,aad,aab];omega
def J6 (d:D):1<=hgt d:=by rw [YI];omega
def atI_nat {α:Type} {xs:List α} {k:Nat}:atI xs (k:Int)=xs[k]?:=by
 unfold atI ixN
 by_cases h:k<xs.length
 · rw [if_pos (by omega),if_pos (by omega)];simp
 · rw [if_pos (by omega),if_neg (by omega)];simp;omega
def ix0 {x:D} {r:List D}:ixD (.tup (x::r)) (.int 0)= .ok x:=by
 have:=atI_nat (xs:=x::r) (k:=0);simp only [ixD];rw [show ((0:Int))=((0:Nat):Int) from rfl,this];rfl
section
variable {env env':Sl} {f f1 f2 f3:T5} {g g1 g2:T3} {t t1 t2:T4} {fa:T2} {i:Nat} {d x y z:D} {b:Bool} {ds:List D}
def ji {h:D->D->Res D} (h1:f1 env= .ok x) (h2:f2 env= .ok y) (h3:h x y= .ok z):two f1 f2 h env= .ok z:=by rw [Wq,h1,zk,h2,zk,h3]
def qD (h:f env= .ok d):jB i f env= .ok (.nx (env.set i (.shr d))):=by rw [Wr,h];rfl
def XQ (h:f env= .ok d):setO i f env= .ok (.nx (env.set i (xG d))):=by rw [UJ,h];rfl
def zB (h:f env= .ok d):retO f env= .ok (.rt true d):=by rw [y4,h];rfl
def Zm (h:f env= .ok d):retS f env= .ok (.rt false d):=by rw [UK,h];rfl
def jH (h:g1 env= .ok (.nx env')):seqO g1 g2 env=g2 env':=by rw [xq,h];rfl
def Qy {fr:Bool} (h:g1 env= .ok (.rt fr d)):seqO g1 g2 env= .ok (.rt fr d):=by rw [xq,h];rfl
def if_t (h:t env= .ok true):ifO t g1 g2 env=g1 env:=by rw [JD,h];rfl
def if_f (h:t env= .ok false):ifO t g1 g2 env=g2 env:=by rw [JD,h];rfl
def jg (h1:f env= .ok d) (h2:fa env= .ok ds):jc f fa env= .ok (d::ds):=by rw [yw,h1,zk,h2];rfl
def q8 {h:T1} (h1:fa env= .ok ds) (h2:h ds= .ok d):app fa h env= .ok d:=by rw [Wu,h1,zk,h2]
def jL {n:Nat} {F:T1} (h1:fa env= .ok ds) (hn:ds.length=n) (h2:F ds= .ok d):jx n F fa env= .ok d:=by rw [Ws,h1,zk,jl hn,h2]
def yy (h1:fa env= .ok ds) (hn:ds.length<=aae):tupF fa env= .ok (.tup ds):=by rw [UI,h1,zk,jl hn]
def Wk (h1:fa env= .ok ds) (hn:ds.length<=aae):lstF fa env= .ok (.lst ds):=by rw [UM,h1,zk,jl hn]
def jI (h:f env= .ok (.bl b)):asB f env= .ok b:=by rw [Wt,h];rfl
def Yi {b2:Bool} (h1:t1 env= .ok b) (h2:t2 env= .ok b2):orB t1 t2 env= .ok (b||b2):=by rw [YO,h1,zk,h2];cases b<;>rfl
def VT {b2:Bool} (h1:t1 env= .ok b) (h2:t2 env= .ok b2):andB t1 t2 env= .ok (b&&b2):=by rw [ZK,h1,zk,h2];cases b<;>rfl
def wF (h1:t1 env= .ok b):notB t1 env= .ok (!b):=by rw [ZH,h1];rfl
def qH (h1:ownL i env= .ok ds) (h2:f env= .ok d) (h3:ds.length<aae):jD i f env= .ok (.nx (env.set i (.own (.lst (ds++[d]))))):=by
 show (ownL i env>>=_)=_;rw [h1];show (f env>>=_)=_;rw [h2];exact jl h3
def zm {fl fh:Sl->Res (Option Int)} {h:D->Option Int->Option Int->Res D} {lo hi:Option Int} (h1:f env= .ok x) (h2:fl env= .ok lo) (h3:fh env= .ok hi) (h4:h x lo hi= .ok z):qX f fl fh h env= .ok z:=by
 rw [Vc,h1,zk,h2,zk,h3,zk,h4]
def qC {j:Int} (h:f env= .ok (.int j)):zG f env= .ok (some j):=by rw [Vb,h];rfl
def yX {tt:T0} {fi:T2} (h:fi env= .ok ds):forO fi tt g env=forD (wf tt g) ds env:=by rw [ZJ,h];rfl
def Yy (h:f env= .ok d) (h2:K2 d= .ok ds):itF f env= .ok ds:=by rw [YR,h,zk,h2]
def QZ (h:f env= .ok d) (hd:d.imm=true):chk f env= .ok d:=by
 show (f env>>=_)=_;rw [h];exact jl hd
def vV {zz:Str} {h:Str->List D->Res D} (h1:f env= .ok (.str zz)) (h2:fa env= .ok ds) (h3:h zz ds= .ok d):smF f fa h env= .ok d:=by
 show (f env>>=_)=_;rw [h1];show (fa env>>=_)=_;rw [h2];exact h3
end
def Wn {C:Int->Int->Prop} [∀i j,Decidable (C i j)] {g:Int->Int->D} {i j:Int} (h:C i j):iOp C g (.int i) (.int j)= .ok (g i j):=if_pos h
def Vv {i j:Int} (h:PowC i j):powI (.int i) (.int j)= .ok (.int (i^j.toNat)):=Wn h
def Yr {i j:Int} (h:MulC i j):mulI (.int i) (.int j)= .ok (.int (i*j)):=Wn h
def Yt {i j:Int} (h:0<j):modI (.int i) (.int j)= .ok (.int (i%j)):=Wn (C:=PosC) h
def VO {i j:Int} (h:0<j/\j<1073741824):divI (.int i) (.int j)= .ok (.int (i/j)):=Wn (C:=DivC) h
def xU {t:T0} {g:T3} {d:D} {env env':Sl} (h:t d env= .ok env'):wf t g d env=g env':=by
 show (t d env>>=g)=_;rw [h];rfl
def x0 {fr:Bool} {n:Nat} {g:T3} {ds:List D} {d:D} (h:g (jT n ds)= .ok (.rt true d)):runF fr n g ds= .ok d:=by rw [xM h];simp [runK]
def KA {n:Nat} {g:T3} {ds:List D} {d:D} (h:g (jT n ds)= .ok (.rt false d)):runF false n g ds= .ok d:=by rw [xM h];simp [runK]
def XX {fa:T2} {env:Sl} {j:Int} (h:fa env= .ok [.int j]) (hb: -(2^62)<=j/\j<2^62):rngF fa env= .ok (zD 0 j.toNat):=by
 show (fa env>>=rng1)=_;rw [h];exact jl hb
def U2 {a b:List D} (h1:a.isEmpty=false) (h2:a.length+b.length<=aae):addD (.tup a) (.tup b)= .ok (.tup (a++b)):=jl (c:=_/\_) ⟨h1,h2⟩
def xA {a b:Int}:eqR (.int a) (.int b)= .ok (.bl (a==b)):=by
 unfold eqR;rw [jl (by left;simp [D.eqb,D.dep])];simp [eqD]
theorem xj {body:D->Sl->Res Out} (I:List D->Sl->Prop)
  (hb: ∀d ds env,I (d::ds) env-> ∃env',body d env= .ok (.nx env')/\I ds env'): ∀(ds:List D) (env:Sl),I ds env-> ∃env',forD body ds env= .ok (.nx env')/\I [] env'
 | [],env,h=>⟨env,rfl,h⟩
 |d::ds,env,h=>by
  obtain ⟨e1,h1,h2⟩:=hb d ds env h;obtain ⟨e2,h3,h4⟩:=xj I hb ds e1 h2;exact ⟨e2,by rw [J8 h1,h3],h4⟩
def W7 (lo:Int) (n:Nat):zD lo (n+1)= .int lo::zD (lo+1) n:=by
 unfold zD;rw [ab0,aaL,List.map_map];congr 1
 · simp
 · apply acp;intro i _;simp only [Function.comp_apply];congr 1;omega
def QM {lo:Int} {n:Nat} {d:D} (h:d∈zD lo n): ∃k:Int,d= .int k/\lo<=k/\k<lo+n:=by
 unfold zD at h;obtain ⟨i,hi,e⟩:=acx.mp h;have:=ab5.mp hi;exact ⟨_,e.symm,by omega,by omega⟩
def xK (lo:Int) (n:Nat):(zD lo n).length=n:=by simp [zD]
def Kj {α:Type} {xs:List α} {i:Int} (h0:0<=i) (h1:i<xs.length): ∃x,atI xs i=some x/\x∈xs:=by
 obtain ⟨k,rfl⟩:=Int.eq_ofNat_of_zero_le h0;have hk:k<xs.length:=by omega
 exact ⟨xs[k],by rw [M.atI_nat];exact aaD hk,abM hk⟩
def ixS {z:Str} {i:Int} (h0:0<=i) (h1:i<z.length): ∃c,ixD (.str z) (.int i)= .ok (.str ⟨#[c]⟩):=by
 obtain ⟨c,hc,_⟩:=Kj (xs:=z.cps.toList) h0 (by simpa [acW] using h1);exact ⟨c,by simp only [ixD];rw [hc]⟩
def ixL {ds:List D} {i:Int} (h0:0<=i) (h1:i<ds.length): ∃d,ixD (.lst ds) (.int i)= .ok d/\d∈ds:=by
 obtain ⟨c,hc,hm⟩:=Kj (xs:=ds) h0 h1;exact ⟨c,by simp only [ixD];rw [hc],hm⟩
open Builtin.Int (intBits)
def NumR (f:T5) (env:Sl) (B:Nat):Prop:= ∃m:Int,f env= .ok (.int m)/\intBits m<=B
def Uz {f1 f2:T5} {env:Sl} {a b:Nat} (h1:NumR f1 env a) (h2:NumR f2 env b):NumR (two f1 f2 addD) env (max a b+1):=by
 obtain ⟨m,e1,b1⟩:=h1;obtain ⟨n,e2,b2⟩:=h2;exact ⟨m+n,ji e1 e2 rfl,intBits_add_le b1 b2⟩
def Zz {f1 f2:T5} {env:Sl} {a b:Nat} (h1:NumR f1 env a) (h2:NumR f2 env b) (h:a+b<=134217728):NumR (two f1 f2 mulI) env (a+b):=by
 obtain ⟨m,e1,b1⟩:=h1;obtain ⟨n,e2,b2⟩:=h2;exact ⟨m*n,ji e1 e2 (Yr (aau (Nat.add_le_add b1 b2) h)),intBits_mul_le b1 b2⟩
def Zy {i:Int} {k a:Nat} {env:Sl} (hi:intBits i<=a) (h1:k<=1000000) (h2:i.natAbs<2^64):NumR (two (cI i) (cI (k:Int)) powI) env (a*k+1):=
 ⟨i^((k:Int)).toNat,ji rfl rfl (Vv ⟨by omega,by omega,h2⟩),by rw [Int.toNat_natCast];exact intBits_pow_le hi k⟩
def v8 {j:Int} {B:Nat} {env:Sl} (hb:intBits j<=B):NumR (cI j) env B:=⟨j,rfl,hb⟩
def kK {i:Nat} {m:Int} {B:Nat} {env:Sl} (h:rdS i env= .ok (.int m)) (hb:intBits m<=B):NumR (rdS i) env B:=⟨m,h,hb⟩
theorem hgts_le {k:Nat}: ∀ {ds:List D},(∀d∈ds,hgt d<=k)->hgts ds<=k
 | [],_=>by simp [hgts]
 |d::ds,h=>by
  simp only [hgts];have:=h d (by simp);have:=hgts_le (ds:=ds) fun e he=>h e (by simp [he])
  omega
theorem xf: ∀ {ds:List D} {d:D},d∈ds->hgt d<=hgts ds
 |x::r,d,h=>by
  simp only [hgts];rcases aaw.mp h with rfl|h
  · omega
  · have:=xf h;omega
end M
namespace M
open PySem PySem.Spec L2
open PyProof.Rows hiding St
def EnvOk.writeG {K:aaa} {G:Zi} {H0 H:Hp} {env:Sl} {σ:L2.St} {i:Nat} {d0 d':D} {a:Addr} {o0 o':HO} (k:EnvOk K G H0 env σ H) (hi:env[i]?=some (.own d0)) (ha:σ[i]?=some (some (.ref a))) (hx:H a=some o0) (hm:Mut (some o0))
   (top: ∀(A':Zi) (H':Hp),Stay (Sf G env σ) H H'->H' a=some o'->(∀b,Sf G env σ b->A' b)->Top K A' H' a d'):EnvOk K G H0 (env.set i (.own d')) σ (upd H a o')/\Frm env σ H (env.set i (.own d')) σ (upd H a o'):=by
 have hl:i<env.length:=(aaq.mp hi).1;have ow:qR env σ a:=⟨i,_,hi,ha⟩
 have st:Stay (Sf G env σ) H (upd H a o'):=fun c o e m=>by
   rw [jK ?_]
   · exact e
   · rintro rfl;rw [hx] at e;cases e;exact (m hm).1 ow
 have w: ∀c,Sf G env σ c->Sf G (env.set i (.own d')) σ c:=fun c n=>⟨fun o=>n.1 ((zJ hi).mp o),n.2⟩
 refine ⟨⟨by simp [k.len],fun c o e=>?_,k.g0,fun j d1 h=>?_,fun j d1 h=>?_,fun j j' d1 d2 b q1 q2 q3 q4=>?_⟩,⟨fun c o e n=>?_,fun c o=> .inl ((zJ hi).mp o),fun c e=>?_⟩⟩
 · have hc:c≠a:=by
     rintro rfl;obtain ⟨b,h1,h0,_⟩:=k.own i _ hi;rw [ha] at h1;cases h1;rw [h0] at e;cases e
   rw [jK hc];exact k.base c o e
 · by_cases z:i=j
   · subst z;obtain ⟨q,_⟩:=ju h;cases q
   · rw [jm z] at h;obtain ⟨v,h1,h2⟩:=k.shr j d1 h;exact ⟨v,h1,h2.stay st w⟩
 · by_cases z:i=j
   · subst z;obtain ⟨q,_⟩:=ju h;cases q;obtain ⟨b,h1,h0,_⟩:=k.own i _ hi;rw [ha] at h1;cases h1;exact ⟨a,ha,h0,top _ _ st jF w⟩
   · rw [jm z] at h;obtain ⟨b,h1,h0,h2⟩:=k.own j d1 h
     have hb:b≠a:=by
       rintro rfl;exact z (k.dis i j _ _ b hi h ha h1)
     exact ⟨b,h1,h0,h2.stay st w fun o e=>by rw [jK hb];exact e⟩
 · have real: ∀(j:Nat) (d1:D),(env.set i (.own d'))[j]?=some (.own d1)-> ∃d0:D,env[j]?=some (.own d0):=fun j d1 q=>by
     by_cases z:i=j
     · subst z;exact ⟨_,hi⟩
     · rw [jm z] at q;exact ⟨_,q⟩
   obtain ⟨e1,z1⟩:=real j d1 q1;obtain ⟨e2,z2⟩:=real j' d2 q2;exact k.dis j j' e1 e2 b z1 z2 q3 q4
 · have hc:c≠a:=by
     rintro rfl;exact n ow
   rw [jK hc];exact e
 · by_cases hc:c=a
   · subst hc;rw [jF] at e;cases e
   · rw [jK hc] at e;exact e
def ItC (lo c:Int) (n:Nat):It:=⟨fun i _=>i<n,fun i H x H'=>H'=H/\x= .int (lo+(i:Int)*c),fun i _=>n<=i⟩
def Zd {P:aaE} {w:World} {K:aaa} {tg:Expr} (it:Addr) (lo c:Int) (n:Nat):Turn P w K tg (ItC lo c n) [it] it (fun i h=>IsRangeIter h it (lo+(i:Nat)*c) ((n:Int)-(i:Nat)) c) where
 mem:=by simp
 obj:=fun i h st b hb=>by
  obtain rfl:b=it:=by simpa using hb
  exact ⟨_,st,fun v z=>by
   have z':Data.fields _=Data.cell v:=z
   cases z'⟩
 keep:=fun i h h' st k=>k it (by simp) _ st
 item:=by
  intro X hP hw hK hc i pins s σ H E I hf st hg;subst hP hw hK;obtain ⟨f0,f1,f2,f3,f4,f5⟩:=hf it (by simp);refine (Walks.range (prog:=X.prog) (w:=X.w) (I.ok.hd hc) it lo c n).item i s _ _ hg st fun v h' tk hv st' kk=>?_
  obtain ⟨t,rfl⟩:=hv;have I1:Inv X pins σ H {s with heap:=h',toks:=tk}:=I.turned (fun b o hb e=>kk b o (by simpa using hb) e) f0 f1 f3 f4 f5;exact ⟨_,rfl,Xb (s:={s with heap:=h',toks:=tk}) (n:= "range_iterator") st' rfl rfl (by decide) ⟨.int (lo+(i:Int)*c),H,I1,⟨t,rfl⟩,⟨rfl,rfl⟩,st',fun b hb=>(hf b hb).1⟩⟩
 done:=by
  intro X hP hw hK hc i pins s σ H E I hf st hg;subst hP hw hK;obtain ⟨f0,f1,f2,f3,f4,f5⟩:=hf it (by simp);exact wpAny_pyNext_range_end (I.ok.hd hc) st (by have:n<=i:=hg;omega) fun h' eb=>⟨rfl,I.turned (t':=s.toks) (fun b o hb e=>eb b o hb e) f0 f1 f3 f4 f5⟩
 self:=fun _ _ _ _ _ st h=>wpAny_pyIter_rangeiter st h
def RngC (i j k:Int):Prop:=k≠0/\Builtin.Range.small i j k=true/\Builtin.divisionGoesByPylong (j-i) k=false/\0<=aaA i j k
instance (i j k:Int):Decidable (RngC i j k):=inferInstanceAs (Decidable (_/\_/\_/\_))
section
variable {X:Cx} {tg a b c:Expr} {ta:TA} {p pos:Pos}
def X7 (hg:Gl X "range") (hm:X.mg "range" =none) (ha:PA X [a,b,c] ta) (hs:aag [a,b,c] X.env=[(false,eval a X.env),(false,eval b X.env),(false,eval c X.env)]) (hs2:aag [b,c] X.env=[(false,eval b X.env),(false,eval c X.env)]):
  PI X tg (.Call (.Name "range" p) [a,b,c] [] pos) (fun σ H R=>ta σ H fun vs H1=> ∃i j k:Int,vs=[.int i,.int j,.int k]/\RngC i j k/\R (ItC i k (aaA i j k).toNat) H1):=by
 intro pins s σ H R I h;refine Call_ (QO I hg hm boot_range (abD (thn (ha pos pins s σ H _ I h) fun us s1 ⟨vs,H1,I1,r1,q1⟩=>?_) (by rw [hs,hs2]) (by rw [hs2];rfl)));obtain ⟨i,j,k,rfl,⟨k1,k2,k3,k4⟩,q⟩:=q1
 cases r1 with
 |cons r rr=>
  cases rr with
  |cons r' rr=>
   cases rr with
   |cons r'' rr=>
    cases rr;obtain ⟨t,rfl⟩:=r;obtain ⟨t',rfl⟩:=r';obtain ⟨t'',rfl⟩:=r'';refine call_range_3 k1 ?_ (.inl k3);refine wpAny_pyIter_range (IsRange.new ..) k2 ?_;have I2:Inv X pins σ H1 {s1 with heap:=s1.heap.push {cls:= .type "range",data:= .fields #[.int i t,.int j t',.int k t'']},toks:=s1.toks}:=I1.kept fun b o e=>aah _ e
    refine ⟨_,[(s1.heap.push {cls:= .type "range",data:= .fields #[.int i t,.int j t',.int k t'']}).objs.size],_,_,H1,rfl,I2.kept (t':=s1.toks) fun b o e=>aah _ e,Zd _ i k (aaA i j k).toNat,?_,fun b hb=>?_,q⟩
    · have e1:i+((0:Nat):Int)*k=i:=by simp
      have e2:(((aaA i j k).toNat:Nat):Int)-((0:Nat):Int)=aaA i j k:=by omega
      show IsRangeIter _ _ (i+((0:Nat):Int)*k) ((((aaA i j k).toNat:Nat):Int)-((0:Nat):Int)) k;rw [e1,e2];exact aay _ rfl
    · obtain rfl:b=(s1.heap.push {cls:= .type "range",data:= .fields #[.int i t,.int j t',.int k t'']}).objs.size:=by simpa using hb
      exact I2.fpOk (aan _) (I2.hok.fresh (aan _))
def Jd (lo c:Int) (n:Nat):List D:=(aa0 n).map fun (i:Nat)=> .int (lo+(i:Int)*c)
def Jx (lo c:Int) (n:Nat):List V:=(aa0 n).map fun (i:Nat)=> .int (lo+(i:Int)*c)
def YD {K:aaa} {A:Zi} {H:Hp} (lo c:Int) (n:Nat):Reps K A H (Jx lo c n) (Jd lo c n):=by
 unfold Jx Jd;generalize aa0 n=l
 induction l with
 |nil=>exact .nil
 |cons c r ih=>exact .cons (.int _) ih
def Zb (lo c:Int) (n:Nat):Walk (ItC lo c n) (Jx lo c n) (fun _=>True):=fun i H _=>by
 have hl:(Jx lo c n).length=n:=by simp [Jx]
 refine ⟨fun hi=>by rw [hl] at hi;exact hi,fun hi x H2 ⟨y1,y2⟩=>⟨y1,?_⟩,fun hi=>by rw [hl] at hi;exact hi⟩;subst y2;rw [hl] at hi;simp [Jx,hi]
def rng3:List D->Res (List D)
 | [.int i,.int j,.int k]=>must (RngC i j k) (.ok (Jd i k (aaA i j k).toNat))
 |_=> .stuck
def WW (fa:T2):Sl->Res (List D):=fun env=>fa env>>=rng3
def Reps.three {K:aaa} {A:Zi} {H:Hp} {vs:List V} {d d' d'':D} (r:Reps K A H vs [d,d',d'']): ∃v v' v'',vs=[v,v',v'']/\Rep K A H v d/\Rep K A H v' d'/\Rep K A H v'' d'':=by
 cases r with
 |cons h t=>
  obtain ⟨v',v'',rfl,h',h''⟩:=t.two;exact ⟨_,_,_,rfl,h,h',h''⟩
def Y1 {l:Lv} {fa:T2} (hg:Gl X "range") (hm:X.mg "range" =none) (ha:DA X l [a,b,c] fa) (hs:aag [a,b,c] X.env=[(false,eval a X.env),(false,eval b X.env),(false,eval c X.env)]:=by rfl) (hs2:aag [b,c] X.env=[(false,eval b X.env),(false,eval c X.env)]:=by rfl):
   DI X tg (.Call (.Name "range" p) [a,b,c] [] pos) (WW fa):=by
 with_unfolding_all exact (
  PI.imp (X7 hg hm ha hs hs2) fun σ H R ⟨G,H0,env,ds,k,ef,q⟩=>by
   obtain ⟨as,e1,e2⟩:=ja ef;refine ⟨G,H0,env,as,k,e1,fun vs H1 s1 r1=>?_⟩;unfold rng3 at e2
   split at e2
   · obtain ⟨hb,e3⟩:=jn e2;cases e3;obtain ⟨v,v',v'',rfl,r,r',r''⟩:=r1.three;cases r.intE;cases r'.intE;cases r''.intE;exact ⟨_,_,_,rfl,hb,q _ H1 _ s1 (Walk.toD (YD _ _ _) (Zb _ _ _)) trivial fun _ _ _ _=>trivial⟩
   · cases e2)
def Wi:Sl->Res Out:=fun _=> .stuck
def y6 {sts:List Stmt}:DSs X sts Wi:=by
 with_unfolding_all exact (PSs.imp X3 fun E σ H ⟨G,H0,env,o,k,ef,q⟩=>by cases ef)
end
end M
namespace M
open PySem PySem.W PyProof.Rows
structure Ord (lt:Nat->Nat->Bool) (n:Nat):Prop where
 asym: ∀i j,lt i j=true->lt j i=false
 trans: ∀i j k,i<n->j<n->k<n->lt i j=true->lt j k=true->lt i k=true
 total: ∀i j,i<n->j<n->i≠j->lt i j=true\/lt j i=true
section
variable {lt:Nat->Nat->Bool} {n:Nat} (O:Ord lt n)
include O
end
abbrev Hd:=Str×Int
def hlt (a b:Hd):Bool:=if a.1=b.1 then decide (a.2<b.2) else decide (a.1.cps.toList<b.1.cps.toList)
end M
namespace M
open PySem PySem.Spec L2
open PyProof.Rows hiding St
section
variable {X:Cx} {K:aaa} {l1 l2:Lv} {e1 e2:Expr} {fk fv:T5} {pos cpos apos p:Pos} {x:Str}
def hdD (a:Hd):D:= .tup [.str a.1,.int a.2]
end
end M
namespace M
open PySem PySem.Spec L2
mutual
def bks:D->List Int
 | .int i=>[i]
 | .tup (_::ts)=>bkss ts
 |_=>[]
def bkss:List D->List Int
 | []=>[]
 |d::r=>bks d++bkss r
end
mutual
def bare:D->D
 | .tup (x::ts)=> .tup (x::bares ts)
 |_=> .int 0
def bares:List D->List D
 | []=>[]
 |d::r=>bare d::bares r
end
theorem wW: ∀ts,bkss ts=ts.flatMap bks
 | []=>rfl
 |d::r=>by simp [bkss,wW r]
theorem YT: ∀ {ts:List D},(∀t∈ts,D.eqb t=true)->D.eqbs ts=true
 | [],_=>rfl
 |x::r,h=>by simp only [D.eqbs,aal];exact ⟨h x (by simp),YT fun d hd=>h d (by simp [hd])⟩
theorem Y2 {k:Nat}: ∀ {ts:List D},(∀t∈ts,D.dep t<=k)->D.deps ts<=k
 | [],_=>by simp [D.deps]
 |x::r,h=>by
  simp only [D.deps];have:=h x (by simp);have:=Y2 (ts:=r) fun d hd=>h d (by simp [hd])
  omega
theorem QS: ∀ {ts:List D},(∀t∈ts,eqD t t=true)->eqDs ts ts=true
 | [],_=>by simp [eqDs]
 |x::r,h=>by simp only [eqDs,aal];exact ⟨h x (by simp),QS fun d hd=>h d (by simp [hd])⟩
def ins (l:List Int) (x:Int):List Int:=if x∈l then l else l++[x]
def met (l xs:List Int):List Int:=xs.foldl ins l
def dvs (n:Nat):List Int->List D
 | []=>[]
 |_::r=> .int n::dvs (n+1) r
mutual
def tk (ns:List Str):D->Bool
 | .int _=>true
 | .tup (.str z::ts)=>decide (z∈ns)&&(decide (ts.length<=9)&&tks ns ts)
 |_=>false
def tks (ns:List Str):List D->Bool
 | []=>true
 |d::r=>tk ns d&&tks ns r
end
section
variable {ns:List Str}
mutual
theorem xu {P:D->Prop} (h1: ∀i,P (.int i)) (h2: ∀z ts,z∈ns->ts.length<=9->(∀t∈ts,tk ns t=true/\P t)->P (.tup (.str z::ts))): ∀t,tk ns t=true->P t
 | .int i,_=>h1 i
 | .tup (x::ts),h=>by
  cases x with
  |str z=>
   simp only [tk,aal,decide_eq_true_eq] at h;exact h2 z ts h.1 h.2.1 (tk_ind2 h1 h2 ts h.2.2)
  |_=>simp [tk] at h
 | .tup [],h=>by simp [tk] at h
 | .non,h=>by simp [tk] at h
 | .bl _,h=>by simp [tk] at h
 | .str _,h=>by simp [tk] at h
 | .lst _,h=>by simp [tk] at h
 | .scr _,h=>by simp [tk] at h
 | .dic _ _,h=>by simp [tk] at h
 | .dit _ _,h=>by simp [tk] at h
 | .exn _,h=>by simp [tk] at h
 | .fdc _ _,h=>by simp [tk] at h
 | .hdc _ _,h=>by simp [tk] at h
 | .obj _ _ _,h=>by simp [tk] at h
theorem tk_ind2 {P:D->Prop} (h1: ∀i,P (.int i)) (h2: ∀z ts,z∈ns->ts.length<=9->(∀t∈ts,tk ns t=true/\P t)->P (.tup (.str z::ts))): ∀ts,tks ns ts=true-> ∀t∈ts,tk ns t=true/\P t
 | [],_,t,ht=>by cases ht
 |d::r,h,t,ht=>by
  simp only [tks,aal] at h;have a:=xu h1 h2 d h.1;have b:=tk_ind2 h1 h2 r h.2;rcases aaw.mp ht with e|e
  · rw [e];exact ⟨h.1,a⟩
  · exact b t e
end
theorem Vn: ∀ {ts:List D},(∀t∈ts,tk ns t=true)->tks ns ts=true
 | [],_=>rfl
 |x::r,h=>by simp only [tks,aal];exact ⟨h x (by simp),Vn fun d hd=>h d (by simp [hd])⟩
theorem Xw: ∀ {ts:List D} {t:D},tks ns ts=true->t∈ts->tk ns t=true
 |x::r,t,h,ht=>by
  simp only [tks,aal] at h;rcases aaw.mp ht with rfl|ht
  · exact h.1
  · exact Xw h.2 ht
def Xx {z:Str} {ts:List D} (hz:z∈ns) (h:ts.length<=9) (ht: ∀t∈ts,tk ns t=true):tk ns (.tup (.str z::ts))=true:=by
 simp only [tk,aal,decide_eq_true_eq];exact ⟨hz,h,Vn ht⟩
def xa {t:D} (h:tk ns t=true):(∃i,t= .int i)\/ ∃z ts,t= .tup (.str z::ts)/\z∈ns/\ts.length<=9/\ ∀u∈ts,tk ns u=true:=by
 cases t with
 |int i=>exact .inl ⟨i,rfl⟩
 |tup ds=>
  cases ds with
  |nil=>simp [tk] at h
  |cons x ts=>
   cases x with
   |str z=>
    simp only [tk,aal,decide_eq_true_eq] at h;exact .inr ⟨z,ts,rfl,h.1,h.2.1,fun u hu=>Xw h.2.2 hu⟩
   |_=>simp [tk] at h
 |_=>simp [tk] at h
def ZG: ∀t,tk ns t=true->fine t=true:=xu (fun i=>rfl) fun z ts _ hl h=>by
 simp only [fine,fines,aal,decide_eq_true_eq,aab,true_and];exact ⟨by omega,J9 fun t ht=>(h t ht).2⟩
def YF: ∀t,tk ns t=true->t.imm=true:=xu (fun i=>rfl) fun z ts _ hl h=>by
 show (true&&D.imms ts)=true;rw [acH];exact imms_iff.mpr fun t ht=>(h t ht).2
def sumN (a s:Nat):Nat->Nat
 |0=>0
 |k+1=>sumN a s k+(a+k)/s
theorem Jn (a s:Nat): ∀k,sumN (a+1) s k+a/s=sumN a s (k+1)
 |0=>by simp [sumN]
 |k+1=>by
  have ih:=Jn a s k;have e:a+1+k=a+(k+1):=by omega
  show sumN (a+1) s k+(a+1+k)/s+a/s=sumN a s (k+1)+(a+(k+1))/s;rw [e];omega
theorem Qv (s:Nat): ∀k,k<=s->sumN 0 s k=0
 |0,_=>rfl
 |k+1,h=>by
  show sumN 0 s k+(0+k)/s=0;rw [Qv s k (by omega),Nat.div_eq_of_lt (by omega)]
def Kt {a s:Nat} (h1:1<=s) (h2:s<=9):sumN a s s=a:=by
 induction a with
 |zero=>exact Qv s s (aan _)
 |succ a ih=>
  have h:=Jn a s s;have e:sumN a s (s+1)=sumN a s s+(a+s)/s:=rfl;rw [e,ih,Nat.add_div_right a (by omega)] at h;omega
end
open Classical in
noncomputable instance decD:DecidableEq D:=fun a b=>propDecidable (a=b)
end M
namespace M
open PySem PySem.Spec L2
open PyProof.Rows hiding St
inductive OutI where
 |nx (env:Sl)|rt (b:Bool) (env:Sl)
abbrev At (σ:L2.St) (i:Nat) (a:Addr):Prop:=σ[i]?=some (some (V.ref a))
section
variable {K:aaa} {G:Zi} {H0 H H':Hp} {env env':Sl} {σ σ':L2.St} {i:Nat} {a:Addr} {E:Ends}
def EnvOk.anew {d d':D} (k:EnvOk K G H0 env σ H) (hi:env[i]?=some (.own d)) (ha:At σ i a) (hs: ∀c o,c≠a->H c=some o->H' c=some o) (t:Top K (Sf G env σ) H' a d'):
   EnvOk K G H0 (env.set i (.own d')) σ H'/\Frm env σ H (env.set i (.own d')) σ H':=by
 have hl:i<env.length:=(aaq.mp hi).1;have ow:qR env σ a:=⟨i,_,hi,ha⟩
 have same: ∀c,qR (env.set i (.own d')) σ c->qR env σ c:=fun c ⟨j,e,h1,h2⟩=>by
   by_cases z:i=j
   · subst z;exact ⟨i,d,hi,h2⟩
   · exact ⟨j,e,by rw [jm z] at h1;exact h1,h2⟩
 obtain ⟨a',ha',h0a,ta⟩:=k.own i _ hi;rw [ha] at ha';cases ha';obtain ⟨o0,ho0,mo0⟩:=ta.there
 have st:Stay (Sf G env σ) H H':=fun c o e m=>hs c o (by
   rintro rfl;rw [ho0] at e;cases e
   exact (m mo0).1 ow) e
 have w: ∀c,Sf G env σ c->Sf G (env.set i (.own d')) σ c:=fun c n=>⟨fun o=>n.1 (same c o),n.2⟩
 refine ⟨⟨by simp [k.len],fun c o e=>?_,k.g0,fun j e h=>?_,fun j e h=>?_,fun j j' d1 d2 b q1 q2 q3 q4=>?_⟩,⟨fun c o e n=>?_,fun c o=> .inl (same c o),fun c e=>?_⟩⟩
 · exact hs c o (by rintro rfl;rw [h0a] at e;cases e) (k.base c o e)
 · by_cases z:i=j
   · subst z;obtain ⟨q,_⟩:=ju h;cases q
   · rw [jm z] at h;obtain ⟨v,h1,h2⟩:=k.shr j e h;exact ⟨v,h1,h2.stay st w⟩
 · by_cases z:i=j
   · subst z;obtain ⟨q,_⟩:=ju h;cases q;exact ⟨a,ha,h0a,t.stay (fun _ _ e _=>e) w fun _ e=>e⟩
   · rw [jm z] at h;obtain ⟨b,h1,h0,h2⟩:=k.own j e h
     have hb:b≠a:=by
       rintro rfl;exact z (k.dis i j _ _ b hi h ha h1)
     exact ⟨b,h1,h0,h2.stay st w fun o e=>hs b o hb e⟩
 · have real: ∀(j:Nat) (d1:D),(env.set i (.own d'))[j]?=some (.own d1)-> ∃d0:D,env[j]?=some (.own d0):=fun j d1 q=>by
     by_cases z:i=j
     · subst z;exact ⟨_,hi⟩
     · exact ⟨d1,by rw [jm z] at q;exact q⟩
   obtain ⟨e1,z1⟩:=real j d1 q1;obtain ⟨e2,z2⟩:=real j' d2 q2;exact k.dis j j' e1 e2 b z1 z2 q3 q4
 · exact hs c o (by rintro rfl;exact n ow) e
 · cases z:H c with
   |none=>rfl
   |some o=>
     by_cases hc:c=a
     · subst hc;obtain ⟨o1,h1,_⟩:=t.there;rw [h1] at e;cases e
     · rw [hs c o hc z] at e;cases e
end
abbrev FI:=List D->List Key->List D->Res (Bool×List Key×List D)
def getN (f:Str):List Str->List D->Option D
 |n::ns,d::ds=>if n=f then some d else getN f ns ds
 |_,_=>none
def JR (f:Str):List Str->List Str
 | []=>[f]
 |n::ns=>if n=f then n::ns else n::JR f ns
def JS (f:Str) (d:D):List Str->List D->List D
 | [],_=>[d]
 |n::ns,e::es=>if n=f then d::es else e::JS f d ns es
 |_::_,[]=>[]
theorem yu {K:aaa} {A:Zi} {H:Hp} {f:Str}: ∀ {fs:List (Str×V)} {ds:List D} {d:D},Reps K A H (fs.map (·.2)) ds->getN f (fs.map (·.1)) ds=some d-> ∃v,fs.lookup f=some v/\Rep K A H v d
 | [],_,_,_,h=>by simp [getN] at h
 | (n,v)::r,_,d,.cons q t,h=>by
  by_cases e:n=f
  · subst e;simp only [aaL,getN,if_pos] at h;cases h;exact ⟨v,by simp [abz],q⟩
  · simp only [aaL,getN,if_neg e] at h;obtain ⟨v',h1,h2⟩:=yu t h;exact ⟨v',by rw [abi];simp [show (f==n)=false from by simpa using fun z=>e z.symm,h1],h2⟩
theorem JT {K:aaa} {A:Zi} {H:Hp} {f:Str} {v:V} {d:D} (rv:Rep K A H v d): ∀ {fs:List (Str×V)} {ds:List D},Reps K A H (fs.map (·.2)) ds->(putF f v fs).map (·.1)=JR f (fs.map (·.1))/\Reps K A H ((putF f v fs).map (·.2)) (JS f d (fs.map (·.1)) ds)
 | [],_,.nil=>⟨rfl,.cons rv .nil⟩
 | (n,u)::r,_,.cons q t=>by
  by_cases e:n=f
  · simp only [putF,aaL,JR,JS,if_pos e];exact ⟨trivial,.cons rv t⟩
  · simp only [putF,aaL,JR,JS,if_neg e];obtain ⟨h1,h2⟩:=JT rv t;exact ⟨by rw [h1],.cons q h2⟩
theorem yQ {f:Str}: ∀ {fs:List (Str×V)},(fs.map (·.1)).contains f=false->fs.lookup f=none
 | [],_=>rfl
 | (n,u)::r,h=>by
  simp only [aaL,List.contains_cons,Bool.or_eq_false_iff] at h;rw [abi];simp [h.1,yQ h.2]
def Rep.objE {K:aaa} {A:Zi} {H:Hp} {v:V} {c:Str} {ns:List Str} {ds:List D} (r:Rep K A H v (.obj c ns ds)): ∃a C dx fs,v= .ref a/\H a=some (.ins C dx fs)/\A a/\aao K aam c=some (some (.ref C))/\fs.map (·.1)=ns/\Reps K (fun c=>A c/\c≠a) H (fs.map (·.2)) ds:=by
 cases r with
 |obj e a k1 k2 r=>subst k2;exact ⟨_,_,_,_,rfl,e,a,k1.1,k1.2,r⟩
def yF {K:aaa} {G:Zi} {H0 H:Hp} {env:Sl} {σ:L2.St} {i:Nat} {c:Str} {ns:List Str} {ds:List D} (k:EnvOk K G H0 env σ H) (hi:env[i]?=some (.own (.obj c ns ds))):
  ∃a C dx fs,σ[i]?=some (some (.ref a))/\H a=some (.ins C dx fs)/\aao K aam c=some (some (.ref C))/\fs.map (·.1)=ns/\Reps K (Sf G env σ) H (fs.map (·.2)) ds:=by
 obtain ⟨a,h1,_,h2⟩:=k.own i _ hi
 cases h2 with
 |obj e k1 k2 r=>subst k2;exact ⟨a,_,_,_,h1,e,k1.1,k1.2,r⟩
structure FldN (K:aaa) (c f:Str):Prop where
 ex: ∃C,aao K aam c=some (some (.ref C))/\Cls K C/\NoAttr K C f
def FldN.at {K:aaa} {c f:Str} {C:Addr} (h:FldN K c f) (e:aao K aam c=some (some (.ref C))):Cls K C/\NoAttr K C f:=by
 obtain ⟨C',h1,h2⟩:=h.ex;rw [e] at h1;cases h1;exact h2
def fldD (c f:Str):D->Res D
 | .obj c' ns ds=>must (c'=c) (match getN f ns ds with
  |some d=> .ok d
  |none=> .stuck)
 |_=> .stuck
def K8 {c f:Str} {o d:D} (h:fldD c f o= .ok d): ∃ns ds,o= .obj c ns ds/\getN f ns ds=some d:=by
 unfold fldD at h
 split at h
 · rename_i c' ns ds;obtain ⟨hc,h2⟩:=jn h;subst hc
   cases e:getN f ns ds with
   |none=>rw [e] at h2;cases h2
   |some d'=>rw [e] at h2;cases h2;exact ⟨ns,ds,rfl,e⟩
 · cases h
def fldF (c f:Str) (fo:T5):Sl->Res D:=fun env=>fo env>>=fldD c f
section
variable {X:Cx} {e:Expr} {fo:T5} {pos p:Pos} {c f:Str}
def zg (i:Nat) {x:Str} (hf:FldN X.K c f) (hN:X.N[i]?=some x:=by rfl) (hv:Vis X.env.scope x:=by first|exact abg rfl|exact aaR (abg rfl)|exact aaR (aaR rfl))
   (hd:Z2 x:=by decide) (hcd:Zk x:=by decide)
   (hb:aaY (.Name x p) f X.env (eval (.Name x p) X.env)=eval (.Name x p) X.env:=by rfl):DE X .s (.Attribute (.Name x p) f pos) (fldF c f (rdB i)):=by
 with_unfolding_all exact (
  PE.imp (kE (zI (i:=i) hN hv hd hcd) hb) fun σ H Q ⟨G,H0,env,d,k,ef,q⟩=>by
   obtain ⟨o,e1,e2⟩:=ja ef;obtain ⟨ns,ds,rfl,e3⟩:=K8 e2;rcases X0 e1 with z|z
   · obtain ⟨v,h1,h2⟩:=k.shr i _ z;obtain ⟨a,C,dx,fs,rfl,ha,_,hc,hn,rs⟩:=h2.objE;subst hn;obtain ⟨v',g1,g2⟩:=yu rs e3;exact ⟨_,h1,a,C,dx,fs,v',rfl,ha,(hf.at hc).1,(hf.at hc).2,g1,q v' H (Same.refl H) (g2.weak fun _ z=>z.1) trivial⟩
   · obtain ⟨a,C,dx,fs,h1,ha,hc,hn,rs⟩:=yF k z;subst hn;obtain ⟨v',g1,g2⟩:=yu rs e3
     exact ⟨_,h1,a,C,dx,fs,v',rfl,ha,(hf.at hc).1,(hf.at hc).2,g1,q v' H (Same.refl H) g2 trivial⟩)
end
inductive OutO where
 |nx (env:Sl)|rt (d:D) (env:Sl)
def U5 (K:aaa) (G:Zi) (H0:Hp) (i:Nat) (a:Addr) (env:Sl) (σ:L2.St) (H:Hp) (E:Ends):OutO->Prop
 | .nx env'=> ∀σ' H',EnvOk K G H0 env' σ' H'->At σ' i a->Frm env σ H env' σ' H'->E.nx σ' H'
 | .rt d env'=> ∀v σ' H',EnvOk K G H0 env' σ' H'->At σ' i a->Frm env σ H env' σ' H'->Rep K (Sf G env' σ') H' v d->E.rt v H'
def tSO (K:aaa) (i:Nat) (g:Sl->Res OutO):TS:=fun E σ H=> ∃G H0 env o a,EnvOk K G H0 env σ H/\At σ i a/\g env= .ok o/\U5 K G H0 i a env σ H E o
@[irreducible] def DSO (X:Cx) (i:Nat) (st:Stmt) (g:Sl->Res OutO):Prop:=PS X st (tSO X.K i g)
@[irreducible] def DSsO (X:Cx) (i:Nat) (st:List Stmt) (g:Sl->Res OutO):Prop:=PSs X st (tSO X.K i g)
theorem yG {K:aaa} {G:Zi} {H0 H H':Hp} {env env':Sl} {σ σ':L2.St} {i:Nat} {a:Addr} {E:Ends} {o:OutO} (f:Frm env σ H env' σ' H') (q:U5 K G H0 i a env σ H E o):U5 K G H0 i a env' σ' H' E o:=by
 cases o with
 |nx e=>exact fun σ2 H2 k2 a2 f2=>q σ2 H2 k2 a2 (f.trans f2)
 |rt b e=>exact fun v σ2 H2 k2 a2 f2 r2=>q v σ2 H2 k2 a2 (f.trans f2) r2
section
variable {X:Cx} {i:Nat} {e c0 tg:Expr} {st:Stmt} {rest body orelse:List Stmt} {pos p apos:Pos} {l:Lv} {f:T5} {g g1 g2:Sl->Res OutO} {c n x:Str}
def seqJ (g1 g2:Sl->Res OutO):Sl->Res OutO:=fun env=>g1 env>>=fun o=>match o with
 | .nx env'=>g2 env'
 | .rt b e=> .ok (.rt b e)
def jC (h1:DSO X i st g1) (h2:DSsO X i rest g2):DSsO X i (st::rest) (seqJ g1 g2):=by
 with_unfolding_all exact (PSs.imp (Z4 h1 h2) fun E σ H ⟨G,H0,env,o,a,k,ha,ef,q⟩=>by
  obtain ⟨o1,e1,e2⟩:=ja ef;refine ⟨G,H0,env,o1,a,k,ha,e1,?_⟩
  cases o1 with
  |nx env1=>exact fun σ' H' k' a' f'=>⟨G,H0,env1,o,a,k',a',e2,yG f' q⟩
  |rt b env1=>cases e2;exact q)
def jP (h1:DSO X i st g1):DSsO X i [st] g1:=by
 with_unfolding_all exact (PSs.imp (X1 h1) fun E σ H q=>q)
def nxJ:Sl->Res OutO:=fun env=> .ok (.nx env)
def zr:DSsO X i [] nxJ:=by
 with_unfolding_all exact (PSs.imp X2 fun E σ H ⟨G,H0,env,o,a,k,ha,ef,q⟩=>by
  cases ef
  exact q σ H k ha (Frm.refl (Same.refl H)))
def ifJ (t:T4) (g1 g2:Sl->Res OutO):Sl->Res OutO:=fun env=>t env>>=fun b=>if b=true then g1 env else g2 env
def QU {t:T4} (hc:DT X c0 t) (h1:DSsO X i body g1) (h2:DSsO X i orelse g2):DSO X i (.If c0 body orelse pos) (ifJ t g1 g2):=by
 with_unfolding_all exact (PS.imp (Uj hc h1 h2) fun E σ H ⟨G,H0,env,o,a,k,ha,ef,q⟩=>by
  obtain ⟨b,e1,e2⟩:=ja ef;refine ⟨G,H0,env,b,k,e1,fun H' s=>?_⟩
  cases b with
  |true=>
   rw [if_pos rfl] at e2 ⊢;exact ⟨G,H0,env,o,a,k.grow s,ha,e2,yG (Frm.refl s) q⟩
  |false=>
   rw [if_neg aaB] at e2 ⊢
   exact ⟨G,H0,env,o,a,k.grow s,ha,e2,yG (Frm.refl s) q⟩)
def Jo:Sl->Res OutO:=fun _=> .stuck
def wO:DSO X i st Jo:=by
 with_unfolding_all exact (fun pins s σ H E I ⟨G,H0,env,o,a,k,ha,ef,q⟩=>by cases ef)
def ownJ (i:Nat) (c:Str):Sl->Res (List Str×List D):=fun env=>match env[i]? with
 |some (.own (.obj c' ns ds))=>must (c'=c) (.ok (ns,ds))
 |_=> .stuck
def yr {q:List Str×List D} {env:Sl} (h:ownJ i c env= .ok q):env[i]?=some (.own (.obj c q.1 q.2)):=by
 unfold ownJ at h
 split at h
 · rename_i c' ns ds e;obtain ⟨hc,h2⟩:=jn h;subst hc;cases h2;exact e
 · cases h
def VZ (i:Nat) (c n:Str) (f:T5):Sl->Res OutO:=fun env=>f env>>=fun d=>ownJ i c env>>=fun q=>must (q.1.length<1000) (.ok (.nx (env.set i (.own (.obj c (JR n q.1) (JS n d q.1 q.2))))))
def Wz (hf:FldN X.K c n) (h:DE X .s e f) (hN:X.N[i]?=some x:=by rfl) (hv:Vis X.env.scope x:=by first|exact abg rfl|exact aaR (abg rfl)|exact aaR (aaR rfl))
   (hd:Z2 x:=by decide) (hcd:Zk x:=by decide)
   (hs:abB e (some (.Attribute (.Name x p) n apos)) pos.line X.env=pure false:=by rfl):DSO X i (.Assign [.Attribute (.Name x p) n apos] e pos) (VZ i c n f):=by
 with_unfolding_all exact (
  PS.imp (kt (zI (i:=i) hN hv hd hcd) h hs) fun E σ H ⟨G,H0,env,o,a,k,ha,ef,q⟩=>by
   obtain ⟨d,e1,ef⟩:=ja ef;obtain ⟨ns,e2,ef⟩:=ja ef;obtain ⟨hz,e3⟩:=jn ef;cases e3;have hi:=yr e2;refine ⟨G,H0,env,d,k,e1,fun y H1 s1 r1 _=>?_⟩;obtain ⟨a',C,dx,fs,h1,hx,hc,hn,rs⟩:=yF (k.grow s1) hi;rw [ha] at h1;cases h1;refine ⟨_,ha,a,C,dx,fs,rfl,hx,(hf.at hc).1,(hf.at hc).2,by rw [←hn,aaC] at hz;exact hz,?_⟩;obtain ⟨p1,p2⟩:=JT (f:=n) r1 rs;rw [hn] at p1 p2;have W:=(k.grow s1).writeG (o':= .ins C dx (putF n y fs)) (d':= .obj c (JR n ns.1) (JS n d ns.1 ns.2)) hi ha hx trivial fun A' H' st e w=> .obj e ⟨hc,p1⟩ rfl (p2.stay st w)
   exact q σ _ W.1 ha (W.2.grow s1))
end
section
variable {X:Cx} {k n:Nat} {c m:Str} {ps:List Str} {fr:Bool} {F:T1} {o e:Expr} {es:List Expr} {pos apos:Pos} {fo:T5} {g:T2} {pl:Sem Bool}
def noA:Sl->Res (List D):=fun _=> .ok []
end
abbrev FO:=D->List D->Res (D×D)
def spJ (K:aaa) (n:Nat) (F:FO):Sp:=fun vs H Q _=> ∃(B:Zi) (ds:List D) (us:List V) (a:Addr) (d0 r d1:D),vs=V.ref a::us/\us.length=n/\Reps K (fun c=>B c/\c≠a) H us ds/\Top K (fun c=>B c/\c≠a) H a d0/\F d0 ds= .ok (r,d1)/\
 ∀v H',(∀c o,c≠a->H c=some o->H' c=some o)->Top K (fun c=>(H c=none\/B c)/\c≠a) H' a d1->Rep K (fun c=>(H c=none\/B c)/\c≠a) H' v r->Q v H'
def xF (n:Nat) (d0:D) (ds:List D):Sl:= .own d0::(ds.map .shr++ab7 (n-ds.length-1) .un)
def xb {n:Nat} {d0:D} {ds:List D} {j:Nat} {s:Slot} (h:(xF n d0 ds)[j]?=some s):(j=0/\s= .own d0)\/(∃j' d,j=j'+1/\ds[j']?=some d/\s= .shr d)\/s= .un:=by
 unfold xF at h
 cases j with
 |zero=>simp at h;exact .inl ⟨rfl,h.symm⟩
 |succ j=>
  rw [abA] at h
  by_cases q:j<ds.length
  · rw [aar (by simpa using q),aaJ] at h
    cases e:ds[j]? with
    |none=>rw [e] at h;cases h
    |some x=>rw [e] at h;cases h;exact .inr (.inl ⟨j,x,rfl,e,rfl⟩)
  · rw [aaj (by simpa using q),aaM] at h
    split at h
    · cases h;exact .inr (.inr rfl)
    · cases h
def Xe {K:aaa} {B:Zi} {N:List Str} {us:List V} {ds:List D} {a:Addr} {d0:D} {H:Hp} (r:Reps K (fun c=>B c/\c≠a) H us ds) (t:Top K (fun c=>B c/\c≠a) H a d0) (hN:ds.length+1<=N.length):
   EnvOk K (fun c=>H c=none\/c=a\/B c) (fun c=>if c=a then none else H c) (xF N.length d0 ds) (start N (V.ref a::us)) H/\At (start N (V.ref a::us)) 0 a:=by
 have hl:=r.length
 have hat:At (start N (V.ref a::us)) 0 a:=by
   show (L2.start N (V.ref a::us))[0]?=_;unfold L2.start;simp
 have hget: ∀(j:Nat) (v:V),us[j]?=some v->(start N (V.ref a::us))[j+1]?=some (some v):=fun j v h=>by
   have hj:=(aaq.mp h).1;unfold L2.start;rw [aar (by simp;omega),aaJ,abA,h];rfl
 have own1: ∀c,qR (xF N.length d0 ds) (start N (V.ref a::us)) c->c=a:=fun c ⟨j,d,h1,h2⟩=>by
   rcases xb h1 with ⟨rfl,_⟩| ⟨_,_,_,_,z⟩|z
   · rw [hat] at h2;cases h2;rfl
   · cases z
   · cases z
 have w: ∀c,B c/\c≠a->Sf (fun c=>H c=none\/c=a\/B c) (xF N.length d0 ds) (start N (V.ref a::us)) c:=fun c z=>⟨fun o=>z.2 (own1 c o),.inr (.inr z.1)⟩
 refine ⟨⟨?_,fun c o e=>?_,fun c e=>?_,fun j d h=>?_,fun j d h=>?_,fun j j' d e b h1 h2 h3 h4=>?_⟩,hat⟩
 · simp [L2.start,xF,hl];omega
 · split at e
   · cases e
   · exact e
 · split at e
   · rename_i z;exact .inr (.inl z)
   · exact .inl e
 · rcases xb h with ⟨_,z⟩| ⟨j',d',rfl,e,z⟩|z
   · cases z
   · cases z;obtain ⟨v,h1,h2⟩:=r.get e;exact ⟨v,hget j' v h1,h2.weak w⟩
   · cases z
 · rcases xb h with ⟨rfl,z⟩| ⟨j',d',_,e,z⟩|z
   · cases z;exact ⟨a,hat,if_pos rfl,t.stay (fun _ _ e _=>e) w fun _ e=>e⟩
   · cases z
   · cases z
 · have real: ∀(j:Nat) (d:D),(xF N.length d0 ds)[j]?=some (.own d)->j=0:=fun j d h=>by
     rcases xb h with ⟨z,_⟩| ⟨_,_,_,_,z⟩|z
     · exact z
     · cases z
     · cases z
   rw [real j d h1,real j' e h2]
def XS:Sl->Res D
 | .own d::_=> .ok d
 |_=> .stuck
def XR {env:Sl} {d:D} (h:XS env= .ok d):env[0]?=some (.own d):=by
 unfold XS at h
 split at h
 · cases h;rfl
 · cases h
def runJ (N n:Nat) (g:Sl->Res OutO):FO:=fun d0 ds=>must (ds.length=n) (g (xF N d0 ds)>>=fun o=>match o with
 | .nx env=>XS env>>=fun d=> .ok (.non,d)
 | .rt r env=>XS env>>=fun d=> .ok (r,d))
section
variable {P:aaE} {w:World} {K:aaa} {mg:Zj} {base:Heap}
def VJ {m qual:Str} {st:Stmt} {f:Addr} {fd:abo} {N ps:List Str} {k n:Nat} {g:Sl->Res OutO} (Fu:Fun K m qual st f fd) (S:FnScope N ps (je st)) (hn:ps.length=n+1) (hN:n+1<=N.length)
  (hb: ∀(cdv:Value) (A:aa5) (outer:List Env) (s:aaf) (H:Hp) (E:XK),Room k (A.deeper (ace qual (je st) s.heap.objs.size f cdv))->DSsO (cxOf CX0 P w K mg base N qual (je st) f cdv A outer s H E).nox 0 (qe st) g):
  FnOk P w K mg base CX0 (k+1) f fd ps (spJ K n (runJ N.length n g)):=by
 with_unfolding_all exact (by
 refine Fu.ok S (fun vs H Q E ⟨B,ds,us,a,d0,r,d1,ev,hl,_⟩=>by rw [ev,aab,hl,hn]) (fun cdv A outer s H vs Q E hr h=>?_);obtain ⟨B,ds,us,a,d0,r,d1,ev,hl,rs,t,eF,q⟩:=h;refine ⟨_,hb cdv A outer s H E hr,?_⟩;obtain ⟨e0,eF⟩:=jn eF;obtain ⟨o,e1,eF⟩:=ja eF;subst ev;obtain ⟨kk,hat⟩:=Xe (N:=N) rs t (by omega)
 have fin: ∀(env':Sl) (σ':L2.St) (H':Hp) (v:V),EnvOk K (fun c=>H c=none\/c=a\/B c) (fun c=>if c=a then none else H c) env' σ' H'->At σ' 0 a->XS env'= .ok d1->Rep K (Sf (fun c=>H c=none\/c=a\/B c) env' σ') H' v r->Q v H':=fun env' σ' H' v k' a' e2 rv=>by
  have hi:=XR e2;obtain ⟨a2,h1,_,t2⟩:=k'.own 0 _ hi;rw [a'] at h1;cases h1
  have ww: ∀c,Sf (fun c=>H c=none\/c=a\/B c) env' σ' c->(H c=none\/B c)/\c≠a:=fun c z=>by
   have hca:c≠a:=by
     rintro rfl;exact z.1 ⟨0,_,hi,a'⟩
   refine ⟨?_,hca⟩;rcases z.2 with z|z|z
   · exact .inl z
   · exact absurd z hca
   · exact .inr z
  exact q v H' (fun c o hc e=>k'.base c o (by rw [if_neg hc];exact e)) (t2.stay (fun _ _ e _=>e) ww fun _ e=>e) (rv.weak ww)
 refine ⟨_,_,_,o,a,kk,hat,e1,?_⟩
 cases o with
 |nx env'=>
  obtain ⟨d,e2,e3⟩:=ja eF;cases e3;exact fun σ' H' k' a' f'=>fin env' σ' H' .non k' a' e2 .non
 |rt r' env'=>
  obtain ⟨d,e2,e3⟩:=ja eF;cases e3
  exact fun v σ' H' k' a' f' rv=>fin env' σ' H' v k' a' e2 rv)
end
structure AvK (P:aaE) (w:World) (K:aaa) (mg:Zj) (base:Heap) (k:Nat) (c:Str) (n:Nat) (F:FO):Prop where
 ex: ∃C f fd ps,FnOk P w K mg base CX0 k f fd ps (spJ K n F)/\aao K aam c=some (some (.ref C))/\mg c=some (.ref C)/\Mk K C f/\Binds K fd ps []
def KZ (c:Str) (n:Nat) (F:FO) (g:T2):Sl->Res D:=fun env=>g env>>=fun ds=>must (ds.length=n) (F (.obj c [] []) ds>>=fun q=>match q with
 | (.non,d)=> .ok d
 |_=> .stuck)
section
variable {X:Cx} {k n:Nat} {c:Str} {F:FO} {e:Expr} {es:List Expr} {pos p:Pos} {g:T2}
def AvK.make (A:AvK X.prog X.w X.K X.mg X.base k c n F) (hr:Room (k+1) X.A) (ha:DA X .s (e::es) g) (hg:Gl X c:=by rfl) (hdb:Z2 c:=by decide)
  (he:WV X e es:=by exact jq rfl) (hpl:T9 X pos es:=by exact jS rfl):
  DE X .t (.Call (.Name c p) (e::es) [] pos) (KZ c n F g):=by
 obtain ⟨C,f,fd,ps,h1,h2,h3,h4,h5⟩:=A.ex
 with_unfolding_all exact (
 PE.imp (Uq (E:=fun _ _ _=>False) h4 h1 hr hg h3 h5 .nil Yc ha hdb he hpl) fun σ H Q ⟨G,H0,env,d,k,ef,q⟩=>by
  obtain ⟨ds,e1,ef⟩:=ja ef;obtain ⟨hn,ef⟩:=jn ef;obtain ⟨⟨r,d1⟩,e2,ef⟩:=ja ef
  cases r with
  |non=>
   cases ef;refine ⟨G,H0,env,ds,k,e1,fun vs H1 s1 r1 x dx hx hdx ne=>?_⟩
   have S:Same H1 (upd (upd H1 dx (.own x)) x (.ins C dx [])):=fun b o eb=>by
    rw [jK (qj eb hx),jK (qj eb hdx)];exact eb
   have kx:Sf G env σ x:=k.new x (Same.free s1 hx);have rr:=r1.inDom.grow S;show spJ X.K n F (V.ref x::(vs++[])) _ _ (fun _ _ _=>False);rw [abw];refine ⟨Sf G env σ,ds,vs,x,_,.non,d,rfl,by rw [r1.length];exact hn,rr.weak fun b z=>⟨z.1,by rintro rfl;exact z.2 hx⟩,.obj jF ⟨h2,rfl⟩ rfl .nil,e2,fun v H' hs t rv=>⟨rv.nonE,?_⟩⟩;have sH:Same H H':=fun b o eb=>hs b o (qj (s1 b o eb) hx) (S b o (s1 b o eb))
   refine q _ H' sH (t.rep (fun b z=>⟨z.1.elim (fun z=>k.new b (Same.free s1 (Same.free S z))) fun z=>z,z.2⟩) kx) fun b eb o qb m=>?_
   cases eb;rw [s1 _ _ qb] at hx;cases hx
  |_=>cases ef)
end
section
variable {P:aaE} {w:World} {K:aaa} {mg:Zj} {base:Heap}
def vC {c m qual:Str} {st:Stmt} {C f:Addr} {fd:abo} {N ps:List Str} {k n:Nat} {g:Sl->Res OutO} (Fu:Fun K m qual st f fd) (hC:aao K aam c=some (some (.ref C))) (hmg:mg c=some (.ref C)) (mk:Mk K C f) (S:FnScope N ps (je st)) (hbi:Binds K fd ps []) (hn:ps.length=n+1) (hN:n+1<=N.length)
  (hb: ∀(cdv:Value) (A:aa5) (outer:List Env) (s:aaf) (H:Hp) (E:XK),Room k (A.deeper (ace qual (je st) s.heap.objs.size f cdv))->DSsO (cxOf CX0 P w K mg base N qual (je st) f cdv A outer s H E).nox 0 (qe st) g):
  AvK P w K mg base (k+1) c n (runJ N.length n g):=
 ⟨C,f,fd,ps,VJ Fu S hn hN hb,hC,hmg,mk,hbi⟩
end
def fsc {N P:List Str} {sc:Scope} (h1:sc.kind= .function:=by rfl) (h2:sc.isCoroutine=false:=by rfl) (h3:sc.isGenerator=false:=by rfl) (h4:N.Nodup:=by decide+kernel) (h5:N.take P.length=P:=by rfl) (h6: ∀x∈P,sc.names.lookup x=some .local\/sc.names.lookup x=some .cell:=by decide+kernel) (h7: ∀y∈sc.names,y.2≠ .free:=by decide+kernel):FnScope N P sc:=⟨h1,h2,h3,h4,h5,h6,h7⟩
def Dx (K:aaa) (mg:Zj) (x:Str) (st:Stmt) (ps:List Str):Prop:= ∃f fd,Fun K x x st f fd/\mg x=some (.ref f)/\Binds K fd ps []
def LkF (K:aaa) (p:Addr) (x q:Str) (st:Stmt):Prop:= ∃(oc:Value) (od an:Option Addr) (osl:Array (Option Value)) (kV doc pm cdv ct:Value),
 K.lookup p=some ⟨oc,od,.func (abr x q (wQ st) (qe st) (je st) .none kV doc pm an cdv ct),osl⟩/\abX K cdv q=true
def DefN (K:aaa) (x:Str) (st:Stmt):Prop:= ∃p:Addr,aao K aam x=some (some (.ref p))/\LkF K p x x st/\aaK K (.ref p)=true
def Dm (K:aaa) (C:Addr) (m q:Str) (st:Stmt) (ps:List Str):Prop:= ∃f fd,Fun K m q st f fd/\Meth K C m f/\Binds K fd ps []
def DefM (K:aaa) (C:Addr) (m q:Str) (st:Stmt):Prop:= ∃p:Addr,aaP K (.ref C) m=some (some (.ref p))/\acQ K (.ref p)=true/\LkF K p m q st/\aaK K (.ref p)=true
abbrev Tk (x q:Str) (st:Stmt) (us:List Value) (ps:List Str):Prop:= ∀(kV doc pm:Value) (an:Option Addr) (cdv ct:Value),bindArgs (abr x q (wQ st) (qe st) (je st) .none kV doc pm an cdv ct) ⟨us,[]⟩=pure (ps.zip us)
section
variable {K:aaa} {mg:Zj} {x q m:Str} {st:Stmt} {ps:List Str} {h:Heap} {C:Addr}
def LkF.fn {p:Addr} (l:LkF K p x q st) (k:aaK K (.ref p)=true) (hb: ∀us,us.length=ps.length->Tk x q st us ps): ∃fd,Fun K x q st p fd/\Binds K fd ps []:=by
 obtain ⟨oc,od,an,osl,kV,doc,pm,cdv,ct,l,c⟩:=l;have F:=VH l c k;exact ⟨_,F,F.binds fun a b c d e f us hl=>hb us hl a b c d e f⟩
def DefN.dx (d:DefN K x st) (KX:K.In h) (G:h.Ns aam mg) (hb: ∀us,us.length=ps.length->Tk x x st us ps):Dx K mg x st ps:=by
 obtain ⟨p,a,l,k⟩:=d;obtain ⟨fd,F,B⟩:=l.fn k hb;exact ⟨p,fd,F,aa6 KX G a,B⟩
def DefM.dm (d:DefM K C m q st) (hb: ∀us,us.length=ps.length->Tk m q st us ps):Dm K C m q st ps:=by
 obtain ⟨p,a,i,l,k⟩:=d;obtain ⟨fd,F,B⟩:=l.fn k hb;exact ⟨p,fd,F,⟨a,i,k⟩,B⟩
theorem tk1 {x q:Str} {st:Stmt} {p:Str} (h: ∀a,Tk x q st [a] [p]:=by intro _ _ _ _ _ _ _;rfl): ∀us:List Value,us.length=[p].length->Tk x q st us [p]
 | [a],_=>h a
theorem tk2 {x q:Str} {st:Stmt} {p p2:Str} (h: ∀a b,Tk x q st [a,b] [p,p2]:=by intro _ _ _ _ _ _ _ _;rfl): ∀us:List Value,us.length=[p,p2].length->Tk x q st us [p,p2]
 | [a,b],_=>h a b
theorem tk3 {x q:Str} {st:Stmt} {p p2 p3:Str} (h: ∀a b c,Tk x q st [a,b,c] [p,p2,p3]:=by intro _ _ _ _ _ _ _ _ _;rfl): ∀us:List Value,us.length=[p,p2,p3].length->Tk x q st us [p,p2,p3]
 | [a,b,c],_=>h a b c
end
section
variable {P:aaE} {w:World} {K:aaa} {mg:Zj} {base:Heap}
def wj {x:Str} {st:Stmt} {N ps:List Str} {k:Nat} (fr:Bool) {g:T3} (d:Dx K mg x st ps) (S:FnScope N ps (je st))
  (hb: ∀(f:Addr) (cdv:Value) (A:aa5) (outer:List Env) (s:aaf) (H:Hp) (E:XK),Room k (A.deeper (ace x (je st) s.heap.objs.size f cdv))->DSs (cxOf CX0 P w K mg base N x (je st) f cdv A outer s H E).nox (qe st) g):
  Av P w K mg base (k+1) x ps fr (runF fr N.length g):=by
 obtain ⟨f,fd,F,m,B⟩:=d;exact uj fr F m S B (hb f)
def vB {c q:Str} {st:Stmt} {C:Addr} {N ps:List Str} {k n:Nat} {g:Sl->Res OutO} (d:Dm K C "__init__" q st ps) (hC:aao K aam c=some (some (.ref C))/\Cls K C) (hmg:mg c=some (.ref C)) (mk:abS K C=true/\aaK K (.ref C)=true) (S:FnScope N ps (je st)) (hn:ps.length=n+1) (hN:n+1<=N.length)
  (hb: ∀(f:Addr) (cdv:Value) (A:aa5) (outer:List Env) (s:aaf) (H:Hp) (E:XK),Room k (A.deeper (ace q (je st) s.heap.objs.size f cdv))->DSsO (cxOf CX0 P w K mg base N q (je st) f cdv A outer s H E).nox 0 (qe st) g):
  AvK P w K mg base (k+1) c n (runJ N.length n g):=by
 obtain ⟨f,fd,F,m,B⟩:=d;exact vC F hC.1 hmg ⟨mk.1,m.at_,m.fn,mk.2⟩ S B hn hN (hb f)
def Vk {x:Str} {st:Stmt} {ps:List Str} {k:Nat} (fr:Bool) (d:Dx K mg x st ps):Av P w K mg base k x ps fr (fun _=> .stuck):=by
 obtain ⟨f,fd,F,m,B⟩:=d;exact UY fr F m B
end
section
variable {X:Cx} {a b e:Expr} {f f1 f2:T5} {pos:Pos} {x:Str}
def vb (i:Nat) {x:Str} (hN:X.N[i]?=some x:=by rfl) (hv:Vis X.env.scope x:=by first|exact abg rfl|exact aaR (abg rfl)|exact aaR (aaR rfl)) (hd:Z2 x:=by decide) (hcd:Zk x:=by decide):DE X .b (.Name x pos) (rdS i):=DE.b (dv i hN hv hd hcd)
def ib {i:Int} {j}:DE X .b (.Constant (.int i) j pos) (cI i):=Y4
def i_s {i:Int} {j}:DE X .s (.Constant (.int i) j pos) (cI i):=Y4
def ob {op:ab6} {r:R2} {g:D->D->Res D} (ho:OpR X (abu op) r) (hr:OpS X.K r g) (ha:DE X .b a f1) (hb:DE X .b b f2):DE X .b (.BinOp a op b pos) (two f1 f2 g):=Y3 ho hr ha hb
def o_s {op:ab6} {r:R2} {g:D->D->Res D} (ho:OpR X (abu op) r) (hr:OpS X.K r g) (ha:DE X .b a f1) (hb:DE X .b b f2):DE X .s (.BinOp a op b pos) (two f1 f2 g):=Y3 ho hr ha hb
def W0 (ha:DE X .b a f1) (hb:DE X .b b f2):DE X .b (.BinOp a .Mod b pos) (two f1 f2 modI):=Y3 wC wE ha hb
def Yp (ha:DE X .b a f1) (hb:DE X .b b f2):DE X .b (.BinOp a .Pow b pos) (two f1 f2 powI):=Y3 kG kI ha hb
def gi {x:Str} {i:Int} (hg:Gl X x) (hm: ∃t,X.mg x=some (.int i t)) (hd:Z2 x:=by decide):DE X .b (.Name x pos) (cI i):=hm.elim fun _ h=>Y6 hg h hd
def gis {x:Str} {i:Int} (hg:Gl X x) (hm: ∃t,X.mg x=some (.int i t)) (hd:Z2 x:=by decide):DE X .s (.Name x pos) (cI i):=hm.elim fun _ h=>Y6 hg h hd
def gst {x y:Str} (hg:Gl X x) (hm: ∃t,X.mg x=some (.str y t)) (hl:y.length<=aae:=by decide) (hd:Z2 x:=by decide):DE X .b (.Name x pos) (cS y):=hm.elim fun _ h=>Y5 hg h hl hd
def gss {x y:Str} (hg:Gl X x) (hm: ∃t,X.mg x=some (.str y t)) (hl:y.length<=aae:=by decide) (hd:Z2 x:=by decide):DE X .s (.Name x pos) (cS y):=hm.elim fun _ h=>Y5 hg h hl hd
end
abbrev FJ:=Sl->Res (D×Sl)
def tEJ (K:aaa) (f:FJ):TE:=fun σ H Q=> ∃G H0 env d env',EnvOk K G H0 env σ H/\f env= .ok (d,env')/\ ∀v H',EnvOk K G H0 env' σ H'->Frm env σ H env' σ H'->Rep K (Sf G env' σ) H' v d->Q v H'
@[irreducible] def DEJ (X:Cx) (e:Expr) (f:FJ):Prop:=PE X e (tEJ X.K f)
def tTJ (K:aaa) (f:Sl->Res (Bool×Sl)):TT:=fun σ H Q=> ∃G H0 env b env',EnvOk K G H0 env σ H/\f env= .ok (b,env')/\ ∀H',EnvOk K G H0 env' σ H'->Frm env σ H env' σ H'->Q b H'
@[irreducible] def DTJ (X:Cx) (e:Expr) (f:Sl->Res (Bool×Sl)):Prop:=PT X e (tTJ X.K f)
def stE (f:T5):FJ:=fun env=>f env>>=fun d=> .ok (d,env)
def stT (f:T4):Sl->Res (Bool×Sl):=fun env=>f env>>=fun d=> .ok (d,env)
section
variable {X:Cx} {e a b c0:Expr} {es:List Expr} {f f1 f2:FJ} {g0:T5} {pos p apos tpos:Pos} {t:Sl->Res (Bool×Sl)} {t0:T4}
def DE.j (h:DE X .s e g0):DEJ X e (stE g0):=by
 with_unfolding_all exact (PE.imp h fun σ H Q ⟨G,H0,env,d,env',k,ef,q⟩=>by
  obtain ⟨d',e1,e2⟩:=ja ef;cases e2
  exact ⟨G,H0,env,d,k,e1,fun v H' s r _=>q v H' (k.grow s) (Frm.refl s) r⟩)
def DT.j (h:DT X e t0):DTJ X e (stT t0):=by
 with_unfolding_all exact (PT.imp h fun σ H Q ⟨G,H0,env,d,env',k,ef,q⟩=>by
  obtain ⟨d',e1,e2⟩:=ja ef;cases e2
  exact ⟨G,H0,env,d,k,e1,fun H' s=>q H' (k.grow s) (Frm.refl s)⟩)
def tupJ (f:FJ):FJ:=fun env=>f env>>=fun r=> .ok (.tup [r.1],r.2)
def UR {x1} (h:DEJ X e f) (hs:aag [e] X.env=(false,eval e X.env)::aag [] X.env:=by exact jq rfl):DEJ X (.Tuple [e] x1 pos) (tupJ f):=by
 with_unfolding_all exact (PE.imp (Vw (wB h yD hs)) fun σ H Q ⟨G,H0,env,d,env',k,ef,q⟩=>by
  obtain ⟨⟨d1,env1⟩,e1,e2⟩:=ja ef;cases e2
  exact ⟨G,H0,env,d1,_,k,e1,fun v H1 k1 fr r=>⟨by show 1<=aae;decide,fun p hp=>q _ _ (k1.grow (Same.upd hp)) (fr.trans (Frm.refl (Same.upd hp))) (.tup jF (.cons (r.grow (Same.upd hp)) .nil))⟩⟩)
def addJ (f1 f2:FJ):FJ:=fun env=>f1 env>>=fun r=>f2 r.2>>=fun s=>addD r.1 s.1>>=fun d=> .ok (d,s.2)
def US (ha:DEJ X a f1) (hb:DEJ X b f2):DEJ X (.BinOp a .Add b pos) (addJ f1 f2):=by
 with_unfolding_all exact (PE.imp (KI jw ha hb) fun σ H Q ⟨G,H0,env,d,env',k,ef,q⟩=>by
  obtain ⟨⟨d1,env1⟩,e1,ef⟩:=ja ef;obtain ⟨⟨d2,env2⟩,e2,ef⟩:=ja ef;obtain ⟨d',e3,e4⟩:=ja ef;cases e4;refine ⟨G,H0,env,d1,env1,k,e1,fun x H1 k1 fr1 r1=>⟨G,H0,env1,d2,_,k1,e2,fun y H2 k2 fr2 r2=>?_⟩⟩
  refine jO (Sf G env2 σ) x y H2 d1 d2 d Q (fr2.rep k1 r1) r2 e3 fun v H3 s3 r3 _=>q v H3 (k2.grow s3) ((fr1.trans fr2).trans (Frm.refl s3)) (r3.weak fun c z=>z.elim (fun z=>k2.new c z) fun z=>z))
def asJ (f:FJ):Sl->Res (Bool×Sl):=fun env=>f env>>=fun r=>match r.1 with
 | .bl b=> .ok (b,r.2)
 |_=> .stuck
def Qd (h:DEJ X e f) (he: ∀whole,isTrue e X.env whole=(do let v←whole;acO e.pos;acP [v] (truthy v)):=by intro _;rfl):DTJ X e (asJ f):=by
 with_unfolding_all exact (PT.imp (Vs h he) fun σ H Q ⟨G,H0,env,b,env',k,ef,q⟩=>by
  obtain ⟨⟨d1,env1⟩,e1,ef⟩:=ja ef
  cases d1 with
  |bl b'=>
   cases ef;exact ⟨G,H0,env,_,_,k,e1,fun v H1 k1 fr r=>⟨b,r.blE,q H1 k1 fr⟩⟩
  |_=>cases ef)
def notJ (t:Sl->Res (Bool×Sl)):Sl->Res (Bool×Sl):=fun env=>t env>>=fun r=> .ok (!r.1,r.2)
def YX (h:DTJ X a t):DTJ X (.UnaryOp .Not a pos) (notJ t):=by
 with_unfolding_all exact (PT.imp (Vt h) fun σ H Q ⟨G,H0,env,b,env',k,ef,q⟩=>by
  obtain ⟨⟨d1,env1⟩,e1,ef⟩:=ja ef;cases ef
  exact ⟨G,H0,env,d1,env1,k,e1,q⟩)
end
section
variable {X:Cx} {i j:Nat} {e c0:Expr} {f:FJ} {t:Sl->Res (Bool×Sl)} {g1 g2:Sl->Res OutO} {body orelse:List Stmt} {pos p apos cpos tpos:Pos} {x c n:Str}
def iffJ (t:Sl->Res (Bool×Sl)) (g1 g2:Sl->Res OutO):Sl->Res OutO:=fun env=>t env>>=fun r=>if r.1=true then g1 r.2 else g2 r.2
def ZM (hc:DTJ X c0 t) (h1:DSsO X i body g1) (h2:DSsO X i orelse g2):DSO X i (.If c0 body orelse pos) (iffJ t g1 g2):=by
 with_unfolding_all exact (PS.imp (Uj hc h1 h2) fun E σ H ⟨G,H0,env,o,a,k,ha,ef,q⟩=>by
  obtain ⟨⟨b,env1⟩,e1,e2⟩:=ja ef;refine ⟨G,H0,env,b,env1,k,e1,fun H' k1 fr=>?_⟩
  cases b with
  |true=>
   rw [if_pos rfl] at e2 ⊢;exact ⟨G,H0,env1,o,a,k1,ha,e2,yG fr q⟩
  |false=>
   rw [if_neg aaB] at e2 ⊢
   exact ⟨G,H0,env1,o,a,k1,ha,e2,yG fr q⟩)
def setJ (j:Nat) (f:FJ):Sl->Res OutO:=fun env=>f env>>=fun r=> .ok (.nx (r.2.set j (.shr r.1)))
def Qe (j:Nat) {pos':Pos} (hN:X.N.Nodup) (h:DEJ X e f) (hij:j≠i:=by decide) (hi:X.N[j]?=some x:=by rfl) (hx:Loc X.env.scope x:=by first|exact abg rfl|exact aaR rfl) (hs:abB e (some (.Name x pos')) pos.line X.env=pure false:=by rfl)
  (hf:T8 X x:=by first|exact .inl rfl|exact .inr rfl|assumption):DSO X i (.Assign [.Name x pos'] e pos) (setJ j f):=by
 with_unfolding_all exact (PS.imp (QB (i:=j) hN hi hx h hs hf) fun E σ H ⟨G,H0,env,o,a,k,ha,ef,q⟩=>by
  obtain ⟨⟨d,env1⟩,e1,e2⟩:=ja ef;cases e2
  exact ⟨G,H0,env,d,env1,k,e1,fun v H' k1 fr r=>q _ H' (k1.setS r) ((jm hij).trans ha) (fr.trans (Frm.set (Same.refl H') fun _ _ z _=>nomatch z))⟩)
def lstJ (j:Nat) (f:FJ):Sl->Res OutO:=fun env=>f env>>=fun r=> .ok (.nx (r.2.set j (.own (.lst [r.1]))))
def UO (j:Nat) {pos' lpos:Pos} (hN:X.N.Nodup) (h:DEJ X e f) (hij:j≠i:=by decide) (hi:X.N[j]?=some x:=by rfl) (hx:Loc X.env.scope x:=by first|exact abg rfl|exact aaR rfl) (hs:abB (.List [e] lpos) (some (.Name x pos')) pos.line X.env=pure false:=by rfl)
  (hf:T8 X x:=by first|exact .inl rfl|exact .inr rfl|assumption) (hst:aag [e] X.env=(false,eval e X.env)::aag [] X.env:=by exact jq rfl):DSO X i (.Assign [.Name x pos'] (.List [e] lpos) pos) (lstJ j f):=by
 with_unfolding_all exact (PS.imp (QB (i:=j) hN hi hx (Vx (wB h yD hst)) hs hf) fun E σ H ⟨G,H0,env,o,a,k,ha,ef,q⟩=>by
  obtain ⟨⟨d,env1⟩,e1,e2⟩:=ja ef;cases e2;refine ⟨G,H0,env,d,env1,k,e1,fun v H1 k1 fr r=>⟨by show 1<=aae;decide,fun p hp=>?_⟩⟩;have S:=k1.setNew (i:=j) (d:= .lst [d]) (v:= .ref p) (Same.upd hp) (.lst jF (k1.new p hp) ((Reps.cons r .nil).laid hp)) (zS (Same.refl H1) hp)
  exact q _ _ S.1 ((jm hij).trans ha) (fr.trans S.2))
def appJ (j:Nat) (f:FJ):Sl->Res OutO:=fun env=>ownL j env>>=fun _=>f env>>=fun r=>ownL j r.2>>=fun ds=>must (ds.length<aae) (.ok (.nx (r.2.set j (.own (.lst (ds++[r.1]))))))
def Xg (j:Nat) (he:DEJ X e f) (hN:X.N[j]?=some x:=by rfl) (hv:Vis X.env.scope x:=by first|exact abg rfl|exact aaR (abg rfl)|exact aaR (aaR rfl))
   (hd:Z2 x:=by decide) (hcd:Zk x:=by decide)
   (hbase:aaY (.Name x p) "append" X.env (eval (.Name x p) X.env)=eval (.Name x p) X.env:=by rfl)
   (hfew:((aa7 cpos (aag [e] X.env)).all (fun x=>!x.1)&&(abK cpos (abh [] X.env)).all (fun x=>x.1.isSome)
    &&decide ([e].length+([]:List abO).length+(if ([]:List abO).isEmpty then 0 else 1)<30))=true:=by exact xL rfl rfl)
   (hline:(apos.endLine==cpos.line)=true:=by rfl) (hs:aag [e] X.env=(false,eval e X.env)::aag [] X.env:=by exact jq rfl) (hplain:(aa7 cpos (aag [] X.env)).any (·.1)=false:=by exact jS rfl)
   (hsw:abB (.Call (.Attribute (.Name x p) "append" apos) [e] [] cpos) none pos.line X.env=pure false:=by rfl):
   DSO X i (.Expr (.Call (.Attribute (.Name x p) "append" apos) [e] [] cpos) pos) (appJ j f):=by
 with_unfolding_all exact (
  PS.imp (JU (KM abj abY PySem.F.type_list_append yM (zI (i:=j) hN hv hd hcd) (wB he yD hs) hbase hfew hline hs hplain) hsw) fun E σ H ⟨G,H0,env,o,a,k,ha,ef,q⟩=>by
   obtain ⟨ds0,e0,ef⟩:=ja ef;obtain ⟨⟨d,env1⟩,e1,ef⟩:=ja ef;obtain ⟨ds,e2,ef⟩:=ja ef;obtain ⟨hz,e5⟩:=jn ef;cases e5;obtain ⟨l0,xs0,hl0,hx0,_⟩:=zn k (za e0);refine ⟨.ref l0,hl0,.inl ⟨rfl,xs0,.of hx0⟩,G,H0,env,d,env1,k,e1,fun v H1 k1 fr r=>?_⟩;obtain ⟨l,xs,hl,hx,rs⟩:=zn k1 (za e2);rw [hl0] at hl;cases hl;refine ⟨l0,xs,v,rfl,rfl,hx,by rw [rs.length];exact hz,?_⟩;have W:=k1.write (za e2) hl0 hx (xs':=xs++[v]) (ds':=ds++[d]) (rs.append (.cons r .nil))
   exact q σ _ W.1 ha (fr.trans W.2))
def yC (f:FJ):Sl->Res OutO:=fun env=>f env>>=fun r=> .ok (.rt r.1 r.2)
def zt (h:DEJ X e f):DSO X i (.Return (some e) pos) (yC f):=by
 with_unfolding_all exact (PS.imp (Z6 h) fun E σ H ⟨G,H0,env,o,a,k,ha,ef,q⟩=>by
  obtain ⟨⟨d,env1⟩,e1,e2⟩:=ja ef;cases e2
  exact ⟨G,H0,env,d,env1,k,e1,fun v H' k1 fr r=>q v σ H' k1 ha fr r⟩)
def Xj (i:Nat) (c n:Str) (f:T5):Sl->Res OutO:=fun env=>ownJ i c env>>=fun q=>f env>>=fun d=>match getN n q.1 q.2,d with
 |some (.int x),.int y=>must (q.1.length<1000) (.ok (.nx (env.set i (.own (.obj c (JR n q.1) (JS n (.int (x+y)) q.1 q.2))))))
 |_,_=> .stuck
def WA {f:T5} (hf:FldN X.K c n) (h:DE X .b e f) (hN:X.N[i]?=some x:=by rfl) (hv:Vis X.env.scope x:=by first|exact abg rfl|exact aaR (abg rfl)|exact aaR (aaR rfl))
   (hd:Z2 x:=by decide) (hcd:Zk x:=by decide):DSO X i (.AugAssign (.Attribute (.Name x p) n apos) .Add e pos) (Xj i c n f):=by
 with_unfolding_all exact (
  PS.imp (X4 (zI (i:=i) hN hv hd hcd) h k5) fun E σ H ⟨G,H0,env,o,a,k,ha,ef,q⟩=>by
   obtain ⟨ns,e2,ef⟩:=ja ef;obtain ⟨d,e1,ef⟩:=ja ef;have hi:=yr e2
   split at ef
   · rename_i x' y eg;obtain ⟨hz,e3⟩:=jn ef;cases e3;obtain ⟨a',C,dx,fs,h1,hx,hc,hn,rs⟩:=yF k hi;rw [ha] at h1;cases h1;rw [←hn] at eg;obtain ⟨v0,hv0,rv0⟩:=yu rs eg;cases rv0.intE;refine ⟨_,ha,a,C,dx,fs,.int x',rfl,hx,(hf.at hc).1,(hf.at hc).2,hv0,G,H0,env,.int y,k,e1,fun w H1 s1 r1 _=>?_⟩;cases r1.intE;refine ⟨x',y,rfl,rfl,dx,fs,s1 _ _ hx,by rw [←hn,aaC] at hz;exact hz,?_⟩;obtain ⟨p1,p2⟩:=JT (f:=n) (v:= .int (x'+y)) (d:= .int (x'+y)) (.int _) (rs.grow s1);rw [hn] at p1 p2;have W:=(k.grow s1).writeG (o':= .ins C dx (putF n (.int (x'+y)) fs)) (d':= .obj c (JR n ns.1) (JS n (.int (x'+y)) ns.1 ns.2)) hi ha (s1 _ _ hx) trivial fun A' H' st e w=> .obj e ⟨hc,p1⟩ rfl (p2.stay st w)
     exact q σ _ W.1 ha (W.2.grow s1)
   · cases ef)
def wm (n : Nat) (t : Sl -> Res (Bool × Sl)) (g : Sl -> Res OutO) : Sl -> Res OutO := fun env => match n with
  | 0 => .stuck
  | n + 1 => t env >>= fun r => if r.1 = true then g r.2 >>= fun o => match o with
        | .nx env' => wm n t g env'
        | .rt d env' => .ok (.rt d env')
      else .ok (.nx r.2)
def QT (n:Nat) {g:Sl->Res OutO} (hp:PassesOwn (model X.prog X.w) X.A X.env X.xe) (hc:DTJ X c0 t) (hb:DSsO X i body g):DSO X i (.While c0 body [] pos) (wm n t g):=by
 with_unfolding_all exact (
  PS.imp (Z5 hp hc hb) fun E σ H ⟨G,H0,env,o,a,k,ha,ef,q⟩=>by
   refine ⟨fun m σ' H'=> ∃env',EnvOk X.K G H0 env' σ' H'/\At σ' i a/\Frm env σ H env' σ' H'/\wm m t g env'= .ok o,⟨n,env,k,ha,Frm.refl (Same.refl H),ef⟩,?_⟩;rintro m σ' H' ⟨env',k',ha',f',e'⟩
   cases m with
   |zero=>cases e'
   |succ m=>
    obtain ⟨⟨b,env1⟩,e1,e2⟩:=ja (show (t env'>>=_)=_ from e');refine ⟨G,H0,env',b,env1,k',e1,fun H1 k1 fr1=>?_⟩
    cases b with
    |false=>
     rw [if_neg aaB] at e2 ⊢;cases e2;exact q σ' H1 k1 ha' (f'.trans fr1)
    |true=>
     rw [if_pos rfl] at e2 ⊢;obtain ⟨o1,e3,e4⟩:=ja e2;refine ⟨fun σ2 H2=> ∃env2,EnvOk X.K G H0 env2 σ2 H2/\At σ2 i a/\Frm env σ H env2 σ2 H2/\wm m t g env2= .ok o,fun σ2 H2 z=>⟨m,aca m,z⟩,G,H0,env1,o1,a,k1,ha',e3,?_⟩
     cases o1 with
     |nx env2=>exact fun σ2 H3 k2 a2 f2=>⟨env2,k2,a2,(f'.trans fr1).trans f2,e4⟩
     |rt d env2=>
      cases e4
      exact fun v σ2 H3 k2 a2 f2 r=>q v σ2 H3 k2 a2 ((f'.trans fr1).trans f2) r)
end
structure AvJ (P:aaE) (w:World) (K:aaa) (mg:Zj) (base:Heap) (k:Nat) (c m:Str) (n:Nat) (F:FO):Prop where
 ex: ∃C f fd ps,FnOk P w K mg base CX0 k f fd ps (spJ K n F)/\aao K aam c=some (some (.ref C))/\Cls K C/\Meth K C m f/\Binds K fd ps []
def AvJ.mono {P:aaE} {w:World} {K:aaa} {mg:Zj} {base:Heap} {j k:Nat} {c m:Str} {n:Nat} {F:FO} (h:AvJ P w K mg base j c m n F) (hj:j<=k):AvJ P w K mg base k c m n F:=
 let ⟨C,f,fd,ps,a,b⟩:=h.ex
 ⟨C,f,fd,ps,a.mono hj,b⟩
def zZ (i:Nat) (c m:Str) (n:Nat) (F:FO) (g:T2):FJ:=fun env=>ownJ i c env>>=fun q=>must (q.1.contains m=false) (g env>>=fun ds=>must (ds.length=n) (F (.obj c q.1 q.2) ds>>=fun r=> .ok (r.1,env.set i (.own r.2))))
section
variable {X:Cx} {k n:Nat} {c m x:Str} {F:FO} {e:Expr} {es:List Expr} {pos p apos:Pos} {g:T2} {pl:Sem Bool}
def Yf {env:Sl} {σ:L2.St} {i:Nat} {d d':D} {a:Addr} (hi:env[i]?=some (.own d)) (o:qR (env.set i (.own d')) σ a):qR env σ a:=by
 obtain ⟨j,e,h1,h2⟩:=o
 by_cases z:i=j
 · subst z;exact ⟨i,d,hi,h2⟩
 · exact ⟨j,e,by rw [jm z] at h1;exact h1,h2⟩
def WJ {G:Zi} {H0 H H2:Hp} {env env':Sl} {σ:L2.St} {i:Nat} {d:D} {Q:VK} {E:XK} {a:Addr} {ns:List Str} {vs ds:List D} {ws:List V} (k:EnvOk X.K G H0 env σ H) (s:Same H H2) (hi:env[i]?=some (.own (.obj c ns vs))) (ha:At σ i a) (rw':Reps X.K (Sf G env σ) H2 ws ds) (hn:ds.length=n)
  (h:(F (.obj c ns vs) ds>>=fun r=>Res.ok (r.1,env.set i (.own r.2)))= .ok (d,env')) (q: ∀v H',EnvOk X.K G H0 env' σ H'->Frm env σ H env' σ H'->Rep X.K (Sf G env' σ) H' v d->Q v H'):spJ X.K n F (.ref a::ws) H2 Q E:=by
 obtain ⟨⟨r,d1⟩,e1,e2⟩:=ja h;cases e2;have k2:=k.grow s;obtain ⟨a',ha',_,ta⟩:=k2.own i _ hi;rw [ha] at ha';cases ha';have ow:qR env σ a:=⟨i,_,hi,ha⟩
 have w: ∀c,Sf G env σ c->Sf G env σ c/\c≠a:=fun c z=>⟨z,by rintro rfl;exact z.1 ow⟩
 refine ⟨Sf G env σ,ds,ws,a,_,_,d1,rfl,by rw [rw'.length];exact hn,rw'.weak w,ta.stay (fun _ _ e _=>e) w fun _ e=>e,e1,fun v H' hs' t' rv=>?_⟩;have back: ∀c,((H2 c=none\/Sf G env σ c)/\c≠a)->Sf G env σ c:=fun c z=>z.1.elim (fun z=>k2.new c z) fun z=>z
 have W:=k2.anew hi ha hs' (t'.stay (fun _ _ e _=>e) back fun _ e=>e);exact q v H' W.1 (W.2.grow s) (rv.weak fun c z=>⟨fun o=>(back c z).1 (Yf hi o),(back c z).2⟩)
def AvJ.call (i:Nat) (A:AvJ X.prog X.w X.K X.mg X.base k c m n F) (hr:Room k X.A) (ha:DA X .s (e::es) g) (hN:X.N[i]?=some x:=by rfl) (hv:Vis X.env.scope x:=by first|exact abg rfl|exact aaR (abg rfl)|exact aaR (aaR rfl))
  (hd:Z2 x:=by decide) (hcd:Zk x:=by decide)
  (hst:WV X e es:=by exact jq rfl) (hpl:T9 X pos es:=by exact jS rfl)
  (ht:eval (.Call (.Attribute (.Name x p) m apos) (e::es) [] pos) X.env=(do
   let ov←eval (.Name x p) X.env
   acO apos.atName
   let (f,first)←acP [ov] (getMethod ov m pl)
   callWith pos f first (aa7 pos (aag (e::es) X.env)) (abK pos (abh [] X.env))):=by rfl):DEJ X (.Call (.Attribute (.Name x p) m apos) (e::es) [] pos) (zZ i c m n F g):=by
 obtain ⟨C,f,fd,ps,h1,h2,h3,h4,h5⟩:=A.ex
 with_unfolding_all exact (
 PE.imp (Up (E:=fun _ _ _=>False) (zI (i:=i) hN hv hd hcd) h3 h4 h1 hr h5 .nil Yc ha hst hpl ht) fun σ H Q ⟨G,H0,env,d,env',k,ef,q⟩=>by
  obtain ⟨ns,e1,ef⟩:=ja ef;obtain ⟨hm,ef⟩:=jn ef;obtain ⟨ds,e2,ef⟩:=ja ef;obtain ⟨hn,ef⟩:=jn ef;have hi:=yr e1;obtain ⟨a,C',dx,fs,h1',hx,hc,hns,rs⟩:=yF k hi;rw [h2] at hc;cases hc;refine ⟨_,h1',a,dx,fs,rfl,hx,yQ (by rw [hns];exact hm),G,H0,env,ds,k,e2,fun ws H2 s2 r2=>?_⟩;show spJ X.K n F (.ref a::(ws++[])) H2 Q (fun _ _ _=>False);rw [abw]
  exact WJ k s2 hi h1' r2 hn ef q)
def AvJ.call0 (i:Nat) (A:AvJ X.prog X.w X.K X.mg X.base k c m 0 F) (hr:Room k X.A) (hN:X.N[i]?=some x:=by rfl) (hv:Vis X.env.scope x:=by first|exact abg rfl|exact aaR (abg rfl)|exact aaR (aaR rfl))
  (hd:Z2 x:=by decide) (hcd:Zk x:=by decide)
  (ht:eval (.Call (.Attribute (.Name x p) m apos) [] [] pos) X.env=(do
   let ov←eval (.Name x p) X.env
   acO apos.atName
   let (f,first)←acP [ov] (getMethod ov m pl)
   callWith pos f first (aa7 pos (aag [] X.env)) (abK pos (abh [] X.env))):=by rfl):DEJ X (.Call (.Attribute (.Name x p) m apos) [] [] pos) (zZ i c m 0 F noA):=by
 obtain ⟨C,f,fd,ps,h1,h2,h3,h4,h5⟩:=A.ex
 with_unfolding_all exact (
 PE.imp (KJ (E:=fun _ _ _=>False) (zI (i:=i) hN hv hd hcd) h3 h4 h1 hr h5 .nil Yc ht) fun σ H Q ⟨G,H0,env,d,env',k,ef,q⟩=>by
  obtain ⟨ns,e1,ef⟩:=ja ef;obtain ⟨hm,ef⟩:=jn ef;obtain ⟨ds,e2,ef⟩:=ja ef;cases e2;obtain ⟨hn,ef⟩:=jn ef;have hi:=yr e1;obtain ⟨a,C',dx,fs,h1',hx,hc,hns,rs⟩:=yF k hi;rw [h2] at hc;cases hc
  exact ⟨_,h1',a,dx,fs,rfl,hx,yQ (by rw [hns];exact hm),WJ (E:=fun _ _ _=>False) k (Same.refl H) hi h1' .nil hn ef q⟩)
end
section
variable {P:aaE} {w:World} {K:aaa} {mg:Zj} {base:Heap}
def Q7 {c m q:Str} {st:Stmt} {C:Addr} {N ps:List Str} {k n:Nat} {g:Sl->Res OutO} (d:Dm K C m q st ps) (hC:aao K aam c=some (some (.ref C))/\Cls K C) (S:FnScope N ps (je st)) (hn:ps.length=n+1) (hN:n+1<=N.length)
  (hb: ∀(f:Addr) (cdv:Value) (A:aa5) (outer:List Env) (s:aaf) (H:Hp) (E:XK),Room k (A.deeper (ace q (je st) s.heap.objs.size f cdv))->DSsO (cxOf CX0 P w K mg base N q (je st) f cdv A outer s H E).nox 0 (qe st) g):
  AvJ P w K mg base (k+1) c m n (runJ N.length n g):=by
 obtain ⟨f,fd,F,me,B⟩:=d;exact ⟨C,f,fd,ps,VJ F S hn hN (hb f),hC.1,hC.2,me,B⟩
def vD {c m q:Str} {st:Stmt} {C:Addr} {ps:List Str} {k n:Nat} (d:Dm K C m q st ps) (hC:aao K aam c=some (some (.ref C))/\Cls K C) (hn:ps.length=n+1):AvJ P w K mg base k c m n (fun _ _=> .stuck):=by
 obtain ⟨f,fd,F,me,B⟩:=d;exact ⟨C,f,fd,ps,⟨fun vs H Q E ⟨B,ds,us,a,d0,r,d1,ev,hl,_⟩=>by rw [ev,aab,hl,hn],fun A outer s H args us vs Q E _ _ _ _ ⟨B,ds,us',a,d0,r,d1,ev,hl,rs,t,eF,_⟩=>by cases eF⟩,hC.1,hC.2,me,B⟩
end
def Kw (j:Nat) (f:FJ):Sl->Res Out:=fun env=>f env>>=fun r=> .ok (.nx (r.2.set j (.shr r.1)))
def UP {X:Cx} {e:Expr} {f:FJ} {pos pos':Pos} {x:Str} (j:Nat) (hN:X.N.Nodup) (h:DEJ X e f) (hi:X.N[j]?=some x:=by rfl) (hx:Loc X.env.scope x:=by first|exact abg rfl|exact aaR rfl) (hs:abB e (some (.Name x pos')) pos.line X.env=pure false:=by rfl)
  (hf:T8 X x:=by first|exact .inl rfl|exact .inr rfl|assumption):DS X (.Assign [.Name x pos'] e pos) (Kw j f):=by
 with_unfolding_all exact (PS.imp (QB (i:=j) hN hi hx h hs hf) fun E σ H ⟨G,H0,env,o,k,ef,q⟩=>by
  obtain ⟨⟨d,env1⟩,e1,e2⟩:=ja ef;cases e2
  exact ⟨G,H0,env,d,env1,k,e1,fun v H' k1 fr r=>q _ H' (k1.setS r) (fr.trans (Frm.set (Same.refl H') fun _ _ z _=>nomatch z))⟩)
variable {X:Cx} {K:aaa}
def JJ:List D->Res D
 | [.int i]=>must (i.natAbs.log2<1920/\(aav (toString i)).length<=aae) (.ok (.str (toString i)))
 |_=> .stuck
def ZQ:Kq K (fun xs H Q=> ∃i,xs=[V.int i]/\i.natAbs.log2<1920/\Q (.str (toString i)) H) JJ:=by
 intro A xs H ds d Q r e q;unfold JJ at e
 split at e
 · obtain ⟨h,e⟩:=jn e;cases e;obtain ⟨v,rfl,r1⟩:=r.one;exact ⟨_,by rw [r1.intE],h.1,q _ H (Same.refl H) (.str _ h.2) (fun a z=>nomatch z)⟩
 · cases e
def Kg:CallR X (.type "int") (fun xs H Q=> ∃x n,xs=[.str x]/\intText? x=some n/\x.length<=640/\Q (.int n) H):=by
 intro pins s σ H xs us Q I r ⟨x,n,ex,hn,hl,q⟩;subst ex
 obtain ⟨u,rfl,r1⟩: ∃u,us=[u]/\RelV (.str x) u:=by
  cases r with|cons h t=>cases t;exact ⟨_,rfl,h⟩
 obtain ⟨t,rfl⟩:=r1;exact PySem.W.KIN.call_text hn hl ⟨.int _,H,I.tok _,⟨_,rfl⟩,q⟩
def K3:List D->Res D
 | [.str x]=>must (x.length<=640) (match intText? x with
  |some n=> .ok (.int n)
  |none=> .stuck)
 |_=> .stuck
def UW:Kq K (fun xs H Q=> ∃x n,xs=[V.str x]/\intText? x=some n/\x.length<=640/\Q (.int n) H) K3:=by
 intro A xs H ds d Q r e q;unfold K3 at e
 split at e
 · rename_i x;obtain ⟨h,e⟩:=jn e;obtain ⟨v,rfl,r1⟩:=r.one
   cases en:intText? x with
   |none=>rw [en] at e;cases e
   |some n=>
    rw [en] at e;cases e;exact ⟨x,n,by rw [r1.strE.1],en,h,q _ H (Same.refl H) (.int _) (uQ (uE (K:=K) _))⟩
 · cases e
def wo:List D->Option (List Str)
 | []=>some []
 | .str x::r=>(wo r).map (x:: ·)
 |_=>none
theorem Qw {A:Zi} {H:Hp}: ∀ {vs:List V} {ds:List D} {ys:List Str} {us:List Value},Reps K A H vs ds->wo ds=some ys->Vals vs us->StrsAre us ys
 |_,_,_,_,.nil,h,v=>by cases h;cases v;exact .nil
 |_,_,ys,_,.cons (d:=d) r t,h,v=>by
  cases d with
  |str x=>
   simp only [wo] at h
   cases e:wo _ with
   |none=>rw [e] at h;cases h
   |some zs=>
    rw [e] at h;cases h
    cases v with
    |cons hv tv=>
     obtain ⟨rfl,_⟩:=r.strE;obtain ⟨tk,rfl⟩:=hv;exact .cons x tk (Qw t e tv)
  |_=>cases h
def kn (K:aaa):V->List V->Hp->VK->Prop:=fun x xs H Q=> ∃z p vs ds ys,x= .str z/\xs=[.ref p]/\SqL K H p vs/\Reps K Any H vs ds/\wo ds=some ys/\(ys.map (·.length)).sum+ys.length*z.length<=16777216/\Q (.str (Txt.join z ys)) H
def UA:MtR X "str.join" (kn X.K):=by
 intro pins s σ H x xs v us Q I rx rv ⟨z,p,vs,ds,ys,ex,exs,hp,rs,hy,hz,q⟩;subst ex exs;obtain ⟨t,rfl⟩:=rx;obtain ⟨u,rfl,ru⟩:=Zc rv;cases ru;obtain ⟨its,r,pl,_⟩:=I.list hp;exact PyProof.Rows.join_list (items:=its.toArray) pl.isList (by simpa using Qw rs hy r) hz fun t' k=>⟨.str _,H,I.tok _,⟨_,rfl⟩,q⟩
def K1 (z:Str):List D->Res D
 | [.lst ds]=>match wo ds with
  |some ys=>must ((ys.map (·.length)).sum+ys.length*z.length<=16777216/\(Txt.join z ys).length<=aae) (.ok (.str (Txt.join z ys)))
  |none=> .stuck
 |_=> .stuck
def UC:MtD K (kn K) (fun a ds=>match a with| .str z=>K1 z ds|_=> .stuck):=by
 intro x xs H a ds d Q ra rs e q
 cases a with
 |str z=>
  dsimp only at e;unfold K1 at e
  split at e
  · rename_i es;obtain ⟨v,rfl,r1⟩:=rs.one
    cases ey:wo es with
    |none=>rw [ey] at e;cases e
    |some ys=>
     rw [ey] at e;obtain ⟨h,e⟩:=jn e;cases e;obtain ⟨p,vs,rfl,hp,_,rv⟩:=r1.lstE;exact ⟨z,p,vs,es,ys,ra.strE.1,rfl,.of hp,rv.weak (fun _ _=>trivial),ey,h.1,q _ (uP _ h.2)⟩
  · cases e
 |_=>cases e
def popE (i:Nat):Sl->Res Out:=fun env=>ownL i env>>=fun ds=>match ds with
 | []=> .stuck
 |_::_=> .ok (.nx (env.set i (.own (.lst ds.dropLast))))
def UQ (i:Nat) {x:Str} {p apos cpos pos:Pos} (hN:X.N[i]?=some x:=by rfl) (hv:Vis X.env.scope x:=by first|exact abg rfl|exact aaR (abg rfl)|exact aaR (aaR rfl))
   (hd:Z2 x:=by decide) (hcd:Zk x:=by decide)
   (hbase:aaY (.Name x p) "pop" X.env (eval (.Name x p) X.env)=eval (.Name x p) X.env:=by rfl) (hline:(apos.endLine==cpos.line)=true:=by rfl)
   (hsw:abB (.Call (.Attribute (.Name x p) "pop" apos) [] [] cpos) none pos.line X.env=pure false:=by rfl):DS X (.Expr (.Call (.Attribute (.Name x p) "pop" apos) [] [] cpos) pos) (popE i):=by
 with_unfolding_all exact (
  PS.imp (JU (Vy abj acn PySem.F.type_list_pop VD (zI (i:=i) hN hv hd hcd) hbase hline) hsw) fun E σ H ⟨G,H0,env,o,k,ef,q⟩=>by
   obtain ⟨ds,e1,e2⟩:=ja ef;have hi:=za e1;obtain ⟨a,xs,ha,hx,rs⟩:=zn k hi
   cases ds with
   |nil=>cases e2
   |cons d ds=>
    cases e2;obtain ⟨v,hv',rv⟩:=rs.get (i:=(d::ds).length-1) (d:=(d::ds).getLast (by simp)) (by rw [←List.getLast?_eq_getElem?,List.getLast?_eq_getLast (by simp)]);have W:=k.write hi ha hx (xs':=xs.dropLast) (ds':=(d::ds).dropLast) rs.dropLast
    exact ⟨.ref a,ha,.inl ⟨rfl,xs,.of hx⟩,a,xs,v,rfl,rfl,hx,by rw [rs.length];exact hv',q σ _ W.1 W.2⟩)
section
variable {f f1 f2:T5} {fa:T2} {t t1 t2:T4} {g ga gb:T3} {env env':Sl} {d x y z:D} {ds:List D} {b:Bool} {i:Nat}
def Vq (h:env[i]?=some (.shr d)):rdS i env= .ok d:=by unfold rdS;rw [h]
def vX (h:env[i]?=some (.shr d)):rdB i env= .ok d:=by unfold rdB;rw [h]
def zH (h:env[i]?=some (.own d)):rdB i env= .ok d:=by unfold rdB;rw [h]
def ui {j:Int}:cI j env= .ok (.int j):=rfl
def uh {x:Str}:cS x env= .ok (.str x):=rfl
def kM:nil1 env= .ok []:=rfl
def v7:nxO env= .ok (.nx env):=rfl
def YA {T:String} (h:f env= .ok x) (h2:isiD T x= .ok d):isiF T f env= .ok d:=by rw [Qb,h];exact h2
def ub {o:Out} (h:t env= .ok b) (h1:(if b=true then ga env else gb env)= .ok o):ifO t ga gb env= .ok o:=by rw [JD,h];exact h1
def Zr (h:env[i]?=some (.own (.lst ds))):ownL i env= .ok ds:=by unfold ownL;rw [h]
def qI {o:Out} (h:ga env= .ok (.nx env')) (h2:gb env'= .ok o):seqO ga gb env= .ok o:=(jH h).trans h2
def VI {tt:T0} {fi:T2} {o:Out} (h:fi env= .ok ds) (h2:forD (wf tt g) ds env= .ok o):forO fi tt g env= .ok o:=(yX h).trans h2
def Ze {tt:T0} {o:Out} (h:tt d env= .ok env') (h2:g env'= .ok o):wf tt g d env= .ok o:=(xU h).trans h2
def uk (h:t1 env= .ok false):andB t1 t2 env= .ok false:=by rw [ZK,h];rfl
def vE (h:t1 env= .ok true) (h2:t2 env= .ok b):andB t1 t2 env= .ok b:=by rw [ZK,h];exact h2
def V8 {o o':Out} (h:ga env= .ok o) (h2:outK gb o= .ok o'):seqO ga gb env= .ok o':=by rw [xq,h];exact h2
def Ut {o:Out} (h:g env= .ok o):outK g (.nx env)= .ok o:=h
def KN {fr:Bool}:outK g (.rt fr d)= .ok (.rt fr d):=rfl
def v9 {α:Type} {c:Bool} {a b r:α} (hc:c=true) (h:a=r):(if c=true then a else b)=r:=(if_pos hc).trans h
def ua {α:Type} {c:Bool} {a b r:α} (hc:c=false) (h:b=r):(if c=true then a else b)=r:=(if_neg (by rw [hc];decide)).trans h
def Vd {a b:Int}:eqR (.int a) (.int b)= .ok (.bl (a==b)):=xA
def big0:20000<=aae:=by decide
def smll {k:Nat} (h:k<20000):k<aae:=aas h big0
def qE {c n:Str} {fo:T5} (h:fo env= .ok x) (h2:fldD c n x= .ok d):fldF c n fo env= .ok d:=by unfold fldF;rw [h];exact h2
def Xv (h:f1 env= .ok (.bl true)) (h2:f2 env= .ok d):toB f1 f2 true env= .ok d:=by rw [YM,h];exact h2
def Yu {c:Str} {n:Nat} {F:FO} {g:T2} (h1:g env= .ok ds) (h2:ds.length=n) (h3:F (.obj c [] []) ds= .ok (.non,d)):KZ c n F g env= .ok d:=by
 unfold KZ;rw [h1];refine (jl (c:=ds.length=n) h2).trans ?_;rw [h3];rfl
def XJ {ks:List Key} {es:List D}:xG (.dic ks es)= .own (.dic ks es):=rfl
def XG:xG (.lst ds)= .own (.lst ds):=rfl
def XI {ks:List (List Key)} {es:List D}:xG (.dit ks es)= .own (.dit ks es):=rfl
def XF:xG .non= .shr .non:=rfl
def Ku:xG (.bl b)= .shr (.bl b):=rfl
def XH {j:Int}:xG (.int j)= .shr (.int j):=rfl
def XE {j:Str}:xG (.str j)= .shr (.str j):=rfl
def XD:xG (.tup ds)= .shr (.tup ds):=rfl
end
section
variable {f f1 f2:FJ} {g0:T5} {fa:T2} {t:Sl->Res (Bool×Sl)} {t0:T4} {g ga gb:Sl->Res OutO} {env env' env1 env2:Sl} {d d1 d2 o:D} {ds vs:List D} {ns:List Str} {b:Bool} {i j:Nat} {c m:Str} {oo:OutO}
def xo (h:g0 env= .ok d):stE g0 env= .ok (d,env):=by unfold stE;rw [h];rfl
def XC (h:t0 env= .ok b):stT t0 env= .ok (b,env):=by unfold stT;rw [h];rfl
def Xu (h:f env= .ok (d,env1)):tupJ f env= .ok (.tup [d],env1):=by unfold tupJ;rw [h];rfl
def Kl (h:f1 env= .ok (d1,env1)) (h2:f2 env1= .ok (d2,env2)) (h3:addD d1 d2= .ok d):addJ f1 f2 env= .ok (d,env2):=by unfold addJ;rw [h,zi,h2,zi,h3];rfl
def VS (h:f env= .ok (.bl b,env1)):asJ f env= .ok (b,env1):=by unfold asJ;rw [h];rfl
def J2 (h:t env= .ok (b,env1)):notJ t env= .ok (!b,env1):=by unfold notJ;rw [h];rfl
def x4 (h:t env= .ok (b,env1)) (h1:(if b=true then ga env1 else gb env1)= .ok oo):iffJ t ga gb env= .ok oo:=by unfold iffJ;rw [h];exact h1
def yi (h:t0 env= .ok b) (h1:(if b=true then ga env else gb env)= .ok oo):ifJ t0 ga gb env= .ok oo:=by unfold ifJ;rw [h];exact h1
def yz (h:f env= .ok (d,env1)):setJ j f env= .ok (.nx (env1.set j (.shr d))):=by unfold setJ;rw [h];rfl
def Yv (h:f env= .ok (d,env1)):lstJ j f env= .ok (.nx (env1.set j (.own (.lst [d])))):=by unfold lstJ;rw [h];rfl
def Kk {ds0:List D} (h0:env[j]?=some (.own (.lst ds0))) (h:f env= .ok (d,env1)) (h1:env1[j]?=some (.own (.lst ds))) (h2:ds.length<aae):appJ j f env= .ok (.nx (env1.set j (.own (.lst (ds++[d]))))):=by
 unfold appJ;rw [Zr h0,zi,h,zi,Zr h1,zi];exact jl h2
def q9 (h:f env= .ok (d,env1)):yC f env= .ok (.rt d env1):=by unfold yC;rw [h];rfl
def Yg (h:env[i]?=some (.own (.obj c ns vs))):ownJ i c env= .ok (ns,vs):=by unfold ownJ;rw [h];exact jl rfl
def Qj {x y:Int} (h:env[i]?=some (.own (.obj c ns vs))) (h1:g0 env= .ok (.int y)) (h2:getN m ns vs=some (.int x)) (h3:ns.length<1000):Xj i c m g0 env= .ok (.nx (env.set i (.own (.obj c (JR m ns) (JS m (.int (x+y)) ns vs))))):=by
 unfold Xj;rw [Yg h,zi,h1,zi];dsimp only;rw [h2];exact jl h3
def zw {n:Nat} {F:FO} {r d1:D} (h:env[i]?=some (.own (.obj c ns vs))) (hm:ns.contains m=false) (h1:fa env= .ok ds) (h2:ds.length=n) (h3:F (.obj c ns vs) ds= .ok (r,d1)):zZ i c m n F fa env= .ok (r,env.set i (.own d1)):=by
 unfold zZ;rw [Yg h,zi];refine (jl hm).trans ?_;rw [h1,zi];refine (jl h2).trans ?_;rw [h3];rfl
def j7 (h:ga env= .ok (.nx env')) (h2:gb env'= .ok oo):seqJ ga gb env= .ok oo:=by unfold seqJ;rw [h];exact h2
def Zh (h:ga env= .ok (.rt d env')):seqJ ga gb env= .ok (.rt d env'):=by unfold seqJ;rw [h];rfl
def Jh {n:Nat} (h:t env= .ok (false,env1)):wm (n+1) t g env= .ok (.nx env1):=by
 show (t env>>=_)=_;rw [h];rfl
def Qo {n:Nat} (h:t env= .ok (true,env1)) (h2:g env1= .ok (.nx env2)):wm (n+1) t g env=wm n t g env2:=by
 show (t env>>=_)=_;rw [h];show (g env1>>=_)=_;rw [h2];rfl
def wy {N n:Nat} {d0 d1 r:D} {rest:Sl} (hn:ds.length=n) (h:g (xF N d0 ds)= .ok (.rt r (.own d1::rest))):runJ N n g d0 ds= .ok (r,d1):=by
 unfold runJ;refine (jl hn).trans ?_;rw [h];rfl
def Kv (h:f env= .ok (d,env1)):Kw j f env= .ok (.nx (env1.set j (.shr d))):=by unfold Kw;rw [h];rfl
end
def kj {fo:T5} {fa:T2} {gg:Str->List D->Res D} {env:Sl} {z:Str} {ds:List D} {d:D} (h1:fo env= .ok (.str z)) (h2:fa env= .ok ds) (h3:gg z ds= .ok d):smF fo fa gg env= .ok d:=by
 unfold smF;rw [h1,zi];dsimp only;rw [h2];exact h3
end M
namespace G
open PySem PySem.Spec L2 M
open PyProof.Rows hiding St
def top (i:Nat):Stmt:=PySem.Challenge.pw_endwise_k06_written_and_read.main.body.getD i (.Pass ⟨0,0,0,0⟩)
abbrev wv:Stmt:=top 26
abbrev wr:Stmt:=top 27
abbrev JP:Stmt:=top 16
abbrev Zl:Stmt:=top 20
abbrev qs:Stmt:=x3 (top 22) 0
abbrev qU:Stmt:=x3 (top 22) 4
abbrev qK:Stmt:=x3 (top 22) 5
abbrev j8:Stmt:=x3 (top 22) 2
abbrev j3:Stmt:=x3 (top 22) 3
abbrev xW:Stmt:=top 10
abbrev xZ:Stmt:=top 12
abbrev yB:Stmt:=top 11
abbrev xX:Stmt:=top 13
abbrev qo:Stmt:=x3 (top 22) 1
abbrev zQ:Stmt:=top 15
abbrev xY:Stmt:=top 14
abbrev XV:Stmt:=top 21
abbrev wq:Stmt:=top 25
abbrev wu:Stmt:=top 31
abbrev xw:Stmt:=top 30
abbrev wx:Stmt:=top 32
abbrev zA:Stmt:=top 24
abbrev xv:Stmt:=top 29
abbrev xx:Stmt:=top 28
abbrev JQ:Stmt:=top 33
def yk:Sl->Res Out:=
 (retO (two (two (two (two (two (rdS 0) (cI 23) addD) (two (cI 7) (cI 61) powI) mulI) (two (cI 11) (cI 63) powI) mulI) (two (cI 13) (cI 9) powI) mulI) (two (two (cI 10) (cI 60) powI) (two (cI 10) (cI 60) powI) mulI) modI))
def qi:List D->Res D:=runF true 1 (yk)
def wK:Sl->Res Out:=
 (seqO (jB 1 (cS "abcdefghijklmnopqrstuvwxyz")) (seqO (jB 2 (two (cI 1) (two (rdS 0) (cI 8) modI) addD)) (seqO (jB 3 (cS "")) (seqO (forO (rngF (jc (rdS 2) nil1)) (gN 4) (seqO (jB 0 (two (rdS 0) (cI 26) divI)) (jB 3 (two (rdS 3) (two (rdS 1) (two (rdS 0) (cI 26) modI) ixD) addD)))) (seqO (jB 5 (two (two (rdS 0) (cI 26) divI) (rdS 2) modI)) (seqO (setO 6 (lstF nil1)) (seqO (forO (rngF (jc (cI 4) nil1)) (gN 4) (seqO (jB 7 (two (rdS 1) (two (two (smF (rdS 1) (jc (two (rdS 3) (rdS 5) ixD) nil1) Va) (two (cI 7) (rdS 4) mulI) addD) (cI 26) modI) ixD)) (jD 6 (two (two (qX (rdS 3) yL (zG (rdS 5)) slD) (rdS 7) addD) (qX (rdS 3) (zG (two (rdS 5) (cI 1) addD)) yL slD) addD)))) (seqO (ifO (asB (two (rdS 2) (cI 8) ltI)) (jD 6 (two (rdS 3) (cS "a") addD)) (jD 6 (qX (rdS 3) yL (zG (cI 7)) slD))) (retO (rdO 6))))))))))
def qT:List D->Res D:=runF true 8 (wK)
def Wp:Sl->Res Out:=
 (retO (ifD (asB (isiF "tuple" (rdS 0))) (qX (rdS 0) (zG (cI 1)) yL slD) (tupF nil1)))
def qm:List D->Res D:=runF true 1 (Wp)
def wI (xy:T1) (zU:T1):Sl->Res Out:=
 (seqO (ifO (notB (asB (isiF "tuple" (rdS 0)))) (retO (chk (two (cS "?") (app (jc (rdS 0) nil1) JJ) addD))) nxO) (seqO (ifO (asB (two (app (jc (rdS 0) nil1) lenD) (cI 1) eqR)) (retS (two (rdS 0) (cI 0) ixD)) nxO) (retO (two (two (two (two (rdS 0) (cI 0) ixD) (cS "(") addD) (smF (cS ",") (jc (Je false 1 [] (itF (jx 1 zU (jc (rdS 0) nil1))) (gN 0) wn (jx 1 xy (jc (rdS 0) nil1))) nil1) K1) addD) (cS ")") addD))))
def wd:Nat->List D->Res D
 |0=>fun _=> .stuck
 |n+1=>runF false 1 (wI (wd n) qm)
def zf:Sl->Res OutO:=
 (seqJ (VZ 0 "Reader" "text" (rdS 1)) (VZ 0 "Reader" "at" (cI 0)))
def jZ:FO:=runJ 2 1 (zf)
def jM:Sl->Res OutO:=
 (seqJ (ifJ (asB (two (qX (fldF "Reader" "text" (rdB 0)) (zG (fldF "Reader" "at" (rdB 0))) (zG (two (fldF "Reader" "at" (rdB 0)) (cI 1) addD)) slD) (rdS 1) neR)) (yC (stE (cB false))) nxJ) (seqJ (Xj 0 "Reader" "at" (cI 1)) (yC (stE (cB true)))))
def jo:FO:=runJ 2 1 (jM)
def qk:Sl->Res OutO:=
 (seqJ (setJ 2 (stE (fldF "Reader" "at" (rdB 0)))) (seqJ (wm 20 (stT (andB (asB (two (fldF "Reader" "at" (rdB 0)) (app (jc (fldF "Reader" "text" (rdB 0)) nil1) lenD) ltI)) (asB (two (two (fldF "Reader" "text" (rdB 0)) (fldF "Reader" "at" (rdB 0)) ixD) (rdS 1) inD)))) (Xj 0 "Reader" "at" (cI 1))) (yC (stE (qX (fldF "Reader" "text" (rdB 0)) (zG (rdS 2)) (zG (fldF "Reader" "at" (rdB 0))) slD)))))
def jA:FO:=runJ 3 1 (qk)
def jN (jy:FO):Sl->Res OutO:=
 (seqJ (setJ 1 (zZ 0 "Reader" "run_of" 1 jy (jc (cS "0123456789") nil1))) (seqJ (ifJ (notB (asB (Qh (cI 1) (app (jc (rdS 1) nil1) lenD) (cI 3) leI leI))) Jo nxJ) (seqJ (setJ 2 (stE (chk (app (jc (rdS 1) nil1) K3)))) (seqJ (ifJ (asB (two (app (jc (rdS 2) nil1) JJ) (rdS 1) neR)) Jo nxJ) (yC (stE (rdS 2)))))))
def jE:FO:=runJ 3 0 (jN jA)
def jr (jt:FO) (jk:FO):Sl->Res OutO:=
 (seqJ (iffJ (notJ (asJ (zZ 0 "Reader" "takes" 1 jt (jc (cS "(") nil1)))) (yC (stE (tupF nil1))) nxJ) (seqJ (lstJ 2 (zZ 0 "Reader" "read_term" 1 jk (jc (two (rdS 1) (cI 1) addD) nil1))) (seqJ (wm 12 (asJ (zZ 0 "Reader" "takes" 1 jt (jc (cS ",") nil1))) (appJ 2 (zZ 0 "Reader" "read_term" 1 jk (jc (two (rdS 1) (cI 1) addD) nil1)))) (seqJ (iffJ (notJ (asJ (zZ 0 "Reader" "takes" 1 jt (jc (cS ")") nil1)))) Jo nxJ) (yC (stE (chk (app (jc (rdB 2) nil1) Jl))))))))
def jp (jk:FO):FO:=runJ 3 1 (jr jo jk)
def JC:Sl->Res Out:=
 (retO (toB (isiF "int" (rdS 0)) (notF (isiF "bool" (rdS 0))) true))
def yg:List D->Res D:=runF true 1 (JC)
def xi (x5:T1):Sl->Res Out:=
 (retO (toB (jx 1 x5 (jc (rdS 0) nil1)) (Qh (cI 0) (rdS 0) (cI 999) leI leI) true))
def zd:List D->Res D:=runF true 1 (xi yg)
def wJ:Sl->Res Out:=
 (seqO (ifO (orB (notB (asB (isiF "str" (rdS 0)))) (notB (asB (Qh (cI 1) (app (jc (rdS 0) nil1) lenD) (cI 8) leI leI)))) (retO (cB false)) nxO) (retO (app (jc (Je false 1 [] (itF (rdS 0)) (gN 0) wn (two (rdS 0) (cS "abcdefghijklmnopqrstuvwxyz") inD)) nil1) allD)))
def w6:List D->Res D:=runF true 1 (wJ)
def zL (x9:T1) (yZ:T1):Sl->Res Out:=
 (seqO (ifO (asB (isiF "tuple" (rdS 0))) (retO (toB (Qh (cI 1) (app (jc (rdS 0) nil1) lenD) (two (cI 9) (cI 1) addD) leI leI) (jx 1 yZ (jc (two (rdS 0) (cI 0) ixD) nil1)) true)) nxO) (retO (jx 1 x9 (jc (rdS 0) nil1))))
def zc:List D->Res D:=runF true 1 (zL zd w6)
def jv (jt:FO) (qc:FO) (j4:FO) (x6:T1) (jy:FO):Sl->Res OutO:=
 (seqJ (ifJ (asB (two (rdS 1) (cI 60) gtI)) Jo nxJ) (seqJ (iffJ (asJ (zZ 0 "Reader" "takes" 1 jt (jc (cS "?") nil1))) (yC (zZ 0 "Reader" "read_blank" 0 qc noA)) nxJ) (seqJ (setJ 2 (addJ (tupJ (zZ 0 "Reader" "run_of" 1 jy (jc (cS "abcdefghijklmnopqrstuvwxyz") nil1))) (zZ 0 "Reader" "read_places" 1 j4 (jc (rdS 1) nil1)))) (seqJ (ifJ (notB (asB (jx 1 x6 (jc (rdS 2) nil1)))) Jo nxJ) (yC (stE (rdS 2)))))))
def jf:Nat->FO
 |0=>fun _ _=> .stuck
 |n+1=>runJ 3 1 (jv jo jE (jp (jf n)) zc jA)
def zb (zU:T1):Sl->Res Out:=
 (seqO (setO 1 (lstF nil1)) (seqO (forO (itF (rdS 0)) (gN 2) (y0 1 (jx 1 zU (jc (rdS 2) nil1)))) (retO (rdO 1))))
def jY:List D->Res D:=runF true 3 (zb qm)
def xh (zV:T1):Sl->Res Out:=
 (seqO (jB 1 (lstF (jc (rdS 0) nil1))) (seqO (jB 2 (cI 0)) (seqO (jB 3 (cI 0)) (seqO (qB 2000 (truF (rdS 1)) (seqO (jB 2 (two (rdS 2) (cI 1) (augI fun i j=>i+j))) (seqO (jB 3 (two (rdS 3) (app (jc (rdS 1) nil1) lenD) (augI fun i j=>i+j))) (seqO (ifO (orB (asB (two (rdS 2) (cI 60) gtI)) (asB (two (rdS 3) (cI 1000) gtI))) (retO (cB true)) nxO) (jB 1 (jx 1 zV (jc (rdS 1) nil1))))))) (retO (cB false))))))
def zP:List D->Res D:=runF true 4 (xh jY)
def Wo (qv:FO) (jk:FO) (x8:T1):Sl->Res Out:=
 (seqO (ifO (notB (asB (isiF "str" (rdS 0)))) Wi nxO) (seqO (setO 1 (KZ "Reader" 1 qv (jc (rdS 0) nil1))) (seqO (Kw 2 (zZ 1 "Reader" "read_term" 1 jk (jc (cI 1) nil1))) (seqO (ifO (asB (two (fldF "Reader" "at" (rdB 1)) (app (jc (rdS 0) nil1) lenD) ltI)) Wi nxO) (seqO (ifO (asB (jx 1 x8 (jc (rdS 2) nil1))) Wi nxO) (retS (rdS 2)))))))
def WN:List D->Res D:=runF false 3 (Wo jZ (jf 62) zP)
def yj:Sl->Res Out:=
 (retO (toB (isiF "int" (rdS 0)) (notF (isiF "bool" (rdS 0))) true))
def qS:List D->Res D:=runF true 1 (yj)
def qx (wL:T1) (qa:T1):Sl->Res Out:=
 (seqO (ifO (asB (isiF "tuple" (rdS 0))) (retO (toB (two (app (jc (rdS 0) nil1) lenD) (cI 0) gtI) (toB (isiF "str" (two (rdS 0) (cI 0) ixD)) (app (jc (Je false 1 [] (itF (qX (rdS 0) (zG (cI 1)) yL slD)) (gN 0) wn (jx 1 qa (jc (rdS 0) nil1))) nil1) allD) true) true)) nxO) (retO (jx 1 wL (jc (rdS 0) nil1))))
def jV:Nat->List D->Res D
 |0=>fun _=> .stuck
 |n+1=>runF true 1 (qx qS (jV n))
def zT:Sl->Res Out:=
 (seqO (jB 1 (cS "")) (seqO (setO 2 (lstF (jc (rdS 0) nil1))) (seqO (qB 5000 (asB (two (rdB 2) (lstF nil1) neR)) (seqO (popO 2 (gN 3)) (ifO (asB (isiF "str" (rdS 3))) (jB 1 (two (rdS 1) (rdS 3) addD)) (ifO (asB (isiF "tuple" (rdS 3))) (seqO (jB 1 (two (rdS 1) (two (rdS 3) (cI 0) ixD) addD)) (ifO (asB (two (app (jc (rdS 3) nil1) lenD) (cI 1) gtI)) (seqO (jD 2 (cS ")")) (seqO (forO (WW (jc (two (app (jc (rdS 3) nil1) lenD) (cI 1) subI) (jc (cI 0) (jc (negF (cI 1)) nil1)))) (gN 4) (seqO (jD 2 (two (rdS 3) (rdS 4) ixD)) (jD 2 (cS ",")))) (seqO (popE 2) (jD 2 (cS "("))))) nxO)) (jB 1 (chk (two (two (rdS 1) (cS "?") addD) (app (jc (rdS 3) nil1) JJ) addD))))))) (retS (rdS 1)))))
def we:List D->Res D:=runF false 5 (zT)
def zo (xy:T1) (YL:T1) (qa:T1) (xz:T1):Sl->Res Out:=
 (seqO (jB 1 (jx 1 xy (jc (rdS 0) nil1))) (seqO (ifO (orB (notB (asB (isiF "str" (rdS 1)))) (asB (two (rdS 1) (jx 1 xz (jc (rdS 0) nil1)) neR))) (retO (cB false)) nxO) (seqO (jB 2 (jx 1 YL (jc (rdS 1) nil1))) (retO (toB (jx 1 qa (jc (rdS 2) nil1)) (two (rdS 2) (rdS 0) eqR) true)))))
def jW:List D->Res D:=runF true 3 (zo (wd 64) WN (jV 64) we)
def xp:Sl->Res Out:=
 (seqO (ifO (asB (two (rdS 1) (app (jc (rdS 0) nil1) lenD) ltI)) (retS (two (rdS 0) (rdS 1) ixD)) nxO) (retO (cI 0)))
def qp:List D->Res D:=runF false 2 (xp)
def qN (qt:T1):Sl->Res Out:=
 (seqO (ifO (asB (two (rdS 0) (cI 1) eqR)) (retO (tupF (jc (rdS 1) nil1))) nxO) (seqO (jB 2 (app (jc (cI 9) (jc (two (rdS 0) (cI 1) subI) nil1)) minD)) (seqO (setO 3 (lstF nil1)) (seqO (forO (rngF (jc (rdS 2) nil1)) (gN 4) (jD 3 (jx 2 qt (jc (two (two (two (rdS 0) (cI 1) subI) (rdS 4) addD) (rdS 2) divI) (jc (rdS 1) nil1))))) (retO (chk (app (jc (two (lstF (jc (rdS 1) nil1)) (rdB 3) addD) nil1) Jl)))))))
def jJ:Nat->List D->Res D
 |0=>fun _=> .stuck
 |n+1=>runF true 5 (qN (jJ n))
def j9 (qu:T1):Sl->Res Out:=
 (seqO (jB 3 (two (rdS 0) (cI 6) modI)) (seqO (jB 0 (two (rdS 0) (cI 6) divI)) (seqO (ifO (orB (asB (two (rdS 3) (cI 0) eqR)) (andB (asB (two (rdS 2) (cI 1) eqR)) (asB (two (rdS 3) (cI 4) ltI)))) (retO (tupF (jc (two (lstF (jc (cI 0) (jc (cI 1) (jc (cI 2) (jc (two (two (rdS 0) (cI 4) divI) (cI 1000) modI) nil1))))) (two (rdS 0) (cI 4) modI) ixD) (jc (two (rdS 0) (cI 4000) divI) nil1)))) nxO) (seqO (ifO (orB (asB (two (rdS 3) (cI 1) eqR)) (asB (two (rdS 2) (cI 1) eqR))) (retO (tupF (jc (tupF (jc (two (rdS 1) (two (rdS 0) (cI 5) modI) ixD) nil1)) (jc (two (rdS 0) (cI 5) divI) nil1)))) nxO) (seqO (jB 4 (two (rdS 1) (two (rdS 0) (cI 5) modI) ixD)) (seqO (jB 5 (two (cI 1) (two (two (rdS 0) (cI 5) divI) (cI 3) modI) addD)) (seqO (jB 0 (two (rdS 0) (cI 15) divI)) (seqO (setO 6 (lstF nil1)) (seqO (forO (rngF (jc (rdS 5) nil1)) (gN 7) (seqO (asgO (jx 3 qu (jc (rdS 0) (jc (rdS 1) (jc (two (rdS 2) (cI 1) subI) nil1)))) (g2 (gN 8) (gN 0))) (jD 6 (rdS 8)))) (retO (tupF (jc (chk (app (jc (two (lstF (jc (rdS 4) nil1)) (rdB 6) addD) nil1) Jl)) (jc (rdS 0) nil1)))))))))))))
def jG:Nat->List D->Res D
 |0=>fun _=> .stuck
 |n+1=>runF true 9 (j9 (jG n))
def K7 (zp:T1) (wM:T1) (qy:T1) (zE:T1) (qt:T1) (qu:T1):Sl->Res Out:=
 (seqO (jB 1 (jx 1 zp (jc (jx 2 zE (jc (rdS 0) (jc (cI 0) nil1))) nil1))) (seqO (jB 2 (jx 1 wM (jc (rdS 1) nil1))) (seqO (forO (itF (rdS 0)) (gN 3) (ifO (notB (asB (jx 1 qy (jc (two (jx 3 qu (jc (jx 1 zp (jc (rdS 3) nil1)) (jc (rdS 2) (jc (cI 4) nil1)))) (cI 0) ixD) nil1)))) (retO (cB false)) nxO)) (seqO (jB 4 (two (rdS 1) (cI 1000) modI)) (seqO (forO (rngF (jc (two (cI 1) (two (two (rdS 1) (cI 1000) divI) (cI 59) modI) addD) nil1)) (gN 5) (jB 4 (tupF (jc (two (rdS 2) (two (two (rdS 1) (rdS 5) addD) (cI 5) modI) ixD) (jc (rdS 4) nil1))))) (seqO (ifO (orB (notB (asB (jx 1 qy (jc (rdS 4) nil1)))) (notB (asB (jx 1 qy (jc (two (two (rdS 1) (cI 3) divI) (cI 1000) modI) nil1))))) (retO (cB false)) nxO) (retO (jx 1 qy (jc (jx 2 qt (jc (two (cI 1) (two (two (rdS 1) (cI 7) divI) (cI 1000) modI) addD) (jc (two (rdS 2) (cI 1) ixD) nil1))) nil1)))))))))
def F_law:List D->Res D:=runF true 6 (K7 qi qT jW qp (jJ 64) (jG 6))
structure Gm (K:aaa) (mg:Zj):Prop where
 b_isinstance:mg "isinstance" =none
 b_bool:mg "bool" =none
 b_int:mg "int" =none
 b_all:mg "all" =none
 b_len:mg "len" =none
 b_tuple:mg "tuple" =none
 b_str:mg "str" =none
 b_range:mg "range" =none
 b_min:mg "min" =none
 c_LETTERS: ∃t,mg "LETTERS" =some (.str "abcdefghijklmnopqrstuvwxyz" t)
 c_MOST_LETTERS: ∃t,mg "MOST_LETTERS" =some (.int 8 t)
 c_MOST_PLACES: ∃t,mg "MOST_PLACES" =some (.int 9 t)
 c_MOST_BLANK: ∃t,mg "MOST_BLANK" =some (.int 999 t)
 c_MOST_LEVELS: ∃t,mg "MOST_LEVELS" =some (.int 60 t)
 c_MOST_PARTS: ∃t,mg "MOST_PARTS" =some (.int 1000 t)
 c_FIGURES: ∃t,mg "FIGURES" =some (.str "0123456789" t)
 c_MOST_FIGURES: ∃t,mg "MOST_FIGURES" =some (.int 3 t)
 f_Reader_at:FldN K "Reader" "at"
 f_Reader_text:FldN K "Reader" "text"
def uw:FnScope ["_law_cell"] ["_law_cell"] (je wv):=fsc
def uy:FnScope ["_law_number", "_law_letters", "_law_size", "_law_first", "_law_k", "_law_at", "_law_names_here", "_law_sign"] ["_law_number"] (je wr):=fsc
def uM:FnScope ["term"] ["term"] (je JP):=fsc
def uO:FnScope ["term"] ["term"] (je Zl):=fsc
def ul:FnScope ["self", "text"] ["self", "text"] (je qs):=fsc
def ur:FnScope ["self", "sign"] ["self", "sign"] (je qU):=fsc
def uq:FnScope ["self", "signs", "start"] ["self", "signs"] (je qK):=fsc
def um:FnScope ["self", "figures", "blank"] ["self"] (je j8):=fsc
def uo:FnScope ["self", "level", "found"] ["self", "level"] (je j3):=fsc
def uJ:FnScope ["thing"] ["thing"] (je xW):=fsc
def uF:FnScope ["thing"] ["thing"] (je xZ):=fsc
def uH:FnScope ["thing"] ["thing"] (je yB):=fsc
def uI:FnScope ["thing"] ["thing"] (je xX):=fsc
def up:FnScope ["self", "level", "term"] ["self", "level"] (je qo):=fsc
def uL:FnScope ["row", "below", "thing"] ["row"] (je zQ):=fsc
def uG:FnScope ["thing", "row", "depth", "counted"] ["thing"] (je xY):=fsc
def uN:FnScope ["text", "reader", "term"] ["text"] (je XV):=fsc
def uB:FnScope ["_law_thing"] ["_law_thing"] (je wq):=fsc
def ux:FnScope ["_law_found"] ["_law_found"] (je wu):=fsc
def uA:FnScope ["_law_term_here", "_law_text_here", "_law_todo", "_law_one", "_law_k"] ["_law_term_here"] (je xw):=fsc
def ut:FnScope ["_law_term_here", "_law_text_here", "_law_found"] ["_law_term_here"] (je wx):=fsc
def uv:FnScope ["_law_script", "_law_k"] ["_law_script", "_law_k"] (je zA):=fsc
def uC:FnScope ["_law_many", "_law_name", "_law_shares", "_law_places", "_law_k"] ["_law_many", "_law_name"] (je xv):=fsc
def uz:FnScope ["_law_number", "_law_names_here", "_law_room", "_law_kind", "_law_name", "_law_count", "_law_places", "_law_k", "_law_place"] ["_law_number", "_law_names_here", "_law_room"] (je xx):=fsc
def uK:FnScope ["_law_script", "_law_first", "_law_names_here", "_law_cell", "_law_row", "_law_k"] ["_law_script"] (je JQ):=fsc
section
variable (P:aaE) (w:World) (K:aaa) (mg:Zj) (base:Heap) (k:Nat)
abbrev wZ (f:T1):Prop:=Av P w K mg base k "_law_great" ["_law_cell"] true f
abbrev wY (f:T1):Prop:=Av P w K mg base k "_law_names" ["_law_number"] true f
abbrev yx (f:T1):Prop:=Av P w K mg base k "places" ["term"] true f
abbrev Qk (f:T1):Prop:=Av P w K mg base k "shown" ["term"] false f
abbrev qw (f:FO):Prop:=AvK P w K mg base k "Reader" 1 f
abbrev qr (f:FO):Prop:=AvJ P w K mg base k "Reader" "takes" 1 f
abbrev ql (f:FO):Prop:=AvJ P w K mg base k "Reader" "run_of" 1 f
abbrev qh (f:FO):Prop:=AvJ P w K mg base k "Reader" "read_blank" 0 f
abbrev j5 (f:FO):Prop:=AvJ P w K mg base k "Reader" "read_places" 1 f
abbrev yc (f:T1):Prop:=Av P w K mg base k "is_whole" ["thing"] true f
abbrev yf (f:T1):Prop:=Av P w K mg base k "is_blank" ["thing"] true f
abbrev Ja (f:T1):Prop:=Av P w K mg base k "is_name" ["thing"] true f
abbrev yd (f:T1):Prop:=Av P w K mg base k "is_piece" ["thing"] true f
abbrev jQ (f:FO):Prop:=AvJ P w K mg base k "Reader" "read_term" 1 f
abbrev wa (f:T1):Prop:=Av P w K mg base k "level_below" ["row"] true f
abbrev ye (f:T1):Prop:=Av P w K mg base k "is_great" ["thing"] true f
abbrev Ko (f:T1):Prop:=Av P w K mg base k "read" ["text"] false f
abbrev wX (f:T1):Prop:=Av P w K mg base k "_law_whole" ["_law_thing"] true f
abbrev zx (f:T1):Prop:=Av P w K mg base k "_law_kinds" ["_law_found"] true f
abbrev xB (f:T1):Prop:=Av P w K mg base k "_law_text" ["_law_term_here"] false f
abbrev w5 (f:T1):Prop:=Av P w K mg base k "_law_asked" ["_law_term_here"] true f
abbrev zF (f:T1):Prop:=Av P w K mg base k "_law_cell_at" ["_law_script", "_law_k"] false f
abbrev wb (f:T1):Prop:=Av P w K mg base k "_law_wide" ["_law_many", "_law_name"] true f
abbrev wc (f:T1):Prop:=Av P w K mg base k "_law_term" ["_law_number", "_law_names_here", "_law_room"] true f
end
section
variable {P:aaE} {w:World} {K:aaa} {mg:Zj} {base:Heap} {k:Nat} {C:Addr}
def JZ (T:Gm K  mg) (d:Dx K mg "_law_great" wv ["_law_cell"]):
  wZ P w K mg base (k+1) (runF true 1 (yk)):=
 wj true d uw fun f cdv A outer s H E hr=>
  (jj (jU (Y3 (l:= .t) wC wE (ob yH QI (ob yH QI (ob yH QI (DE.b (qf jw jO (dv 0) i_s)) (Yp ib ib)) (Yp ib ib)) (Yp ib ib)) (ob yH QI (Yp ib ib) (Yp ib ib)))))
def JX (T:Gm K  mg) (d:Dx K mg "_law_names" wr ["_law_number"]):
  wY P w K mg base (k+1) (runF true 8 (wK)):=
 wj true d uy fun f cdv A outer s H E hr=>
  (jd (by exact (jz 1 uy.nd (q0 (l:= .s)))) (by exact (jd (by exact (jz 2 uy.nd (DE.s (qf jw jO i_s (o_s wC wE (vb 0) ib))))) (by exact (jd (by exact (jz 3 uy.nd (q0 (l:= .s)))) (by exact (jd (by exact (yl aaS rfl (wP rfl T.b_range (jb (vb 2) jh)) (qG 4 uy.nd) (jd (by exact (jz 0 uy.nd (o_s qV qW (vb 0) ib))) (by exact (jj (jz 3 uy.nd (DE.s (qf jw jO (dv 3) (wR (dv 1) (W0 (vb 0) ib)))))))))) (by exact (jd (by exact (jz 5 uy.nd (o_s wC wE (ob qV qW (vb 0) ib) (vb 2)))) (by exact (jd (by exact (JF 6 uy.nd (xt jh))) (by exact (jd (by exact (yl aaS rfl (wP rfl T.b_range (jb ib jh)) (qG 4 uy.nd) (jd (by exact (jz 7 uy.nd (wR (dv 1) (W0 (DE.b (qf jw jO (vq (l':= .s) PySem.F.slot_str_find PySem.F.type_str_find UB UD (vb 1) (jb (by exact (DE.b (wR (dv 3) (vb 5)))) jh)) (o_s yH QI ib (vb 4)))) ib)))) (by exact (jj (qF 6 (DE.s (qf jw jO (DE.s (qf jw jO (DE.s (zX (dv 3) y7 (zW (vb 5)))) (dv 7))) (DE.s (zX (dv 3) (zW (DE.b (qf jw jO (dv 5) i_s))) y7)))))))))) (by exact (jd (by exact (zN (qz Yj Yn (vb 2) ib) (jj (qF 6 (DE.s (qf jw jO (dv 3) (q0 (l:= .s)))))) (jj (qF 6 (DE.s (zX (dv 3) y7 (zW ib))))))) (by exact (jj (YY 6))))))))))))))))))
def Yl (T:Gm K  mg) (d:Dx K mg "places" JP ["term"]):
  yx P w K mg base (k+1) (runF true 1 (Wp)):=
 wj true d uM fun f cdv A outer s H E hr=>
  (jj (jU (vv (zq (zu (l':= .b) "tuple" "tuple" zK (vb 0) rfl T.b_isinstance rfl T.b_tuple aaN)) (zX (dv 0) (zW ib) y7) (ym jh))))
def KP (T:Gm K  mg) (d:Dx K mg "shown" Zl ["term"]) (ZW:Qk P w K mg base k xy) (Ql:yx P w K mg base k zU):
  Qk P w K mg base (k+1) (runF false 1 (wI xy zU)):=
 wj false d uO fun f cdv A outer s H E hr=>
  (jd (by exact (zN (xr (zq (zu (l':= .b) "tuple" "tuple" zK (vb 0) rfl T.b_isinstance rfl T.b_tuple aaN))) (jj (jU (DE.chk (l':= .t) (WC jw jO (q0 (l:= .b)) (qO wV ZQ rfl T.b_str aaT (jb (vb 0) jh)))))) qd)) (by exact (jd (by exact (zN (qz (yI (Room.u200 hr)) Zx (j6 (l':= .b) qg wU rfl T.b_len aa4 (jb (vb 0) jh)) ib) (jj (Qf (wR (dv 0) ib))) qd)) (by exact (jj (jU (qf jw jO (DE.s (qf jw jO (DE.s (qf jw jO (wR (dv 0) ib) (q0 (l:= .s)))) (vq (l':= .s) PySem.F.slot_str_join PySem.F.type_str_join UA UC (q0 (l:= .b)) (jb (by exact (DE.b (ZN false ["place", "."] 1 [] (ZP rfl rfl (T7 (l:=["place", "."])) (by intro p hp;cases hp) rfl) rfl (QV (DE.s (by exact Av.callT Ql hr (jb (dv 0) jh)))) (fun C s₂ H₂ fp=>⟨(qG 0 (T7 (l:=["place", "."]))),ZL,(by exact Av.call ZW hr (jb (dv 0) jh))⟩)))) jh)))) (q0 (l:= .s)))))))))
def xm (T:Gm K  mg) (d:Dm K C "__init__" "Reader.__init__" qs ["self", "text"]) (hC:aao K aam "Reader" =some (some (.ref C))/\Cls K C) (hmg:mg "Reader" =some (.ref C)) (mk:abS K C=true/\aaK K (.ref C)=true):
  qw P w K mg base (k+1) (runJ 2 1 (zf)):=
 vB d hC hmg mk ul rfl (by decide) fun f cdv A outer s H E hr=>
  (jC (by exact (Wz (i:=0) T.f_Reader_text (dv 1))) (by exact (jP (Wz (i:=0) T.f_Reader_at i_s))))
def x2 (T:Gm K  mg) (d:Dm K C "takes" "Reader.takes" qU ["self", "sign"]) (hC:aao K aam "Reader" =some (some (.ref C))/\Cls K C):
  qr P w K mg base (k+1) (runJ 2 1 (jM)):=
 Q7 d hC ur rfl (by decide) fun f cdv A outer s H E hr=>
  (jC (by exact (QU (qz (Wc (Room.u200 hr)) KQ (DE.b (zX (zg 0 T.f_Reader_text) (zW (DE.b (zg 0 T.f_Reader_at))) (zW (DE.b (qf jw jO (zg 0 T.f_Reader_at) i_s))))) (vb 1)) (jP (zt (DE.j (QW (l:= .s))))) zr)) (by exact (jC (by exact (WA T.f_Reader_at ib)) (by exact (jP (zt (DE.j (QW (l:= .s)))))))))
def xI (T:Gm K  mg) (d:Dm K C "run_of" "Reader.run_of" qK ["self", "signs"]) (hC:aao K aam "Reader" =some (some (.ref C))/\Cls K C):
  ql P w K mg base (k+1) (runJ 3 1 (qk)):=
 Q7 d hC uq rfl (by decide) fun f cdv A outer s H E hr=>
  (jC (by exact (Qe 2 uq.nd (DE.j (by exact (zg 0 T.f_Reader_at))))) (by exact (jC (by exact (QT 20 aaS (DT.j (by exact (DW.dt (VM (qz Yj Yn (DE.b (zg 0 T.f_Reader_at)) (j6 (l':= .b) qg wU rfl T.b_len aa4 (jb (by exact (DE.b (zg 0 T.f_Reader_text))) jh))) (YW (qz QE Vz (DE.b (wR (zg 0 T.f_Reader_text) (DE.b (zg 0 T.f_Reader_at)))) (vb 1))))))) (jP (WA T.f_Reader_at ib)))) (by exact (jP (zt (DE.j (by exact (DE.s (zX (zg 0 T.f_Reader_text) (zW (vb 2)) (zW (DE.b (zg 0 T.f_Reader_at)))))))))))))
def wg (T:Gm K  mg) (d:Dm K C "read_blank" "Reader.read_blank" j8 ["self"]) (hC:aao K aam "Reader" =some (some (.ref C))/\Cls K C) (qP:ql P w K mg base k jy):
  qh P w K mg base (k+1) (runJ 3 0 (jN jy)):=
 Q7 d hC um rfl (by decide) fun f cdv A outer s H E hr=>
  (jC (by exact (Qe 1 um.nd (by exact AvJ.call 0 qP hr (by exact (jb (gss rfl T.c_FIGURES) jh))))) (by exact (jC (by exact (QU (xr (Wy QD QJ QD QJ ib (j6 (l':= .b) qg wU rfl T.b_len aa4 (jb (vb 1) jh)) (gi rfl T.c_MOST_FIGURES))) (jP wO) zr)) (by exact (jC (by exact (Qe 2 um.nd (DE.j (by exact (DE.chk (l':= .s) (qO Kg UW rfl T.b_int ab8 (jb (vb 1) jh))))))) (by exact (jC (by exact (QU (qz (Wc (Room.u200 hr)) KQ (qO wV ZQ rfl T.b_str aaT (jb (vb 2) jh)) (vb 1)) (jP wO) zr)) (by exact (jP (zt (DE.j (dv 2))))))))))))
def zR (T:Gm K  mg) (d:Dm K C "read_places" "Reader.read_places" j3 ["self", "level"]) (hC:aao K aam "Reader" =some (some (.ref C))/\Cls K C) (j0:qr P w K mg base k jt) (jR:jQ P w K mg base k jk):
  j5 P w K mg base (k+1) (runJ 3 1 (jr jt jk)):=
 Q7 d hC uo rfl (by decide) fun f cdv A outer s H E hr=>
  (jC (by exact (ZM (YX (Qd (by exact AvJ.call 0 j0 hr (by exact (jb (q0 (l:= .s)) jh))))) (jP (zt (DE.j (DE.s (ym jh))))) zr)) (by exact (jC (by exact (UO 2 uo.nd (by exact AvJ.call 0 jR hr (by exact (jb (by exact (DE.s (qf jw jO (dv 1) i_s))) jh))))) (by exact (jC (by exact (QT 12 aaS (Qd (by exact AvJ.call 0 j0 hr (by exact (jb (q0 (l:= .s)) jh)))) (jP (Xg 2 (by exact AvJ.call 0 jR hr (by exact (jb (by exact (DE.s (qf jw jO (dv 1) i_s))) jh))))))) (by exact (jC (by exact (ZM (YX (Qd (by exact AvJ.call 0 j0 hr (by exact (jb (q0 (l:= .s)) jh))))) (jP wO) zr)) (by exact (jP (zt (DE.j (by exact (DE.chk (l':= .s) (qO zY Qi rfl T.b_tuple aaN (jb (db 2) jh)))))))))))))))
def Zt (T:Gm K  mg) (d:Dx K mg "is_whole" xW ["thing"]):
  yc P w K mg base (k+1) (runF true 1 (JC)):=
 wj true d uJ fun f cdv A outer s H E hr=>
  (jj (jU (y8 (zu (l':= .b) "int" "int" Wl (vb 0) rfl T.b_isinstance rfl T.b_int ab8) (JG (VP (l:= .t) (zu (l':= .b) "bool" "bool" QP (vb 0) rfl T.b_isinstance rfl T.b_bool acK))))))
def Zw (T:Gm K  mg) (d:Dx K mg "is_blank" xZ ["thing"]) (Xm:yc P w K mg base k x5):
  yf P w K mg base (k+1) (runF true 1 (xi x5)):=
 wj true d uF fun f cdv A outer s H E hr=>
  (jj (jU (y8 (DE.b (by exact Av.callT Xm hr (jb (dv 0) jh))) (JG (WD (l:= .t) QD QJ QD QJ ib (vb 0) (gi rfl T.c_MOST_BLANK))))))
def WY (T:Gm K  mg) (d:Dx K mg "is_name" yB ["thing"]):
  Ja P w K mg base (k+1) (runF true 1 (wJ)):=
 wj true d uH fun f cdv A outer s H E hr=>
  (jd (by exact (zN (DW.dt (Xf (xr (zq (zu (l':= .b) "str" "str" xJ (vb 0) rfl T.b_isinstance rfl T.b_str aaT))) (JE (xr (Wy QD QJ QD QJ ib (j6 (l':= .b) qg wU rfl T.b_len aa4 (jb (vb 0) jh)) (gi rfl T.c_MOST_LETTERS)))))) (jj (jU (QW (l:= .t)))) qd)) (by exact (jj (jU (j6 (l':= .t) (Q1 rfl) VR rfl T.b_all acT (jb (by exact (DE.b (ZN false ["sign", "."] 1 [] (ZP rfl rfl (T7 (l:=["sign", "."])) (by intro p hp;cases hp) rfl) rfl (QV (dv 0)) (fun C s₂ H₂ fp=>⟨(qG 0 (T7 (l:=["sign", "."]))),ZL,(Y7 (l:= .s) QE Vz (vb 0) (gst rfl T.c_LETTERS))⟩)))) jh))))))
def Zu (T:Gm K  mg) (d:Dx K mg "is_piece" xX ["thing"]) (Xp:yf P w K mg base k x9) (Kr:Ja P w K mg base k yZ):
  yd P w K mg base (k+1) (runF true 1 (zL x9 yZ)):=
 wj true d uI fun f cdv A outer s H E hr=>
  (jd (by exact (zN (zq (zu (l':= .b) "tuple" "tuple" zK (vb 0) rfl T.b_isinstance rfl T.b_tuple aaN)) (jj (jU (y8 (WD (l:= .b) QD QJ QD QJ ib (j6 (l':= .b) qg wU rfl T.b_len aa4 (jb (vb 0) jh)) (DE.b (qf jw jO (gis rfl T.c_MOST_PLACES) i_s))) (JG (by exact Av.callT Kr hr (jb (by exact (wR (dv 0) ib)) jh)))))) qd)) (by exact (jj (jU (by exact Av.callT Xp hr (jb (dv 0) jh))))))
def wD (T:Gm K  mg) (d:Dm K C "read_term" "Reader.read_term" qo ["self", "level"]) (hC:aao K aam "Reader" =some (some (.ref C))/\Cls K C) (j0:qr P w K mg base k jt) (w9:qh P w K mg base k qc) (wl:j5 P w K mg base k j4) (Xn:yd P w K mg base k x6) (qP:ql P w K mg base k jy):
  jQ P w K mg base (k+1) (runJ 3 1 (jv jt qc j4 x6 jy)):=
 Q7 d hC up rfl (by decide) fun f cdv A outer s H E hr=>
  (jC (by exact (QU (qz Yk Yo (vb 1) (gi rfl T.c_MOST_LEVELS)) (jP wO) zr)) (by exact (jC (by exact (ZM (Qd (by exact AvJ.call 0 j0 hr (by exact (jb (q0 (l:= .s)) jh)))) (jP (zt (by exact AvJ.call0 0 w9 hr))) zr)) (by exact (jC (by exact (Qe 2 up.nd (US (UR (by exact AvJ.call 0 qP hr (by exact (jb (gss rfl T.c_LETTERS) jh)))) (by exact AvJ.call 0 wl hr (jb (dv 1) jh))))) (by exact (jC (by exact (QU (xr (zq (DE.b (by exact Av.callT Xn hr (jb (dv 2) jh))))) (jP wO) zr)) (by exact (jP (zt (DE.j (dv 2))))))))))))
def Jc (T:Gm K  mg) (d:Dx K mg "level_below" zQ ["row"]) (Ql:yx P w K mg base k zU):
  wa P w K mg base (k+1) (runF true 3 (zb zU)):=
 wj true d uL fun f cdv A outer s H E hr=>
  (jd (by exact (JF 1 uL.nd (xt jh))) (by exact (jd (by exact (yl aaS rfl (QV (dv 0)) (qG 2 uL.nd) (jj (Y0 1 (DE.s (by exact Av.callT Ql hr (jb (dv 2) jh))))))) (by exact (jj (YY 1))))))
def Zv (T:Gm K  mg) (d:Dx K mg "is_great" xY ["thing"]) (Qm:wa P w K mg base k zV):
  ye P w K mg base (k+1) (runF true 4 (xh zV)):=
 wj true d uG fun f cdv A outer s H E hr=>
  (jd (by exact (jz 1 uG.nd (DE.s (xt (jb (dv 0) jh))))) (by exact (jd (by exact (jz 2 uG.nd i_s)) (by exact (jd (by exact (jz 3 uG.nd i_s)) (by exact (jd (by exact (WB 2000 aaS (vm (vb 1)) (jd (by exact (VN 2 uG.nd ib VG)) (by exact (jd (by exact (VN 3 uG.nd (j6 (l':= .b) qg wU rfl T.b_len aa4 (jb (vb 1) jh)) VG)) (by exact (jd (by exact (zN (DW.dt (Xf (qz Yk Yo (vb 2) (gi rfl T.c_MOST_LEVELS)) (JE (qz Yk Yo (vb 3) (gi rfl T.c_MOST_PARTS))))) (jj (jU (QW (l:= .t)))) qd)) (by exact (jj (jz 1 uG.nd (DE.s (by exact Av.callT Qm hr (jb (dv 1) jh))))))))))))) (by exact (jj (jU (QW (l:= .t))))))))))))
def Uw (T:Gm K  mg) (d:Dx K mg "read" XV ["text"]) {qZ:Nat} (xE:qw P w K mg base qZ qv) (xn:qZ+1<=k) (jR:jQ P w K mg base k jk) (Xo:ye P w K mg base k x8):
  Ko P w K mg base (k+1) (runF false 3 (Wo qv jk x8)):=
 wj false d uN fun f cdv A outer s H E hr=>
  (jd (by exact (zN (xr (zq (zu (l':= .b) "str" "str" xJ (vb 0) rfl T.b_isinstance rfl T.b_str aaT))) y6 qd)) (by exact (jd (by exact (JF 1 uN.nd (by exact AvK.make xE (hr.mono xn) (jb (dv 0) jh)))) (by exact (jd (by exact (UP 2 uN.nd (by exact AvJ.call 1 jR hr (by exact (jb i_s jh))))) (by exact (jd (by exact (zN (qz Yj Yn (DE.b (zg 1 T.f_Reader_at)) (j6 (l':= .b) qg wU rfl T.b_len aa4 (jb (vb 0) jh))) y6 qd)) (by exact (jd (by exact (zN (zq (DE.b (by exact Av.callT Xo hr (jb (dv 2) jh)))) y6 qd)) (by exact (jj (Qf (dv 2)))))))))))))
def JW (T:Gm K  mg) (d:Dx K mg "_law_whole" wq ["_law_thing"]):
  wX P w K mg base (k+1) (runF true 1 (yj)):=
 wj true d uB fun f cdv A outer s H E hr=>
  (jj (jU (y8 (zu (l':= .b) "int" "int" Wl (vb 0) rfl T.b_isinstance rfl T.b_int ab8) (JG (VP (l:= .t) (zu (l':= .b) "bool" "bool" QP (vb 0) rfl T.b_isinstance rfl T.b_bool acK))))))
def JY (T:Gm K  mg) (d:Dx K mg "_law_kinds" wu ["_law_found"]) (Q8:wX P w K mg base k wL) (w8:zx P w K mg base k qa):
  zx P w K mg base (k+1) (runF true 1 (qx wL qa)):=
 wj true d ux fun f cdv A outer s H E hr=>
  (jd (by exact (zN (zq (zu (l':= .b) "tuple" "tuple" zK (vb 0) rfl T.b_isinstance rfl T.b_tuple aaN)) (jj (jU (y8 (Y7 (l:= .b) Yk Yo (j6 (l':= .b) qg wU rfl T.b_len aa4 (jb (vb 0) jh)) ib) (y8 (zu (l':= .b) "str" "str" xJ (DE.b (wR (dv 0) ib)) rfl T.b_isinstance rfl T.b_str aaT) (JG (j6 (l':= .t) (Q1 rfl) VR rfl T.b_all acT (jb (by exact (DE.b (ZN false ["_law_place", "."] 1 [] (ZP rfl rfl (T7 (l:=["_law_place", "."])) (by intro p hp;cases hp) rfl) rfl (QV (DE.s (zX (dv 0) (zW ib) y7))) (fun C s₂ H₂ fp=>⟨(qG 0 (T7 (l:=["_law_place", "."]))),ZL,(DE.s (by exact Av.callT w8 hr (jb (dv 0) jh)))⟩)))) jh))))))) qd)) (by exact (jj (jU (by exact Av.callT Q8 hr (jb (dv 0) jh))))))
def QG (T:Gm K  mg) (d:Dx K mg "_law_text" xw ["_law_term_here"]):
  xB P w K mg base (k+1) (runF false 5 (zT)):=
 wj false d uA fun f cdv A outer s H E hr=>
  (jd (by exact (jz 1 uA.nd (q0 (l:= .s)))) (by exact (jd (by exact (JF 2 uA.nd (xt (jb (dv 0) jh)))) (by exact (jd (by exact (WB 5000 aaS (qz (Wc (Room.u200 hr)) KQ (db 2) (DE.b (xt jh))) (jd (by exact (vn 2 (qG 3 uA.nd))) (by exact (jj (zN (zq (zu (l':= .b) "str" "str" xJ (vb 3) rfl T.b_isinstance rfl T.b_str aaT)) (jj (jz 1 uA.nd (DE.s (qf jw jO (dv 1) (dv 3))))) (jj (zN (zq (zu (l':= .b) "tuple" "tuple" zK (vb 3) rfl T.b_isinstance rfl T.b_tuple aaN)) (jd (by exact (jz 1 uA.nd (DE.s (qf jw jO (dv 1) (wR (dv 3) ib))))) (by exact (jj (zN (qz Yk Yo (j6 (l':= .b) qg wU rfl T.b_len aa4 (jb (vb 3) jh)) ib) (jd (by exact (qF 2 (q0 (l:= .s)))) (by exact (jd (by exact (yl aaS rfl (Y1 rfl T.b_range (jb (by exact (ob Wb Wd (j6 (l':= .b) qg wU rfl T.b_len aa4 (jb (vb 3) jh)) ib)) (jb ib (jb (by exact (vt (l':= .b) ib)) jh)))) (qG 4 uA.nd) (jd (by exact (qF 2 (wR (dv 3) (vb 4)))) (by exact (jj (qF 2 (q0 (l:= .s)))))))) (by exact (jd (by exact (UQ 2)) (by exact (jj (qF 2 (q0 (l:= .s)))))))))) qd)))) (jj (jz 1 uA.nd (DE.chk (l':= .s) (WC jw jO (DE.b (qf jw jO (dv 1) (q0 (l:= .s)))) (qO wV ZQ rfl T.b_str aaT (jb (vb 3) jh)))))))))))))) (by exact (jj (Qf (dv 1)))))))))
def J0 (T:Gm K  mg) (d:Dx K mg "_law_asked" wx ["_law_term_here"]) (ZW:Qk P w K mg base k xy) (vF:Ko P w K mg base k YL) (w8:zx P w K mg base k qa) (ZX:xB P w K mg base k xz):
  w5 P w K mg base (k+1) (runF true 3 (zo xy YL qa xz)):=
 wj true d ut fun f cdv A outer s H E hr=>
  (jd (by exact (jz 1 ut.nd (by exact Av.call ZW hr (jb (dv 0) jh)))) (by exact (jd (by exact (zN (DW.dt (Xf (xr (zq (zu (l':= .b) "str" "str" xJ (vb 1) rfl T.b_isinstance rfl T.b_str aaT))) (JE (qz (Wc (Room.u200 hr)) KQ (vb 1) (DE.b (by exact Av.call ZX hr (jb (dv 0) jh))))))) (jj (jU (QW (l:= .t)))) qd)) (by exact (jd (by exact (jz 2 ut.nd (by exact Av.call vF hr (jb (dv 1) jh)))) (by exact (jj (jU (y8 (DE.b (by exact Av.callT w8 hr (jb (dv 2) jh))) (JG (Y7 (l:= .t) (yI (Room.u200 hr)) Zx (vb 2) (vb 0))))))))))))
def yJ (T:Gm K  mg) (d:Dx K mg "_law_cell_at" zA ["_law_script", "_law_k"]):
  zF P w K mg base (k+1) (runF false 2 (xp)):=
 wj false d uv fun f cdv A outer s H E hr=>
  (jd (by exact (zN (qz Yj Yn (vb 1) (j6 (l':= .b) qg wU rfl T.b_len aa4 (jb (vb 0) jh))) (jj (Qf (wR (dv 0) (vb 1)))) qd)) (by exact (jj (jU (Y4 (l:= .t))))))
def QF (T:Gm K  mg) (d:Dx K mg "_law_wide" xv ["_law_many", "_law_name"]) (xC:wb P w K mg base k qt):
  wb P w K mg base (k+1) (runF true 5 (qN qt)):=
 wj true d uC fun f cdv A outer s H E hr=>
  (jd (by exact (zN (qz (yI (Room.u200 hr)) Zx (vb 0) ib) (jj (jU (ym (jb (dv 1) jh)))) qd)) (by exact (jd (by exact (jz 2 uC.nd (j6 (l':= .s) (Kf rfl) vz rfl T.b_min Kh (jb ib (jb (by exact (ob Wb Wd (vb 0) ib)) jh))))) (by exact (jd (by exact (JF 3 uC.nd (xt jh))) (by exact (jd (by exact (yl aaS rfl (wP rfl T.b_range (jb (vb 2) jh)) (qG 4 uC.nd) (jj (qF 3 (DE.s (by exact Av.callT xC hr (jb (by exact (o_s qV qW (DE.b (qf jw jO (o_s Wb Wd (vb 0) ib) (dv 4))) (vb 2))) (jb (dv 1) jh)))))))) (by exact (jj (jU (DE.chk (l':= .t) (qO zY Qi rfl T.b_tuple aaN (jb (by exact (WC jw jO (DE.b (xt (jb (dv 1) jh))) (db 3))) jh)))))))))))))
def QH (T:Gm K  mg) (d:Dx K mg "_law_term" xx ["_law_number", "_law_names_here", "_law_room"]) (xD:wc P w K mg base k qu):
  wc P w K mg base (k+1) (runF true 9 (j9 qu)):=
 wj true d uz fun f cdv A outer s H E hr=>
  (jd (by exact (jz 3 uz.nd (o_s wC wE (vb 0) ib))) (by exact (jd (by exact (jz 0 uz.nd (o_s qV qW (vb 0) ib))) (by exact (jd (by exact (zN (DW.dt (Xf (qz (yI (Room.u200 hr)) Zx (vb 3) ib) (JE (DW.dt (VM (qz (yI (Room.u200 hr)) Zx (vb 2) ib) (YW (qz Yj Yn (vb 3) ib))))))) (jj (jU (ym (jb (by exact (wR (DE.s (xt (jb i_s (jb i_s (jb i_s (jb (by exact (o_s wC wE (ob qV qW (vb 0) ib) ib)) jh)))))) (W0 (vb 0) ib))) (jb (by exact (o_s qV qW (vb 0) ib)) jh))))) qd)) (by exact (jd (by exact (zN (DW.dt (Xf (qz (yI (Room.u200 hr)) Zx (vb 3) ib) (JE (qz (yI (Room.u200 hr)) Zx (vb 2) ib)))) (jj (jU (ym (jb (by exact (DE.s (ym (jb (by exact (wR (dv 1) (W0 (vb 0) ib))) jh)))) (jb (by exact (o_s qV qW (vb 0) ib)) jh))))) qd)) (by exact (jd (by exact (jz 4 uz.nd (wR (dv 1) (W0 (vb 0) ib)))) (by exact (jd (by exact (jz 5 uz.nd (DE.s (qf jw jO i_s (o_s wC wE (ob qV qW (vb 0) ib) ib))))) (by exact (jd (by exact (jz 0 uz.nd (o_s qV qW (vb 0) ib))) (by exact (jd (by exact (JF 6 uz.nd (xt jh))) (by exact (jd (by exact (yl aaS rfl (wP rfl T.b_range (jb (vb 5) jh)) (qG 7 uz.nd) (jd (by exact (vo (DE.s (by exact Av.callT xD hr (jb (dv 0) (jb (dv 1) (jb (by exact (o_s Wb Wd (vb 2) ib)) jh))))) (vp rfl (qG 8 uz.nd) (qG 0 uz.nd)))) (by exact (jj (qF 6 (dv 8))))))) (by exact (jj (jU (ym (jb (by exact (DE.chk (l':= .s) (qO zY Qi rfl T.b_tuple aaN (jb (by exact (WC jw jO (DE.b (xt (jb (dv 4) jh))) (db 6))) jh)))) (jb (dv 0) jh)))))))))))))))))))))))
def kH {f:Addr} {fd:abo} (T:Gm K  mg) (Fu:Fun K "law" "law" JQ f fd) (yn:wZ P w K mg base k zp) (Q9:wY P w K mg base k wM) (zy:w5 P w K mg base k qy) (Jg:zF P w K mg base k zE) (xC:wb P w K mg base k qt) (xD:wc P w K mg base k qu):
  FnOk P w K mg base CX0 (k+1) f fd ["_law_script"] (spF K true 1 (runF true 6 (K7 zp wM qy zE qt qu))):=
 Xc true Fu uK fun cdv A outer s H E hr=>
  (jd (by exact (jz 1 uK.nd (DE.s (by exact Av.callT yn hr (jb (by exact (by exact Av.call Jg hr (jb (dv 0) (jb i_s jh)))) jh))))) (by exact (jd (by exact (jz 2 uK.nd (DE.s (by exact Av.callT Q9 hr (jb (dv 1) jh))))) (by exact (jd (by exact (yl aaS rfl (QV (dv 0)) (qG 3 uK.nd) (jj (zN (xr (zq (DE.b (by exact Av.callT zy hr (jb (by exact (wR (DE.s (by exact Av.callT xD hr (jb (by exact (DE.s (by exact Av.callT yn hr (jb (dv 3) jh)))) (jb (dv 2) (jb i_s jh))))) ib)) jh))))) (jj (jU (QW (l:= .t)))) qd)))) (by exact (jd (by exact (jz 4 uK.nd (o_s wC wE (vb 1) ib))) (by exact (jd (by exact (yl aaS rfl (wP rfl T.b_range (jb (by exact (DE.b (qf jw jO i_s (o_s wC wE (ob qV qW (vb 1) ib) ib)))) jh)) (qG 5 uK.nd) (jj (jz 4 uK.nd (DE.s (ym (jb (by exact (wR (dv 2) (W0 (DE.b (qf jw jO (dv 1) (dv 5))) ib))) (jb (dv 4) jh)))))))) (by exact (jd (by exact (zN (DW.dt (Xf (xr (zq (DE.b (by exact Av.callT zy hr (jb (dv 4) jh))))) (JE (xr (zq (DE.b (by exact Av.callT zy hr (jb (by exact (o_s wC wE (ob qV qW (vb 1) ib) ib)) jh)))))))) (jj (jU (QW (l:= .t)))) qd)) (by exact (jj (jU (by exact Av.callT zy hr (jb (by exact (DE.s (by exact Av.callT xC hr (jb (by exact (DE.s (qf jw jO i_s (o_s wC wE (ob qV qW (vb 1) ib) ib)))) (jb (by exact (wR (dv 2) ib)) jh))))) jh))))))))))))))))
end
def all_mk {l:acS} {w:World} {K:aaa} {h:Heap} {mg:Zj} {fa p24:Addr} (KX:K.In h) (G:h.Ns aam mg) (hfa:mg "law" =some (.ref fa))
  {od24 an24:Option Addr} {sl24:Array (Option Value)} {oc24 kV24 dc24 pm24 cd24 ct24:Value} {T6:Addr}
  (d0:DefN K "_law_great" wv)
  (d1:DefN K "_law_names" wr)
  (d2:DefN K "places" JP)
  (d3:DefN K "shown" Zl)
  (d4:DefM K T6 "__init__" "Reader.__init__" qs)
  (d5:DefM K T6 "takes" "Reader.takes" qU)
  (d6:DefM K T6 "run_of" "Reader.run_of" qK)
  (d7:DefM K T6 "read_blank" "Reader.read_blank" j8)
  (d8:DefM K T6 "read_places" "Reader.read_places" j3)
  (d9:DefN K "is_whole" xW)
  (d10:DefN K "is_blank" xZ)
  (d11:DefN K "is_name" yB)
  (d12:DefN K "is_piece" xX)
  (d13:DefM K T6 "read_term" "Reader.read_term" qo)
  (d14:DefN K "level_below" zQ)
  (d15:DefN K "is_great" xY)
  (d16:DefN K "read" XV)
  (d17:DefN K "_law_whole" wq)
  (d18:DefN K "_law_kinds" wu)
  (d19:DefN K "_law_text" xw)
  (d20:DefN K "_law_asked" wx)
  (d21:DefN K "_law_cell_at" zA)
  (d22:DefN K "_law_wide" xv)
  (d23:DefN K "_law_term" xx)
  (a24:aao K aam "law" =some (some (.ref p24))) (l24:K.lookup p24=some ⟨oc24,od24,.func (abr "law" "law" (wQ JQ) (qe JQ) (je JQ) .none kV24 dc24 pm24 an24 cd24 ct24),sl24⟩) (c24:abX K cd24 "law" =true) (k24:aaK K (.ref p24)=true)
  (z0:aao K aam "isinstance" =some none)
  (z1:aao K aam "bool" =some none)
  (z2:aao K aam "int" =some none)
  (z3:aao K aam "all" =some none)
  (z4:aao K aam "len" =some none)
  (z5:aao K aam "tuple" =some none)
  (z6:aao K aam "str" =some none)
  (z7:aao K aam "range" =some none)
  (z8:aao K aam "min" =some none)
  (y_LETTERS: ∃t,aao K aam "LETTERS" =some (some (.str "abcdefghijklmnopqrstuvwxyz" t)))
  (y_MOST_LETTERS: ∃t,aao K aam "MOST_LETTERS" =some (some (.int 8 t)))
  (y_MOST_PLACES: ∃t,aao K aam "MOST_PLACES" =some (some (.int 9 t)))
  (y_MOST_BLANK: ∃t,aao K aam "MOST_BLANK" =some (some (.int 999 t)))
  (y_MOST_LEVELS: ∃t,aao K aam "MOST_LEVELS" =some (some (.int 60 t)))
  (y_MOST_PARTS: ∃t,aao K aam "MOST_PARTS" =some (some (.int 1000 t)))
  (y_FIGURES: ∃t,aao K aam "FIGURES" =some (some (.str "0123456789" t)))
  (y_MOST_FIGURES: ∃t,aao K aam "MOST_FIGURES" =some (some (.int 3 t)))
  (zM:aao K aam "Reader" =some (some (.ref T6))) (wA:abJ K T6 Str.empty=true) (wH:ab2 K T6=true) (wz:acB K T6=true) (wp:aaP K (.ref T6) "__setattr__" =some (some (.builtin "object.__setattr__")))
  (wG:aaP K (.ref T6) "at" =some none)
  (zC:aaP K (.ref T6) "text" =some none)
  (yO:abS K T6=true) (yT:aaK K (.ref T6)=true)
  : ∃fd:abo,(∀(s:aaf) (v:Value),BindsTo s fd ⟨[v],[]⟩ [("_law_script",v)])/\ ∀base:Heap,K.In base->base.Ns aam mg->FnOk l.prog w K mg base CX0 130 fa fd ["_law_script"] (spF K true 1 F_law):=by
 have e:=hfa.symm.trans (aa6 KX G a24);cases e;have T:Gm K  mg:=⟨aaW KX G z0,aaW KX G z1,aaW KX G z2,aaW KX G z3,aaW KX G z4,aaW KX G z5,aaW KX G z6,aaW KX G z7,aaW KX G z8,y_LETTERS.imp fun _ h=>aa6 KX G h,y_MOST_LETTERS.imp fun _ h=>aa6 KX G h,y_MOST_PLACES.imp fun _ h=>aa6 KX G h,y_MOST_BLANK.imp fun _ h=>aa6 KX G h,y_MOST_LEVELS.imp fun _ h=>aa6 KX G h,y_MOST_PARTS.imp fun _ h=>aa6 KX G h,y_FIGURES.imp fun _ h=>aa6 KX G h,y_MOST_FIGURES.imp fun _ h=>aa6 KX G h,⟨T6,zM,⟨wA,wH,wz,wp⟩,wG⟩,⟨T6,zM,⟨wA,wH,wz,wp⟩,zC⟩⟩
 have U:=VH (st:=JQ) l24 c24 k24;have zh:aao K aam "Reader" =some (some (.ref T6))/\Cls K T6:=⟨zM,wA,wH,wz,wp⟩
 refine ⟨abr "law" "law" (wQ JQ) (qe JQ) (je JQ) .none kV24 dc24 pm24 an24 cd24 ct24,fun s v=> .of_eq rfl,fun base _ _=>?_⟩;have V0:wZ l.prog w K mg base 1 qi:=JZ (k:=0) T (d0.dx KX G tk1);have V1:wY l.prog w K mg base 1 qT:=JX (k:=0) T (d1.dx KX G tk1);have V2:yx l.prog w K mg base 1 qm:=Yl (k:=0) T (d2.dx KX G tk1)
 have V3: ∀n,Qk l.prog w K mg base (1+n) (wd n):=by
  intro n
  induction n with
  |zero=>exact Vk false (d3.dx KX G tk1)
  |succ n ih=>exact KP (k:=1+n) T (d3.dx KX G tk1) ih (V2.mono (by omega))
 have V4:qw l.prog w K mg base 1 jZ:=xm (k:=0) T (d4.dm tk2) zh (aa6 KX G zM) ⟨yO,yT⟩;have V5:qr l.prog w K mg base 1 jo:=x2 (k:=0) T (d5.dm tk2) zh;have V6:ql l.prog w K mg base 1 jA:=xI (k:=0) T (d6.dm tk2) zh;have V7:qh l.prog w K mg base 2 jE:=wg (k:=1) T (d7.dm tk1) zh (V6.mono (by decide));have V9:yc l.prog w K mg base 1 yg:=Zt (k:=0) T (d9.dx KX G tk1);have V10:yf l.prog w K mg base 2 zd:=Zw (k:=1) T (d10.dx KX G tk1) (V9.mono (by decide));have V11:Ja l.prog w K mg base 1 w6:=WY (k:=0) T (d11.dx KX G tk1);have V12:yd l.prog w K mg base 3 zc:=Zu (k:=2) T (d12.dx KX G tk1) (V10.mono (by decide)) (V11.mono (by decide))
 have V13: ∀n,jQ l.prog w K mg base (3+2*n) (jf n):=by
  intro n
  induction n with
  |zero=>exact vD (d13.dm tk2) zh rfl
  |succ n ih=>
   have Vr:j5 l.prog w K mg base (3+2*n+1) (jp (jf n)):=zR (k:=3+2*n) T (d8.dm tk2) zh (V5.mono (by omega)) ih;exact wD (k:=3+2*n+1) T (d13.dm tk2) zh (V5.mono (by omega)) (V7.mono (by omega)) Vr (V12.mono (by omega)) (V6.mono (by omega))
 have V14:wa l.prog w K mg base 2 jY:=Jc (k:=1) T (d14.dx KX G tk1) (V2.mono (by decide));have V15:ye l.prog w K mg base 3 zP:=Zv (k:=2) T (d15.dx KX G tk1) (V14.mono (by decide));have V16:Ko l.prog w K mg base 128 WN:=Uw (k:=127) T (d16.dx KX G tk1) V4 (by decide) ((V13 62).mono (by decide)) (V15.mono (by decide));have V17:wX l.prog w K mg base 1 qS:=JW (k:=0) T (d17.dx KX G tk1)
 have V18: ∀n,zx l.prog w K mg base (1+n) (jV n):=by
  intro n
  induction n with
  |zero=>exact Vk true (d18.dx KX G tk1)
  |succ n ih=>exact JY (k:=1+n) T (d18.dx KX G tk1) (V17.mono (by omega)) ih
 have V19:xB l.prog w K mg base 1 we:=QG (k:=0) T (d19.dx KX G tk1);have V20:w5 l.prog w K mg base 129 jW:=J0 (k:=128) T (d20.dx KX G tk1) ((V3 64).mono (by decide)) (V16.mono (by decide)) ((V18 64).mono (by decide)) (V19.mono (by decide));have V21:zF l.prog w K mg base 1 qp:=yJ (k:=0) T (d21.dx KX G tk2)
 have V22: ∀n,wb l.prog w K mg base (0+n) (jJ n):=by
  intro n
  induction n with
  |zero=>exact Vk true (d22.dx KX G tk2)
  |succ n ih=>exact QF (k:=0+n) T (d22.dx KX G tk2) ih
 have V23: ∀n,wc l.prog w K mg base (0+n) (jG n):=by
  intro n
  induction n with
  |zero=>exact Vk true (d23.dx KX G tk3)
  |succ n ih=>exact QH (k:=0+n) T (d23.dx KX G tk3) ih
 exact kH (k:=129) T U (V0.mono (by decide)) (V1.mono (by decide)) (V20.mono (by decide)) (V21.mono (by decide)) ((V22 64).mono (by decide)) ((V23 6).mono (by decide))
end G
namespace G
open PySem PySem.Spec L2 M
open Builtin.Int (intBits)
local macro_rules | `(tactic| decreasing_trivial) => `(tactic| first
  | (dsimp only [List.set, XJ, XG, XI, XF, Ku, XH, XE, XD])
  | (with_reducible (show _ = _; assumption))
  | (with_reducible first | apply qD | apply XQ | apply zB | apply Zm | apply v7 | apply ji | apply jg | apply kM | apply ui | apply uh | apply jL | apply q8 | apply yy | apply Wk | apply YA | apply jI | apply wF | apply VT | apply Yi | apply zm | apply qC | apply Yy | apply Ze | apply VI | apply Vq | apply Yt | apply VO | apply Vd | apply ix0 | apply Yu | apply V8 | apply Ut | apply KN | apply ub | apply qE | apply smll | apply QZ | apply xo | apply XC | apply Xu | apply Kl | apply VS | apply J2 | apply x4 | apply yi | apply yz | apply Yv | apply Kk | apply q9 | apply Qj | apply zw | apply kj)
  | ((with_reducible apply vX); exact rfl) | ((with_reducible apply zH); exact rfl)
  | ((with_reducible show isiD _ _ = _); exact rfl)
  | ((with_reducible show lenD _ = _); exact rfl)
  | ((with_reducible show List.contains _ _ = _); exact rfl)
  | ((with_reducible show fldD _ _ _ = _); exact rfl)
  | ((with_reducible show getElem? _ _ = _); exact rfl)
  | ((with_reducible show ab3 _ = _); exact rfl)
  | ((with_reducible show yL _ = _); exact rfl)
  | ((with_reducible show K2 _ = _); exact rfl)
  | ((with_reducible show slD _ _ _ = _); exact rfl)
  | ((with_reducible show Jl _ = _); exact rfl)
  | ((with_reducible show addD _ _ = _); exact rfl)
  | ((with_reducible show augI _ _ _ = _); exact rfl)
  | ((with_reducible show iOp _ _ _ _ = _); exact rfl)
  | ((with_reducible show ite _ _ _ = _); first | refine v9 (by first | rfl | assumption) ?_ | refine ua (by first | rfl | assumption) ?_)
  | ((with_reducible show _ < _); first | omega | (simp only [aab, aak, aad, aaC]; omega)) | ((with_reducible show _ <= _); first | omega | (simp only [aab, aak, aad, aaC]; omega)) | ((with_reducible show _ /\ _); omega))
local macro_rules | `(tactic| decreasing_with $t) => `(tactic| (apply Eq.trans (b := Res.ok _); (repeat' decreasing_trivial); all_goals (try ($t))))
def abc:Str:= "abcdefghijklmnopqrstuvwxyz"
def cut1 (x:D) (r:List D):cutD (x::r) (some 1) none=r:=by
 have h1:HT.sIx (x::r).length 0 (some 1)=1:=by
  have:=HT.sIx_nat (x::r).length 0 1;simp only [aab] at this ⊢;exact this.trans (by omega)
 unfold cutD;rw [h1,HT.sIx_none];simp
def X6 {d:D} (h:KW d=true):qm [d]= .ok (.tup (kids d)):=by
 cases d with
 |tup ds=>
  cases ds with
  |nil=>rfl
  |cons x r=>
   show Res.ok (D.tup (cutD (x::r) (some 1) none))=_;rw [cut1];rfl
 |_=>first|rfl|cases h
def QN {row:List D} (h:fines row=true) (hl:row.length<=1000):jY [.lst row]= .ok (.lst (zj row)):=by
 have key:=QQ (body:=wf (gN 2) (y0 1 (jx 1 qm (jc (rdS 2) nil1)))) (fun (a:List D×Slot)=>[.shr (.lst row),.own (.lst a.1),a.2]) (fun a d=>(a.1++kids d,.shr d)) (fun ds a=>fines ds=true/\a.1.length+(zj ds).length<=10000) (fun d ds a ⟨h1,h2⟩=>by
  simp only [fines,aal] at h1;have e:zj (d::ds)=kids d++zj ds:=rfl;rw [e,aad] at h2;refine ⟨?_,h1.2,by simp only [aad];omega⟩;show y0 1 (jx 1 qm (jc (rdS 2) nil1)) [.shr (.lst row),.own (.lst a.1),.shr d]=_;show (Res.ok a.1>>=fun ds=>qm [d]>>=_)=_;rw [X6 (Qa h1.1)]
  exact jl (c:=a.1.length+(kids d).length<=aae) (aau (by omega:_<=10000) (by decide))) row ([],.un) ⟨h,by have:=Ki h;simp only [aak];omega⟩
 have hfold: ∀(ds:List D) (a:List D×Slot),(ds.foldl (fun (a:List D×Slot) d=>(a.1++kids d,Slot.shr d)) a).1=a.1++zj ds:=by
  intro ds
  induction ds with
  |nil=>intro a;simp [zj]
  |cons d ds ih=>intro a;rw [List.foldl_cons,ih];simp [zj]
 have e1:zb qm (jT 3 [.lst row])= .ok (.rt true (.lst (zj row))):=by
  unfold zb;have h1:jT 3 [.lst row]=[.shr (.lst row),.un,.un]:=rfl;rw [h1];show (forD (wf (gN 2) (y0 1 (jx 1 qm (jc (rdS 2) nil1)))) row [.shr (.lst row),.own (.lst []),.un]>>=_)=_;rw [key];show Res.ok (Out.rt true (D.lst (row.foldl (fun (a:List D×Slot) d=>(a.1++kids d,Slot.shr d)) ([],.un)).1))=_;rw [hfold];simp
 exact xM e1
def Jz:Sl->Res Out:=(seqO (jB 2 (two (rdS 2) (cI 1) (augI fun i j=>i+j)))
 (seqO (jB 3 (two (rdS 3) (app (jc (rdS 1) nil1) lenD) (augI fun i j=>i+j)))
 (seqO (ifO (orB (asB (two (rdS 2) (cI 60) gtI)) (asB (two (rdS 3) (cI 1000) gtI))) (retO (cB true)) nxO)
 (jB 1 (jx 1 jY (jc (rdS 1) nil1))))))
def Xa {d:D} {row:List D} {dp ct:Nat} (h:fines row=true):Jz [.shr d,.shr (.lst row),.shr (.int dp),.shr (.int ct)]=if 60<dp+1\/1000<ct+row.length then .ok (.rt true (.bl true)) else .ok (.nx [.shr d,.shr (.lst (zj row)),.shr (.int ((dp+1:Nat):Int)),.shr (.int ((ct+row.length:Nat):Int))]):=by
 have e0:Jz [.shr d,.shr (.lst row),.shr (.int dp),.shr (.int ct)]=((if decide ((60:Int)< (dp:Int)+1)=true then Res.ok true else Res.ok (decide ((1000:Int)< (ct:Int)+row.length)))>>=fun b=>(if b=true then Res.ok (Out.rt true (.bl true)) else Res.ok (.nx [.shr d,.shr (.lst row),.shr (.int ((dp:Int)+1)),.shr (.int ((ct:Int)+row.length))])))>>=outK (jB 1 (jx 1 jY (jc (rdS 1) nil1))):=by
   unfold Jz;rw [xq,Wr];show (seqO _ _) _=_;rw [xq];rfl
 rw [e0]
 by_cases h1:60<dp+1
 · rw [if_pos (by simp;omega),if_pos (.inl h1)];rfl
 · rw [if_neg (by simp;omega)]
   by_cases h2:1000<ct+row.length
   · rw [if_pos (.inr h2)];have:decide ((1000:Int)< (ct:Int)+row.length)=true:=by simp;omega
     rw [this];rfl
   · rw [if_neg (by omega)];have:decide ((1000:Int)< (ct:Int)+row.length)=false:=by simp;omega
     rw [this];show (jY [.lst row]>>=_)=_;rw [QN h (by omega)];show Res.ok (Out.nx [.shr d,.shr (.lst (zj row)),.shr (.int ((dp:Int)+1)),.shr (.int ((ct:Int)+row.length))])=_;simp
theorem Jy (d:D): ∀(n:Nat) (row:List D) (dp ct:Nat),fines row=true->dp<=60->ct<=1000->62<=dp+n->
  ((60<dp+hgts row\/1000<ct+nums row)->qB n (truF (rdS 1)) Jz [.shr d,.shr (.lst row),.shr (.int dp),.shr (.int ct)]= .ok (.rt true (.bl true)))/\
  (¬(60<dp+hgts row\/1000<ct+nums row)-> ∃env,qB n (truF (rdS 1)) Jz [.shr d,.shr (.lst row),.shr (.int dp),.shr (.int ct)]= .ok (.nx env))
 |0,_,dp,ct,_,h1,_,h2=>by omega
 |n+1,row,dp,ct,hf,h1,h2,h3=>by
  cases row with
  |nil=>
   simp only [hgts,nums];exact ⟨fun h=>by omega,fun _=>⟨_,Ji rfl⟩⟩
  |cons x r=>
   have hs:=Xa (d:=d) (dp:=dp) (ct:=ct) hf;have hb:=W9 (x::r) (by simp);have hn:=W1 (x::r)
   by_cases hg:60<dp+1\/1000<ct+(x::r).length
   · rw [if_pos hg] at hs;exact ⟨fun _=>Xr rfl hs,fun h=>absurd (show 60<dp+hgts (x::r)\/1000<ct+nums (x::r) by omega) h⟩
   · rw [if_neg hg] at hs;have ih:=Jy d n (zj (x::r)) (dp+1) (ct+(x::r).length) (ZF hf) (by omega) (by omega) (by omega);rw [Qp rfl hs,hb,hn]
     constructor
     · intro h;exact ih.1 (by omega)
     · intro h;exact ih.2 (by omega)
def isGr (d:D):Bool:=decide (60<hgt d\/1000<num d)
def k9 {d:D} (h:fine d=true):zP [d]= .ok (.bl (isGr d)):=by
 have hl:=Jy d 2000 [d] 0 0 (by simp [fines,h]) (by omega) (by omega) (by omega);have e1:hgts [d]=hgt d:=by simp [hgts]
 have e2:nums [d]=num d:=by simp [nums]
 rw [e1,e2] at hl;simp only [Nat.zero_add] at hl
 have e0:xh jY (jT 4 [d])=(qB 2000 (truF (rdS 1)) Jz [.shr d,.shr (.lst [d]),.shr (.int ((0:Nat):Int)),.shr (.int ((0:Nat):Int))]>>=outK (retO (cB false))):=by
   unfold xh;rw [xq];show (seqO _ _) _=_;rw [xq];rfl
 by_cases hg:60<hgt d\/1000<num d
 · have:isGr d=true:=by simp [isGr,hg]
   rw [this];refine xM (o:= .rt true (.bl true)) ?_;rw [e0,hl.1 hg];rfl
 · have:isGr d=false:=by simp [isGr];omega
   rw [this];obtain ⟨env,he⟩:=hl.2 hg;refine xM (o:= .rt true (.bl false)) ?_;rw [e0,he];rfl
def isNm:D->Bool| .str z=>(decide (1<=(z.length:Int))&&decide ((z.length:Int)<=8))&&z.cps.toList.all (fun c=>inS ⟨#[c]⟩ abc)|_=>false
def yt (z:Str):isNm (.str z)=((decide (1<=(z.length:Int))&&decide ((z.length:Int)<=8))&&z.cps.toList.all (fun c=>inS ⟨#[c]⟩ abc)):=rfl
def WM {α:Type} (l:List α) (p:α->Bool):allD [.lst (l.map fun c=>D.bl (p c))]= .ok (.bl (l.all p)):=by
 have:l.map (fun c=>D.bl (p c))=(l.map p).map D.bl:=by simp
 rw [this];show (match ZR ((l.map p).map D.bl) with|some bs=>Res.ok (D.bl (bs.all id))|none=>Res.stuck)=_;rw [Vi];simp
def XM (z:Str):(Jb z).length=z.length:=by simp [Jb,acW]
def kO {d:D} (h:KW d=true):w6 [d]= .ok (.bl (isNm d)):=by
 cases d with
 |str z=>
  have e1:wJ (jT 1 [.str z])= .ok (.rt true (.bl (isNm (.str z)))):=by
   have h0:jT 1 [.str z]=[.shr (.str z)]:=rfl;rw [h0];have hi:isiD "str" (.str z)= .ok (.bl true):=rfl;have hl:lenD [.str z]= .ok (.int z.length):=rfl;rw [yt]
   by_cases h2:(z.length:Int)<=8
   · have key:Je false 1 [] (itF (rdS 0)) (gN 0) wn (two (rdS 0) (cS "abcdefghijklmnopqrstuvwxyz") inD) [.shr (.str z)]= .ok (.lst ((Jb z).map fun d=>D.bl (match d with| .str c=>inS c abc|_=>false))):=by
      refine uf _ (fun d=> ∃c,d= .str c) (ds:=Jb z) rfl (by intro d hd;obtain ⟨c,_,e⟩:=acx.mp hd;exact ⟨_,e.symm⟩) (by rw [XM];exact aau (by omega:z.length<=8) (by decide)) ?_;intro d acc ⟨c,e⟩;subst e;rfl
     have hany:(Jb z).all (fun d=>match d with| .str c=>inS c abc|_=>false)=(z.cps.toList.all (fun c=>inS ⟨#[c]⟩ abc)):=by
      simp only [Jb,List.all_map];rfl
     have h2':decide ((z.length:Int)<=8)=true:=by simp;omega
     generalize z.cps.toList.all (fun c=>inS ⟨#[c]⟩ abc)=q at hany ⊢;simp only [wJ,hi,hl,key,xq,JD,YO,ZH,Wt,Qb,YN,Wu,yw,ZI,zk,Wq,UN,YS,y4,vh,VL,ZJ,YR,YQ,Yh,Zs,abW,ZV,if_true,abV,acy,if_false,decide_eq_true_eq,xN,WH,WM,hany]
     by_cases h1:(1:Int)<=z.length<;>simp [h1,h2]
   · have h2':decide ((z.length:Int)<=8)=false:=by simp;omega
     simp only [wJ,hi,hl,xq,JD,YO,ZH,Wt,Qb,YN,Wu,yw,ZI,zk,Wq,UN,YS,y4,vh,VL,ZJ,YR,YQ,Yh,Zs,abW,ZV,if_true,abV,acy,if_false,decide_eq_true_eq,xN,WH]
     by_cases h1:(1:Int)<=z.length<;>simp [h1,h2,h2']
  exact xM e1
 |_=>first|rfl|cases h
def Low (z:Str):Prop:= ∀c∈z.cps.toList,inS ⟨#[c]⟩ abc=true
def J3 {a b:Str} (ha:Low a) (hb:Low b):Low (a++b):=fun c hc=>by
 have h:c∈(a.cps++b.cps).toList:=hc;rw [Array.toList_append,abn] at h;exact h.elim (ha c) (hb c)
def ZC {z:Str} (lo hi:Option Int) (h:Low z):Low (cutS z lo hi):=fun c hc=>by
 unfold cutS at hc
 split at hc
 · exact h c hc
 · simp only [acv] at hc;obtain ⟨i,_,hi⟩:=hc;exact h c (by rw [←Array.getElem?_toList] at hi;exact List.mem_of_getElem? hi)
def U3:Low abc:=by
 intro c hc;have:abc.cps.toList.all (fun c=>inS ⟨#[c]⟩ abc)=true:=by decide+kernel
 exact aaZ.mp this c hc
def ixS2 {z:Str} {i:Int} (h0:0<=i) (h1:i<z.length): ∃c,ixD (.str z) (.int i)= .ok (.str ⟨#[c]⟩)/\c∈z.cps.toList:=by
 obtain ⟨c,hc,hm⟩:=Kj (xs:=z.cps.toList) h0 (by simpa [acW] using h1);exact ⟨c,by simp only [ixD];rw [hc],hm⟩
def Yw {c:Nat} (h:c∈abc.cps.toList):Low ⟨#[c]⟩:=fun x hx=>by
 have:x=c:=by simpa using hx
 rw [this];exact U3 c h
def kZ (i:Int) (n:Nat) (h:0<=i):(aai none (some i) 1 n).length<=i.toNat:=by
 unfold aai sliceRange;simp only [show (1:Int)>0 by decide,if_true,aaC,acC]
 split<;>(try split)<;>(try split)<;>(try simp only [Int.ediv_one])<;>omega
def k0 (i:Int) (n:Nat) (h:0<=i):(aai (some i) none 1 n).length<=n-i.toNat:=by
 unfold aai sliceRange;simp only [show (1:Int)>0 by decide,if_true,aaC,acC]
 split<;>(try split)<;>(try split)<;>(try simp only [Int.ediv_one])<;>omega
def VQ (z:Str) (lo hi:Option Int):(cutS z lo hi).length<=(aai lo hi 1 z.length).length:=by
 unfold cutS
 split
 · rename_i h;rw [beq_iff_eq] at h;omega
 · show ((aai lo hi 1 z.length).filterMap (z.cps[·]?)).toArray.size<=_;rw [aac];exact List.length_filterMap_le _ _
def ZE {z:Str} (h1:1<=z.length) (h2:z.length<=8) (h:Low z):isNm (.str z)=true:=by
 rw [yt];simp only [aal,decide_eq_true_eq,aaZ];exact ⟨⟨by omega,by omega⟩,h⟩
def Km:abc.length=26:=by decide
def big1:20000<=aae:=by decide
def qQ {k:Nat} (h:k<=20000):k<=aae:=aau h big1
theorem WG {cs:List Slot} {fe:T5} (h:D->D) (P:D->Prop) (hf: ∀d acc,P d->fe (.shr d::(cs++[.own (.lst acc)]))= .ok (h d)):
  ∀(ds:List D) (x:Slot) (acc:List D),(∀d∈ds,P d)->acc.length+ds.length<=aae->
   ∃(y:Slot),wT (1+cs.length) (gN 0) wn fe ds (x::(cs++[.own (.lst acc)]))= .ok (y::(cs++[.own (.lst (acc++ds.map h))]))
 | [],x,acc,_,_=>⟨x,by simp [wT]⟩
 |d::ds,x,acc,hP,hl=>by
  simp only [aab] at hl;have ht:=hf d acc (hP d (by simp));obtain ⟨y,h1⟩:=WG h P hf ds (.shr d) (acc++[h d]) (fun e he=>hP e (by simp [he])) (by simp only [aad,aab,aak];omega);refine ⟨y,?_⟩
  have e1:ownL (1+cs.length) (.shr d::(cs++[.own (.lst acc)]))= .ok acc:=by
   unfold ownL;rw [show (1+cs.length)=cs.length+1 by omega,abA,aaj (aan _)];simp
  have e2:(Slot.shr d::(cs++[Slot.own (.lst acc)])).set (1+cs.length) (.own (.lst (acc++[h d])))= .shr d::(cs++[.own (.lst (acc++[h d]))]):=by
   rw [show (1+cs.length)=cs.length+1 by omega,List.set_cons_succ,List.set_append_right _ _ (aan _)];simp
  show (fe (.shr d::(cs++[.own (.lst acc)]))>>=_)=_;rw [ht];show (ownL (1+cs.length) (.shr d::(cs++[.own (.lst acc)]))>>=_)=_;rw [e1];show must _ _=_;rw [jl (by omega)];show wT _ _ _ _ ds ((Slot.shr d::(cs++[Slot.own (.lst acc)])).set (1+cs.length) (.own (.lst (acc++[h d]))))=_;rw [e2,h1];simp
def Kb {js:List Nat} {fi:T2} {fe:T5} {env:Sl} {ds:List D} {cs:List Slot} (h:D->D) (P:D->Prop) (hc:js.map (capS false env)=cs) (hi:fi env= .ok ds) (hP: ∀d∈ds,P d) (hl:ds.length<=aae)
  (hf: ∀d acc,P d->fe (.shr d::(cs++[.own (.lst acc)]))= .ok (h d)):Je false 1 js fi (gN 0) wn fe env= .ok (.lst (ds.map h)):=by
 obtain ⟨y,h1⟩:=WG (cs:=cs) h P hf ds .un [] hP (by simpa using hl);have hlen:js.length=cs.length:=by rw [←hc];simp
 show (fi env>>=_)=_;rw [hi];show (wT (1+js.length) (gN 0) wn fe ds (wS false 1 js env)>>=_)=_
 have he:wS false 1 js env= .un::(cs++[.own (.lst [])]):=by
  unfold wS;rw [hc];rfl
 rw [he,hlen,h1];show (ownL (1+cs.length) (y::(cs++[.own (.lst ([]++ds.map h))]))>>=_)=_
 have e1:ownL (1+cs.length) (y::(cs++[.own (.lst ([]++ds.map h))]))= .ok (ds.map h):=by
  unfold ownL;rw [show (1+cs.length)=cs.length+1 by omega,abA,aaj (aan _)];simp
 rw [e1];exact jl (c:=false=true->D.imms (ds.map h)=true) (fun h=>by cases h)
def yW {c:Int} (h:intBits c<=2^20+1): ∃m:Int,qi [.int c]= .ok (.int m):=by
 have e0:jT 1 [.int c]=[.shr (.int c)]:=rfl
 obtain ⟨m,hm,_⟩:NumR (two (two (two (two (rdS 0) (cI 23) addD) (two (cI 7) (cI 61) powI) mulI) (two (cI 11) (cI 63) powI) mulI) (two (cI 13) (cI 9) powI) mulI) [.shr (.int c)] (max (2^20+1) 5+1+(3*61+1)+(4*63+1)+(4*9+1)):=
  Zz (Zz (Zz (Uz (kK rfl h) (v8 (by decide))) (Zy (k:=61) (by decide) (by decide) (by decide)) (by decide)) (Zy (k:=63) (by decide) (by decide) (by decide)) (by decide)) (Zy (k:=9) (by decide) (by decide) (by decide)) (by decide)
 have ht:two (cI 10) (cI 60) powI [.shr (.int c)]= .ok (.int (10^60)):=ji rfl rfl (Vv ⟨by decide,by decide,by decide⟩);have hb:intBits ((10:Int)^60)<=4*60+1:=intBits_pow_le (by decide) 60;have hp:(0:Int)<10^60:=Int.pow_pos (by decide);refine ⟨_,x0 (d:=(.int (m%(10^60*10^60)))) ?_⟩;rw [e0];exact zB (ji hm (ji ht ht (Yr (show intBits _+intBits _<=_ by omega))) (Yt (Int.mul_pos hp hp)))
def Xi (ds:List Int): ∃c:Int,qp [.scr (ds.map D.int),.int 0]= .ok (.int c)/\(c=0\/c∈ds):=by
 cases ds with
 |nil=>exact ⟨0,rfl,.inl rfl⟩
 |cons c r=>
  refine ⟨c,?_,.inr (by simp)⟩;refine KA (d:=(.int c)) ?_;have e0:jT 2 [.scr ((c::r).map D.int),.int 0]=[.shr (.scr ((c::r).map D.int)),.shr (.int 0)]:=rfl;rw [e0]
  have ht:asB (two (rdS 1) (app (jc (rdS 0) nil1) lenD) ltI) [.shr (.scr ((c::r).map D.int)),.shr (.int 0)]= .ok true:=by
   refine jI (ji rfl (q8 (jg rfl rfl) rfl) ?_);show Res.ok (D.bl (decide ((0:Int)< (((c::r).map D.int).length:Nat))))=_;simp
  refine Qy ((if_t ht).trans (Zm (ji rfl rfl ?_)));have:=M.atI_nat (xs:=(c::r).map D.int) (k:=0);simp only [ixD];rw [show ((0:Int))=((0:Nat):Int) from rfl,this];rfl
def cs (z:Str):List Nat:=z.cps.toList
def mk (l:List Nat):Str:=⟨l.toArray⟩
def yp (l:List Nat):cs (mk l)=l:=by simp [cs,mk]
def qA (z:Str):(cs z).length=z.length:=abN
def yN (l:List Nat):(mk l).length=l.length:=by simp [mk,acW]
def vy (a b:Str):cs (a++b)=cs a++cs b:=PySem.W.KT.app_list a b
def QL (z:Str):mk (cs z)=z:=by simp [cs,mk]
def kQ (a b:List Nat):mk a++mk b=mk (a++b):=acI (by show cs _=cs _;rw [vy,yp,yp,yp])
def XA {a b:Str} (h:cs a=cs b):a=b:=acI h
theorem Ju (l:List Nat): ∀n,(aa0 n).filterMap (fun k=>l[k]?)=l.take n
 |0=>by simp
 |n+1=>by
  rw [List.range_succ,List.filterMap_append,Ju l n,List.take_succ];cases h:l[n]?<;>simp [h]
def ZO (z:Str) (a b:Nat) (h1:a<=b) (h2:b<=z.length):cs (cutS z (some (a:Int)) (some (b:Int)))=((cs z).drop a).take (b-a):=by
 have hi:aai (some (a:Int)) (some (b:Int)) 1 z.length=(aa0 (b-a)).map (a+ ·):=by
   unfold aai sliceRange;have e1: ¬((a:Int)<0):=by omega
   have e2: ¬((b:Int)<0):=by omega
   have e3:max (0:Int) (min (a:Int) (z.length:Int))=a:=by omega
   have e4:max (0:Int) (min (b:Int) (z.length:Int))=b:=by omega
   simp only [e1,e2,e3,e4,if_false,if_true,gt_iff_lt,Int.zero_lt_one,show ((1:Int)>0)=True by simp]
   have e5:(if (a:Int)<b then ((b:Int)-a+1-1)/1 else 0).toNat=b-a:=by
    split<;>omega
   rw [e5];apply acp;intro k _;omega
 unfold cutS;rw [hi]
 split
 · rename_i hc;simp only [aaC,acC,beq_iff_eq] at hc;have ha:a=0:=by omega
   have hb:b=z.length:=by omega
   subst ha hb;rw [List.drop_zero,Nat.sub_zero,←qA,List.take_length]
 · show (List.filterMap (fun x=>z.cps[x]?) ((aa0 (b-a)).map (a+ ·))).toArray.toList=_;rw [List.filterMap_map]
   have:(aa0 (b-a)).filterMap ((fun x=>z.cps[x]?) ∘ (a+ ·))=(aa0 (b-a)).filterMap (fun k=>((cs z).drop a)[k]?):=by
    congr 1;funext k;simp [cs]
   rw [this,Ju]
def UU (z:Str) (b:Nat) (h:b<=z.length):cs (cutS z none (some (b:Int)))=(cs z).take b:=by
 have e:cutS z none (some (b:Int))=cutS z (some ((0:Nat):Int)) (some (b:Int)):=by
  have:aai none (some (b:Int)) 1 z.length=aai (some ((0:Nat):Int)) (some (b:Int)) 1 z.length:=by
   unfold aai;have e:max (0:Int) (min 0 (z.length:Int))=0:=by omega
   simp [e]
  unfold cutS;rw [this]
 rw [e,ZO z 0 b (acF _) h,List.drop_zero,Nat.sub_zero]
def Five (d:D):Prop:= ∃xs:List D,d= .lst xs/\xs.length=5/\ ∀x∈xs,∃z:Str,x= .str z/\isNm (.str z)=true
def ZA (m:Int): ∃d,qT [.int m]= .ok d/\Five d:=by
 have hs:1<=1+m%8/\1+m%8<=8:=by omega
 have e0:jT 8 [.int m]=[.shr (.int m),.un,.un,.un,.un,.un,.un,.un]:=rfl;generalize hsz:1+m%8=sz at hs
 obtain ⟨env1,l1,n1,f1,u1,rfl,hf1,lw1⟩:=xj (body:=wf (gN 4) (seqO (jB 0 (two (rdS 0) (cI 26) divI)) (jB 3 (two (rdS 3) (two (rdS 1) (two (rdS 0) (cI 26) modI) ixD) addD))))
   (fun ds env=> ∃(n:Int) (f:Str) (u:Slot),env=[.shr (.int n),.shr (.str abc),.shr (.int sz),.shr (.str f),u,.un,.un,.un]/\f.length+ds.length=sz.toNat/\Low f)
   (by
     rintro d ds env ⟨n,f,u,rfl,hl,lw⟩;obtain ⟨c,hc,hcm⟩:=ixS2 (z:=abc) (i:=n/26%26) (by omega) (by rw [Km];omega);simp only [aab] at hl;have hlen:(f++(⟨#[c]⟩:Str)).length=f.length+1:=acg _ _;refine ⟨[.shr (.int (n/26)),.shr (.str abc),.shr (.int sz),.shr (.str (f++(⟨#[c]⟩:Str))),.shr d,.un,.un,.un],?_,_,_,_,rfl,by rw [hlen];omega,J3 lw (Yw hcm)⟩;rw [xU (env':=[.shr (.int n),.shr (.str abc),.shr (.int sz),.shr (.str f),.shr d,.un,.un,.un]) rfl];rw [jH (env':=[.shr (.int (n/26)),.shr (.str abc),.shr (.int sz),.shr (.str f),.shr d,.un,.un,.un]) rfl]
     refine (qD (ji rfl (ji rfl rfl hc) (jl (c:=f.length+(⟨#[c]⟩:Str).length<=aae) (aau (show f.length+1<=8 by omega) (by decide))))).trans rfl)
   (zD 0 sz.toNat) [.shr (.int m),.shr (.str abc),.shr (.int sz),.shr (.str ""),.un,.un,.un,.un] ⟨m, "",.un,rfl,by rw [xK,show ("" :Str).length=0 by decide,Nat.zero_add],fun c hc=>by cases hc⟩
 simp only [aak] at hf1;have hat:0<=n1/26%sz/\n1/26%sz<sz:=⟨Int.emod_nonneg _ (by omega),Int.emod_lt_of_pos _ (by omega)⟩
 generalize hq:n1/26%sz=at1 at hat;obtain ⟨c1,hc1⟩:=ixS (z:=f1) (i:=at1) hat.1 (by omega)
 obtain ⟨env2,l2,xs,k2,s2,rfl,_,hx,hxs⟩:=xj (body:=wf (gN 4) (seqO (jB 7 (two (rdS 1) (two (two (smF (rdS 1) (jc (two (rdS 3) (rdS 5) ixD) nil1) Va) (two (cI 7) (rdS 4) mulI) addD) (cI 26) modI) ixD))
   (jD 6 (two (two (qX (rdS 3) yL (zG (rdS 5)) slD) (rdS 7) addD) (qX (rdS 3) (zG (two (rdS 5) (cI 1) addD)) yL slD) addD))))
   (fun ds env=> ∃(xs:List D) (k s:Slot),env=[.shr (.int n1),.shr (.str abc),.shr (.int sz),.shr (.str f1),k,.shr (.int at1),.own (.lst xs),s]/\(∀d∈ds,∃k:Int,d= .int k/\0<=k/\k<0+(4:Nat))/\xs.length+ds.length=4/\ ∀x∈xs,∃z:Str,x= .str z/\isNm (.str z)=true)
   (by
     rintro d ds env ⟨xs,k,s,rfl,hd,hl,hx⟩;obtain ⟨j,rfl,hj0,hj1⟩:=hd d (by simp)
     have hm:MulC 7 j:=by
       have:j=0\/j=1\/j=2\/j=3:=by omega
       rcases this with rfl|rfl|rfl|rfl<;>decide
     obtain ⟨c,hc,hcm⟩:=ixS2 (z:=abc) (i:=(Txt.find abc (⟨#[c1]⟩:Str)+7*j)%26) (by omega) (by rw [Km];omega);simp only [aab] at hl;have hA:=aau (VQ f1 none (some at1)) (kZ at1 f1.length (by omega));have hB:=aau (VQ f1 (some (at1+1)) none) (k0 (at1+1) f1.length (by omega));have h1:(cutS f1 none (some at1)++(⟨#[c]⟩:Str)).length=(cutS f1 none (some at1)).length+1:=acg _ _;have h2:((cutS f1 none (some at1)++(⟨#[c]⟩:Str))++cutS f1 (some (at1+1)) none).length=(cutS f1 none (some at1)++(⟨#[c]⟩:Str)).length+(cutS f1 (some (at1+1)) none).length:=acg _ _;have hbig:20<=aae:=by decide
     refine ⟨[.shr (.int n1),.shr (.str abc),.shr (.int sz),.shr (.str f1),.shr (.int j),.shr (.int at1),.own (.lst (xs++[.str ((cutS f1 none (some at1)++(⟨#[c]⟩:Str))++cutS f1 (some (at1+1)) none)])),.shr (.str ⟨#[c]⟩)],?_,_,_,_,rfl,fun e he=>hd e (by simp [he]),by simp only [aad,aab,aak];omega,?_⟩
     · rw [xU (env':=[.shr (.int n1),.shr (.str abc),.shr (.int sz),.shr (.str f1),.shr (.int j),.shr (.int at1),.own (.lst xs),s]) rfl];rw [jH (env':=[.shr (.int n1),.shr (.str abc),.shr (.int sz),.shr (.str f1),.shr (.int j),.shr (.int at1),.own (.lst xs),.shr (.str ⟨#[c]⟩)]) (qD (ji rfl (ji (ji (vV rfl (jg (ji rfl rfl hc1) rfl) rfl) (ji rfl rfl (Yr hm)) rfl) rfl rfl) hc))];exact (qH (ds:=xs) rfl (ji (ji (zm rfl rfl (qC rfl) rfl) rfl (jl (c:=(cutS f1 none (some at1)).length+(⟨#[c]⟩:Str).length<=aae) (aau (show _+1<=20 by omega) hbig))) (zm rfl (qC (ji rfl rfl rfl)) rfl rfl) (jl (c:=_+_<=aae) (by omega))) (by omega)).trans rfl
     · intro x hx';rcases abn.mp hx' with h|h
       · exact hx x h
       · simp only [aaw,aaO,or_false] at h
         exact ⟨_,h,ZE (by omega) (by omega) (J3 (J3 (ZC _ _ lw1) (Yw hcm)) (ZC _ _ lw1))⟩)
   (zD 0 4) [.shr (.int n1),.shr (.str abc),.shr (.int sz),.shr (.str f1),u1,.shr (.int at1),.own (.lst []),.un] ⟨[],u1,.un,rfl,fun d hd=>QM hd,rfl,fun _ h=>by cases h⟩
 simp only [aak,Nat.add_zero] at hx;have hbig:20<=aae:=by decide
 have hlast: ∃w:Str,isNm (.str w)=true/\ifO (asB (two (rdS 2) (cI 8) ltI)) (jD 6 (two (rdS 3) (cS "a") addD)) (jD 6 (qX (rdS 3) yL (zG (cI 7)) slD)) [.shr (.int n1),.shr (.str abc),.shr (.int sz),.shr (.str f1),k2,.shr (.int at1),.own (.lst xs),s2]= .ok (.nx [.shr (.int n1),.shr (.str abc),.shr (.int sz),.shr (.str f1),k2,.shr (.int at1),.own (.lst (xs++[.str w])),s2]):=by
   have ht:asB (two (rdS 2) (cI 8) ltI) [.shr (.int n1),.shr (.str abc),.shr (.int sz),.shr (.str f1),k2,.shr (.int at1),.own (.lst xs),s2]= .ok (decide (sz<8)):=jI (ji rfl rfl rfl);have hla:(f1++("a" :Str)).length=f1.length+1:=acg _ _
   have lwa:Low ("a" :Str):=fun c hc=>by
     have e:("a" :Str).cps.toList=[97]:=by decide+kernel
     rw [e] at hc;simp only [aaw,aaO,or_false] at hc;subst hc;decide+kernel
   by_cases h8:sz<8
   · refine ⟨f1++("a" :Str),ZE (by omega) (by omega) (J3 lw1 lwa),?_⟩;rw [if_t (by rw [ht,decide_eq_true h8])];exact (qH (ds:=xs) rfl (ji rfl rfl (jl (c:=f1.length+("a" :Str).length<=aae) (aau (show f1.length+1<=20 by omega) hbig))) (by omega)).trans rfl
   · have hlb:(cutS f1 none (some 7)).length=7:=by
       have e:cs (cutS f1 none (some 7))=(cs f1).take 7:=UU f1 7 (by omega);have:=congrArg ab3 e;rw [acb,qA,qA] at this;omega
     refine ⟨cutS f1 none (some 7),ZE (by omega) (by omega) (ZC _ _ lw1),?_⟩;rw [if_f (by rw [ht,decide_eq_false h8])];exact (qH (ds:=xs) rfl (zm rfl rfl (qC rfl) rfl) (by omega)).trans rfl
 obtain ⟨w,hw,hlast⟩:=hlast;refine ⟨.lst (xs++[D.str w]),?_,xs++[D.str w],rfl,by simp [hx],?_⟩
 · refine x0 ?_;rw [e0];unfold wK;rw [jH (env':=[.shr (.int m),.shr (.str abc),.un,.un,.un,.un,.un,.un]) rfl];rw [jH (env':=[.shr (.int m),.shr (.str abc),.shr (.int sz),.un,.un,.un,.un,.un]) (by rw [←hsz];rfl)];rw [jH (env':=[.shr (.int m),.shr (.str abc),.shr (.int sz),.shr (.str ""),.un,.un,.un,.un]) rfl]
   rw [jH ((yX (ds:=zD 0 sz.toNat) (by
     show must _ _=_
     exact jl (by omega))).trans l1)]
   rw [jH (env':=[.shr (.int n1),.shr (.str abc),.shr (.int sz),.shr (.str f1),u1,.shr (.int at1),.un,.un]) (by rw [←hq];exact (qD (ji (ji rfl rfl rfl) rfl (Yt (by omega)))).trans rfl)];rw [jH (env':=[.shr (.int n1),.shr (.str abc),.shr (.int sz),.shr (.str f1),u1,.shr (.int at1),.own (.lst []),.un]) rfl];rw [jH ((yX (ds:=zD 0 4) rfl).trans l2)];rw [jH hlast];rfl
 · intro x hx';rcases abn.mp hx' with h|h
   · exact hxs x h
   · simp only [aaw,aaO,or_false] at h;exact ⟨_,h,hw⟩
def Fiv (ns:List Str) (d:D):Prop:=d= .lst (ns.map .str)/\ns.length=5/\ ∀z∈ns,isNm (.str z)=true
def K9 {d:D} (h:Five d): ∃ns,Fiv ns d:=by
 obtain ⟨xs,rfl,hl,hx⟩:=h
 have key: ∀xs:List D,(∀x∈xs,∃z:Str,x= .str z/\isNm (.str z)=true)-> ∃ns:List Str,xs=ns.map .str/\ ∀z∈ns,isNm (.str z)=true:=fun xs=>by
  induction xs with
  |nil=>intro _;exact ⟨[],rfl,fun _ h=>by cases h⟩
  |cons x r ih=>
   intro h;obtain ⟨z,rfl,hz⟩:=h _ (aaV ..);obtain ⟨ns,rfl,hn⟩:=ih fun y hy=>h y (by simp [hy])
   refine ⟨z::ns,rfl,fun y hy=>?_⟩;rcases aaw.mp hy with e|e
   · rw [e];exact hz
   · exact hn y e
 obtain ⟨ns,rfl,hn⟩:=key xs hx;exact ⟨ns,rfl,by simpa using hl,hn⟩
def W8 (m:Nat):Jd ((m+1:Nat):Int) (-1) (m+1)= .int ((m+1:Nat):Int)::Jd (m:Int) (-1) m:=by
 unfold Jd;rw [ab0,aaL,List.map_map,List.cons.injEq];refine ⟨by simp,?_⟩;apply acp;intro i _;simp only [Function.comp_apply];congr 1;omega
def Uc {fa:T2} {env:Sl} {i j k:Int} (h:fa env= .ok [.int i,.int j,.int k]) (hb:RngC i j k):WW fa env= .ok (Jd i k (aaA i j k).toNat):=by
 show (fa env>>=rng3)=_;rw [h];exact jl hb
section
variable {ns:List Str}
def YK {ns:List Str} {d:D} (h:Fiv ns d) (i:Int) (h0:0<=i) (h1:i<5): ∃z:Str,ixD d (.int i)= .ok (.str z)/\z∈ns:=by
 obtain ⟨rfl,hl,_⟩:=h;obtain ⟨x,hix,hm⟩:=ixL (ds:=ns.map .str) h0 (by rw [aaC];omega);obtain ⟨z,hz,rfl⟩:=acx.mp hm;exact ⟨z,hix,hz⟩
def KU {t:D} (h:tk ns t=true):KW t=true:=Qa (ZG t h)
end
def yV (z:Str) (ts:List D):hgt (.tup (.str z::ts))=1+hgts ts:=by rw [YI];rfl
def yK (z:Str) (ts:List D):num (.tup (.str z::ts))=1+nums ts:=by rw [VA];rfl
def ya (z:Str) (ts:List D):bks (.tup (.str z::ts))=bkss ts:=by simp [bks]
def yb (i:Int):bks (.int i)=[i]:=by simp [bks]
def VC (S:List D):neR (.lst S) (.lst [])= .ok (.bl (!S.isEmpty)):=by
 cases S with
 |nil=>rfl
 |cons x r=>
  unfold neR;rw [jl (.inr (by simp [Jk]))];simp [eqD,eqDs]
def isPc:D->Bool
 | .tup (x::r)=>decide (r.length+1<=10)&&isNm x
 | .int i=>decide (0<=i)&&decide (i<=999)
 |_=>false
def kv {d:D} (h:fine d=true):zc [d]= .ok (.bl (isPc d)):=by
 cases d with
 |tup ds=>
  cases ds with
  |nil=>rfl
  |cons x r=>
   have hx:fine x=true:=by
    simp only [fine,fines,aal] at h;exact h.2.1
   have hb:decide ((1:Int)<=((x::r).length:Int))=true:=by simp only [aab,decide_eq_true_eq];omega
   have hd:decide (((x::r).length:Int)<=9+1)=decide (r.length+1<=10):=by simp only [aab];rw [decide_eq_decide];omega
   have hi:isiD "tuple" (.tup (x::r))= .ok (.bl true):=rfl;have hl:lenD [.tup (x::r)]= .ok (.int ((x::r).length:Int)):=rfl;have ha:addD (.int 9) (.int 1)= .ok (.int (9+1)):=rfl;have hs:jT 1 [.tup (x::r)]=[.shr (.tup (x::r))]:=rfl
   have e0:zL zd w6 (jT 1 [.tup (x::r)])= .ok (.rt true (.bl (decide (r.length+1<=10)&&isNm x))):=by
    simp only [zL,hs,hi,hl,ha,xq,JD,Wt,Qb,YN,Wu,yw,ZI,zk,Wq,UN,YS,y4,YQ,Zs,abW,ZV,if_true,xN,WH,YM,ke,hb,hd,Ws,ix0,UL,List.length_singleton,kO (Qa hx)];cases decide (r.length+1<=10)<;>rfl
   exact xM e0
 |int i=>
  have hd: ∀b c:Bool,True:=fun _ _=>trivial
  have e0:zd [.int i]= .ok (.bl (decide (0<=i)&&decide (i<=999))):=by
   have e1:xi yg (jT 1 [.int i])= .ok (.rt true (.bl (decide (0<=i)&&decide (i<=999)))):=by
    unfold xi;rw [y4,YM,xN];show ((Res.ok (D.bl (decide ((0:Int)<=i)))>>=chK (cI 999 (jT 1 [.int i])) leI (.int i))>>=_)=_;rw [zk,WH];cases decide (0<=i)<;>rfl
   exact xM e1
  have e2:zL zd w6 (jT 1 [.int i])=(zd [.int i]>>=fun d=> .ok (.rt true d)):=rfl;rw [e0] at e2;exact xM e2
 |_=>first|rfl|cases h
theorem We: ∀ {ds:List D} {d:D},d∈ds->num d<=nums ds
 |x::r,d,h=>by
  simp only [nums];rcases aaw.mp h with rfl|h
  · omega
  · have:=We h;omega
def dig3: ∀i:Fin 1000,(let l:=(aav (toString (i.val:Int))).cps.toList;l.all (fun c=>decide (48<=c/\c<=57))&&decide (1<=l.length/\l.length<=3))=true:=by decide+kernel
def ds (i:Int):List Nat:=cs (aav (toString i))
def YZ {i:Int} (h:0<=i/\i<=999):(∀c∈ds i,48<=c/\c<=57)/\1<=(ds i).length/\(ds i).length<=3:=by
 have:=dig3 ⟨i.toNat,by omega⟩;simp only [aal,decide_eq_true_eq,aaZ] at this;rw [show ((i.toNat:Nat):Int)=i by omega] at this;exact ⟨this.1,this.2⟩
mutual
def sh:D->List Nat
 | .int i=>63::ds i
 | .tup (.str z::ts)=>cs z++(if ts.isEmpty=true then [] else 40::(shs ts++[41]))
 |_=>[]
def shs:List D->List Nat
 | []=>[]
 |t::r=>sh t++(if r.isEmpty=true then [] else 44::shs r)
end
def Jq (i:Int):sh (.int i)=63::ds i:=by simp [sh]
def yh (z:Str) (ts:List D):sh (.tup (.str z::ts))=cs z++(if ts.isEmpty=true then [] else 40::(shs ts++[41])):=by simp [sh]
def Z0 (t:D) (r:List D):shs (t::r)=sh t++(if r.isEmpty=true then [] else 44::shs r):=by simp [shs]
def Bk (t:D):Prop:= ∀x∈bks t,0<=x/\x<=999
section
variable {ns:List Str}
def JH {z:Str} {ts:List D} (h:Bk (.tup (.str z::ts))): ∀t∈ts,Bk t:=fun t ht x hx=>h x (by rw [ya,wW];exact abC.mpr ⟨t,ht,hx⟩)
def Yq {z:Str} (h:isNm (.str z)=true):1<=z.length/\z.length<=8:=by
 rw [yt] at h;simp only [aal,decide_eq_true_eq] at h;omega
def XN (hn: ∀z∈ns,isNm (.str z)=true): ∀t,tk ns t=true->Bk t->(sh t).length+1<=11*num t:=xu (fun i hb=>by
  rw [Jq,aab];have:=(YZ (hb i (by rw [yb];simp))).2.2
  simp [num];omega) fun z ts hz hl h hb=>by
 have hzl:=Yq (hn z hz)
 have go: ∀us:List D,(∀u∈us,(sh u).length+1<=11*num u)->(shs us).length<=11*nums us:=fun us=>by
  induction us with
  |nil=>intro _;simp [shs]
  |cons u r ih=>
   intro h;have h1:=h u (by simp);have h2:=ih fun x hx=>h x (by simp [hx])
   rw [Z0,aad];simp only [nums]
   split<;>simp only [aak,aab]<;>omega
 have:=go ts fun u hu=>(h u hu).2 (JH hb u hu)
 rw [yh,yK,aad,qA]
 split<;>simp only [aak,aab,aad]<;>omega
theorem UE (ys:List (List Nat)):cs (Txt.join "," (ys.map mk))=(match ys with
  | []=>[]
  |y::r=>y++r.flatMap (44:: ·)):=by
 cases ys with
 |nil=>rfl
 |cons y r=>
  show (List.foldl (fun acc p=>acc++(aav ",").cps++p.cps) (mk y).cps (r.map mk)).toList=_;have hc:(aav ",").cps= #[44]:=by decide+kernel
  have go: ∀(r:List (List Nat)) (acc:Array Nat),(List.foldl (fun acc p=>acc++(aav ",").cps++p.cps) acc (r.map mk)).toList=acc.toList++r.flatMap (44:: ·):=fun r=>by
   induction r with
   |nil=>intro acc;simp
   |cons x r ih=>
    intro acc;rw [aaL,List.foldl_cons,ih,hc];simp [mk]
  rw [go];simp [mk]
theorem xH: ∀(t:D) (r:List D),shs (t::r)=sh t++(r.map sh).flatMap (44:: ·)
 |t,[]=>by simp [shs]
 |t,u::r=>by
  rw [Z0,xH u r];simp
def WT (l:List (List Nat)):wo (l.map fun x=>D.str (mk x))=some (l.map mk):=by
 induction l with
 |nil=>rfl
 |cons x r ih=>simp [wo,ih]
def add_str {a b:List Nat} (h:a.length+b.length<=20000):addD (.str (mk a)) (.str (mk b))= .ok (.str (mk (a++b))):=by
 have:addD (.str (mk a)) (.str (mk b))= .ok (.str (mk a++mk b)):=jl (c:=(mk a).length+(mk b).length<=aae) (by rw [yN,yN];exact qQ h);rw [this,kQ]
def Zg {i:Int} (h:0<=i/\i<=999):JJ [.int i]= .ok (.str (mk (ds i))):=by
 have hl:(aav (toString i)).length<=20000:=by rw [←qA];have:=(YZ h).2.2;unfold ds at this;omega
 have:JJ [.int i]= .ok (.str (aav (toString i))):=jl ⟨by
  have:i.natAbs<1024:=by omega
  have:=Nat.log2_lt (n:=i.natAbs) (k:=1920)
  by_cases h0:i.natAbs=0
  · rw [h0];decide
  · rw [this h0]
    exact aas (show i.natAbs<2^10 by omega) (Nat.pow_le_pow_right (by omega) (by omega)),qQ hl⟩
 rw [this];unfold ds;rw [QL]
theorem Vo (hn: ∀z∈ns,isNm (.str z)=true): ∀(n:Nat) (t:D),tk ns t=true->Bk t->hgt t<=n->num t<=1000->wd n [t]= .ok (.str (mk (sh t)))
 |0,t,_,_,h,_=>by have:=J6 t;omega
 |n+1,t,ht,hb,hh,hm=>by
  have hsl:=XN hn t ht hb;rcases xa ht with ⟨i,rfl⟩| ⟨z,ts,rfl,hz,hl,hts⟩
  · have hi:=hb i (by rw [yb];simp);have h1:=Zg hi
    have h2:addD (.str (mk [63])) (.str (mk (ds i)))= .ok (.str (mk (sh (.int i)))):=by
     rw [Jq];exact add_str (by have:=(YZ hi).2.2;simp;omega)
    have hq:(aav "?")=mk [63]:=by decide+kernel
    have hcs:cS "?" [.shr (.int i)]= .ok (.str (mk [63])):=by rw [←hq];rfl
    have him:(D.str (mk (sh (.int i)))).imm=true:=rfl;refine x0 ?_;show wI (wd n) qm [.shr (.int i)]=_;unfold wI
    decreasing_with exact rfl
  · rw [yV] at hh;rw [yK] at hm
    have hl2:lenD [.tup (.str z::ts)]= .ok (.int ((ts.length:Int)+1)):=by
     show Res.ok (D.int (((D.str z::ts).length:Nat):Int))=_;simp
    have hix:ixD (.tup (.str z::ts)) (.int 0)= .ok (.str z):=ix0;have hty:isiD "tuple" (.tup (.str z::ts))= .ok (.bl true):=rfl
    cases ts with
    |nil=>
     have hs:sh (.tup [.str z])=cs z:=by rw [yh];simp
     have he:((((([]:List D).length:Nat):Int)+1)==1)=true:=rfl;rw [hs,QL];refine KA ?_;show wI (wd n) qm [.shr (.tup [.str z])]=_;unfold wI
     decreasing_with exact rfl
    |cons u r=>
     have he:(((((u::r:List D).length:Nat):Int)+1)==1)=false:=by simp;omega
     have hp:=X6 (KU ht);have hk:kids (.tup (.str z::u::r))=u::r:=rfl;rw [hk] at hp
     have hc:Je false 1 [] (itF (jx 1 qm (jc (rdS 0) nil1))) (gN 0) wn (jx 1 (wd n) (jc (rdS 0) nil1)) [.shr (.tup (.str z::u::r))]= .ok (.lst ((u::r).map fun t=>D.str (mk (sh t)))):=
      Kb (cs:=[]) (fun t=>D.str (mk (sh t))) (fun d=>d∈u::r) rfl (Yy (jL (jg rfl rfl) rfl hp) rfl) (fun d hd=>hd) (qQ (by omega)) (by
       intro d acc hd;have h1:=xf hd;have h2:=We hd
       exact jL (jg rfl rfl) rfl (Vo hn n d (hts d hd) (JH hb d hd) (by omega) (by omega)))
     have hstr:wo ((u::r).map fun t=>D.str (mk (sh t)))=some (((u::r).map sh).map mk):=by
      have:=WT ((u::r).map sh);rw [List.map_map] at this;exact this
     have hjl:cs (Txt.join "," (((u::r).map sh).map mk))=shs (u::r):=by
      rw [UE,aaL];exact (xH u r).symm
     have hjs:Txt.join "," (((u::r).map sh).map mk)=mk (shs (u::r)):=by rw [←hjl,QL]
     have hsh:sh (.tup (.str z::u::r))=cs z++40::(shs (u::r)++[41]):=by rw [yh];simp
     rw [hsh] at hsl;simp only [aad,aab,aak,yK] at hsl
     have hsum:((((u::r).map sh).map mk).map (·.length)).sum+(((u::r).map sh).map mk).length*(aav ",").length<=16777216:=by
      have h1:((((u::r).map sh).map mk).map (·.length)).sum<=11*nums (u::r):=by
       have go: ∀us:List D,(∀x∈us,(sh x).length<=11*num x)->(((us.map sh).map mk).map (·.length)).sum<=11*nums us:=fun us=>by
        induction us with
        |nil=>intro _;simp
        |cons x us ih=>
         intro h;have a:=h x (by simp);have b:=ih fun y hy=>h y (by simp [hy])
         simp only [aaL,List.sum_cons,nums,yN];omega
       exact go (u::r) fun x hx=>by have:=XN hn x (hts x hx) (JH hb x hx);omega
      have h2:(aav ",").length=1:=by decide+kernel
      rw [h2];simp only [aaC];omega
     have hjd:K1 "," [.lst ((u::r).map fun t=>D.str (mk (sh t)))]= .ok (.str (mk (shs (u::r)))):=by
      show (match wo _ with|some ys=>_|none=>_)=_;rw [hstr];refine (jl ⟨hsum,by rw [hjs,yN];exact qQ (by omega)⟩).trans ?_;rw [hjs]
     have q1:(aav "(")=mk [40]:=by decide+kernel
     have q2:(aav ")")=mk [41]:=by decide+kernel
     have hz':(.str z:D)= .str (mk (cs z)):=by rw [QL]
     have a1:addD (.str z) (.str "(")= .ok (.str (mk (cs z++[40]))):=by rw [hz',q1];exact add_str (by simp;omega)
     have a2:addD (.str (mk (cs z++[40]))) (.str (mk (shs (u::r))))= .ok (.str (mk (cs z++[40]++shs (u::r)))):=add_str (by simp only [aad,aab,aak];omega)
     have a3:addD (.str (mk (cs z++[40]++shs (u::r)))) (.str ")")= .ok (.str (mk (sh (.tup (.str z::u::r))))):=by
      rw [q2,hsh];refine (add_str (by simp only [aad,aab,aak];omega)).trans ?_;congr 3;simp
     refine x0 ?_;show wI (wd n) qm [.shr (.tup (.str z::u::r))]=_;unfold wI
     decreasing_with exact rfl
end
def zl:D:= .str (mk [44])
def oc:D->List Nat
 | .str x=>cs x
 |d=>sh d
mutual
def ct:D->Nat
 | .tup (_::ts)=>if ts.isEmpty=true then 1 else 2+cts ts
 |_=>1
def cts:List D->Nat
 | []=>0
 |t::r=>ct t+1+cts r
end
def wt:D->Nat
 | .str _=>1
 |d=>ct d
def wts:List D->Nat
 | []=>0
 |d::r=>wt d+wts r
def WF (x:D) (ts:List D):ct (.tup (x::ts))=if ts.isEmpty=true then 1 else 2+cts ts:=by simp [ct]
def Qg (t:D) (r:List D):cts (t::r)=ct t+1+cts r:=by simp [cts]
section
variable {ns:List Str}
def vw: ∀t,tk ns t=true->ct t+2<=3*num t:=xu (fun i=>by simp [ct,num]) fun z ts _ _ h=>by
 have go: ∀us:List D,(∀u∈us,ct u+2<=3*num u)->cts us+us.length<=3*nums us:=fun us=>by
  induction us with
  |nil=>intro _;simp [cts,nums]
  |cons u r ih=>
   intro h;have h1:=h u (by simp);have h2:=ih fun x hx=>h x (by simp [hx])
   rw [Qg];simp only [nums,aab];omega
 have:=go ts fun u hu=>(h u hu).2
 rw [WF,yK]
 cases ts with
 |nil=>simp [nums]
 |cons u r=>simp only [acD,aab] at this ⊢;simp;omega
def It (ns:List Str) (d:D):Prop:=(∃x,d= .str x)\/(tk ns d=true/\Bk d)
def WZ {t:D} (h:tk ns t=true):oc t=sh t/\wt t=ct t:=by
 rcases xa h with ⟨i,rfl⟩| ⟨z,ts,rfl,_⟩<;>exact ⟨rfl,rfl⟩
def Vl (d:D):1<=wt d:=by
 cases d with
 |tup ds=>
  cases ds with
  |nil=>simp [wt,ct]
  |cons x ts=>show 1<=ct _;rw [WF];split<;>omega
 |_=>simp [wt,ct]
theorem Xq: ∀l:List D,l.length<=wts l
 | []=>by simp [wts]
 |d::r=>by have:=Vl d;have:=Xq r;simp only [aab,wts];omega
theorem Za: ∀a b:List D,wts (a++b)=wts a+wts b
 | [],b=>by simp [wts]
 |d::r,b=>by simp only [acJ,wts,Za r b];omega
theorem QA {t0 w:Slot} {x:D} {ts:List D}: ∀(m:Nat) (S:List D) (v:Slot),m<=ts.length->S.length+2*m<=10000-> ∃v',forD (wf (gN 4) (seqO (jD 2 (two (rdS 3) (rdS 4) ixD)) (jD 2 (cS ",")))) (Jd (m:Int) (-1) m) [t0,w,.own (.lst S),.shr (.tup (x::ts)),v]= .ok (.nx [t0,w,.own (.lst (S++((ts.take m).flatMap fun u=>[zl,u]).reverse)),.shr (.tup (x::ts)),v'])
 |0,S,v,_,_=>⟨v,by simp [Jd,forD]⟩
 |m+1,S,v,h,hS=>by
  have hm:m<ts.length:=by omega
  have hix:ixD (.tup (x::ts)) (.int ((m+1:Nat):Int))= .ok ts[m]:=by
   simp only [ixD];rw [M.atI_nat];simp [hm]
  have hq:(aav ",")=mk [44]:=by decide+kernel
  have hcs: ∀e,cS "," e= .ok zl:=fun e=>by show Res.ok (D.str (aav ","))=_;rw [hq];rfl
  obtain ⟨v',hv⟩:=QA (t0:=t0) (w:=w) (x:=x) (ts:=ts) m (S++[ts[m]]++[zl]) (.shr (.int ((m+1:Nat):Int))) (by omega) (by simp only [aad,aab,aak];omega);refine ⟨v',?_⟩
  rw [W8,J8 (env':=[t0,w,.own (.lst (S++[ts[m]]++[zl])),.shr (.tup (x::ts)),.shr (.int ((m+1:Nat):Int))]) (by
   refine Ze rfl (qI (env':=[t0,w,.own (.lst (S++[ts[m]])),.shr (.tup (x::ts)),.shr (.int ((m+1:Nat):Int))]) ((qH (ds:=S) rfl (ji rfl rfl hix) (smll (by omega))).trans rfl) ?_)
   exact (qH (ds:=S++[ts[m]]) rfl (hcs _) (smll (by simp only [aad,aab,aak];omega))).trans rfl),hv]
  rw [List.take_succ_eq_append_getElem hm,acq,List.reverse_append];simp
def Ub (m:Nat) (h:m<=9):RngC (m:Int) 0 (-1)/\(aaA (m:Int) 0 (-1)).toNat=m:=by
 have: ∀m:Fin 10,RngC ((m.val:Nat):Int) 0 (-1)/\(aaA ((m.val:Nat):Int) 0 (-1)).toNat=m.val:=by decide+kernel
 exact this ⟨m,by omega⟩
def txB:Sl->Res Out:=(seqO (popO 2 (gN 3)) (ifO (asB (isiF "str" (rdS 3))) (jB 1 (two (rdS 1) (rdS 3) addD)) (ifO (asB (isiF "tuple" (rdS 3))) (seqO (jB 1 (two (rdS 1) (two (rdS 3) (cI 0) ixD) addD)) (ifO (asB (two (app (jc (rdS 3) nil1) lenD) (cI 1) gtI)) (seqO (jD 2 (cS ")")) (seqO (forO (WW (jc (two (app (jc (rdS 3) nil1) lenD) (cI 1) subI) (jc (cI 0) (jc (negF (cI 1)) nil1)))) (gN 4) (seqO (jD 2 (two (rdS 3) (rdS 4) ixD)) (jD 2 (cS ",")))) (seqO (popE 2) (jD 2 (cS "("))))) nxO)) (jB 1 (chk (two (two (rdS 1) (cS "?") addD) (app (jc (rdS 3) nil1) JJ) addD))))))
def UH (r:List D) (h: ∀t∈r,tk ns t=true):(r.flatMap fun u=>[zl,u]).flatMap oc=(r.map sh).flatMap (44:: ·):=by
 induction r with
 |nil=>rfl
 |cons u r ih=>
  rw [aa3,acq,ih fun t ht=>h t (by simp [ht]),aaL,aa3];have:=(WZ (h u (by simp))).1;have hc:oc zl=[44]:=yp _;simp [this,hc]
def Ks (r:List D) (h: ∀t∈r,tk ns t=true):wts (r.flatMap fun u=>[zl,u])=cts r:=by
 induction r with
 |nil=>simp [wts,cts]
 |cons u r ih=>
  rw [aa3,Za,ih fun t ht=>h t (by simp [ht]),Qg];have:=(WZ (h u (by simp))).2;have hc:wt zl=1:=rfl;simp only [wts,this,hc];omega
theorem Qu (hn: ∀z∈ns,isNm (.str z)=true) (t0:Slot): ∀(n:Nat) (rem:List D) (w:List Nat) (u v:Slot),(∀d∈rem,It ns d)->wts rem<n->n<=5000->w.length+(rem.flatMap oc).length<=19000-> ∃u' v',qB n (asB (two (rdB 2) (lstF nil1) neR)) txB [t0,.shr (.str (mk w)),.own (.lst rem.reverse),u,v]= .ok (.nx [t0,.shr (.str (mk (w++rem.flatMap oc))),.own (.lst []),u',v'])
 |0,rem,w,u,v,_,h,_,_=>by omega
 |n+1,[],w,u,v,_,_,_,_=>⟨u,v,by
    rw [Ji (jI (b:=false) (ji rfl rfl (VC [])))];simp⟩
 |n+1,d::r,w,u,v,hi,hw,hn5,hl=>by
  have hrl:=Xq r;simp only [wts] at hw;rw [aa3,aad] at hl;have hwd:=Vl d
  have htest:asB (two (rdB 2) (lstF nil1) neR) [t0,.shr (.str (mk w)),.own (.lst (d::r).reverse),u,v]= .ok true:=by
    refine jI (ji rfl rfl ((VC _).trans ?_));simp
  have hpop:popO 2 (gN 3) [t0,.shr (.str (mk w)),.own (.lst (d::r).reverse),u,v]= .ok (.nx [t0,.shr (.str (mk w)),.own (.lst r.reverse),.shr d,v]):=by
    rw [acE];show (match (r.reverse++[d]).getLast? with|some d=>_|none=>_)=_;rw [List.getLast?_append,List.getLast?_singleton];show Res.ok (Out.nx [t0,.shr (.str (mk w)),.own (.lst (r.reverse++[d]).dropLast),.shr d,v])=_;rw [ab9 (by simp)];simp
  have go: ∀(rem':List D) (w':List Nat) (v':Slot),(∀d∈rem',It ns d)->wts rem'<n->w'++rem'.flatMap oc=w++(oc d++r.flatMap oc)->
      (ifO (asB (isiF "str" (rdS 3))) (jB 1 (two (rdS 1) (rdS 3) addD)) (ifO (asB (isiF "tuple" (rdS 3))) (seqO (jB 1 (two (rdS 1) (two (rdS 3) (cI 0) ixD) addD)) (ifO (asB (two (app (jc (rdS 3) nil1) lenD) (cI 1) gtI)) (seqO (jD 2 (cS ")")) (seqO (forO (WW (jc (two (app (jc (rdS 3) nil1) lenD) (cI 1) subI) (jc (cI 0) (jc (negF (cI 1)) nil1)))) (gN 4) (seqO (jD 2 (two (rdS 3) (rdS 4) ixD)) (jD 2 (cS ",")))) (seqO (popE 2) (jD 2 (cS "("))))) nxO)) (jB 1 (chk (two (two (rdS 1) (cS "?") addD) (app (jc (rdS 3) nil1) JJ) addD))))) [t0,.shr (.str (mk w)),.own (.lst r.reverse),.shr d,v]= .ok (.nx [t0,.shr (.str (mk w')),.own (.lst rem'.reverse),.shr d,v'])->
      ∃u' v',qB (n+1) (asB (two (rdB 2) (lstF nil1) neR)) txB [t0,.shr (.str (mk w)),.own (.lst (d::r).reverse),u,v]= .ok (.nx [t0,.shr (.str (mk (w++(d::r).flatMap oc))),.own (.lst []),u',v']):=fun rem' w' v' h1 h2 h3 h4=>by
    have e3:=congrArg ab3 h3;simp only [aad] at e3;obtain ⟨a,b,ih⟩:=Qu hn t0 n rem' w' (.shr d) v' h1 h2 (by omega) (by omega);refine ⟨a,b,?_⟩;rw [Qp htest (show txB _=_ from qI hpop h4),ih,h3,aa3]
  have hr: ∀x∈r,It ns x:=fun x hx=>hi x (by simp [hx])
  rcases hi d (by simp) with ⟨x,rfl⟩| ⟨ht,hb⟩
  · have ha:addD (.str (mk w)) (.str x)= .ok (.str (mk (w++cs x))):=by
      have:=add_str (a:=w) (b:=cs x) (by have:oc (.str x)=cs x:=rfl;rw [this] at hl;omega);rw [QL] at this;exact this
    have hs:isiD "str" (.str x)= .ok (.bl true):=rfl;refine go r (w++cs x) v hr (by omega) (by rw [aaz];rfl) ?_
    decreasing_with exact rfl
  · obtain ⟨o1,o2⟩:=WZ ht;rw [o1] at hl;rw [o2] at hw;rcases xa ht with ⟨i,rfl⟩| ⟨z,ts,rfl,hz,hlt,hts⟩
    · have hib:=hb i (by rw [yb];simp);have hdl:=(YZ hib).2.2;rw [Jq,aab] at hl;have h1:=Zg hib;have hq:(aav "?")=mk [63]:=by decide+kernel
      have hcs: ∀e,cS "?" e= .ok (.str (mk [63])):=fun e=>by show Res.ok (D.str (aav "?"))=_;rw [hq]
      have hcs:=hcs [t0,.shr (.str (mk w)),.own (.lst r.reverse),.shr (.int i),v];have a1:addD (.str (mk w)) (.str (mk [63]))= .ok (.str (mk (w++[63]))):=add_str (by simp;omega);have a2:addD (.str (mk (w++[63]))) (.str (mk (ds i)))= .ok (.str (mk (w++[63]++ds i))):=add_str (by simp only [aad,aab,aak];omega);have hs:isiD "str" (.int i)= .ok (.bl false):=rfl;have hs2:isiD "tuple" (.int i)= .ok (.bl false):=rfl;have him:(D.str (mk (w++[63]++ds i))).imm=true:=rfl;refine go r (w++[63]++ds i) v hr (by omega) (by rw [o1,Jq];simp) ?_
      decreasing_with exact rfl
    · have hs:isiD "str" (.tup (.str z::ts))= .ok (.bl false):=rfl;have hs2:isiD "tuple" (.tup (.str z::ts))= .ok (.bl true):=rfl;have hix:ixD (.tup (.str z::ts)) (.int 0)= .ok (.str z):=ix0;rw [yh,aad] at hl
      have ha:addD (.str (mk w)) (.str z)= .ok (.str (mk (w++cs z))):=by
       have:=add_str (a:=w) (b:=cs z) (by omega);rw [QL] at this;exact this
      have hlen:lenD [.tup (.str z::ts)]= .ok (.int ((ts.length:Int)+1)):=by
       show Res.ok (D.int (((D.str z::ts).length:Nat):Int))=_;simp
      have hset:jB 1 (two (rdS 1) (two (rdS 3) (cI 0) ixD) addD) [t0,.shr (.str (mk w)),.own (.lst r.reverse),.shr (.tup (.str z::ts)),v]= .ok (.nx [t0,.shr (.str (mk (w++cs z))),.own (.lst r.reverse),.shr (.tup (.str z::ts)),v]):=by decreasing_with exact rfl
      have t1:asB (isiF "str" (rdS 3)) [t0,.shr (.str (mk w)),.own (.lst r.reverse),.shr (.tup (.str z::ts)),v]= .ok false:=rfl;have t2:asB (isiF "tuple" (rdS 3)) [t0,.shr (.str (mk w)),.own (.lst r.reverse),.shr (.tup (.str z::ts)),v]= .ok true:=rfl;have t3:asB (two (app (jc (rdS 3) nil1) lenD) (cI 1) gtI) [t0,.shr (.str (mk (w++cs z))),.own (.lst r.reverse),.shr (.tup (.str z::ts)),v]= .ok (decide ((1:Int)< (ts.length:Int)+1)):=jI (ji (q8 (jg rfl rfl) hlen) rfl rfl)
      cases ts with
      |nil=>
       refine go r (w++cs z) v hr (by rw [WF] at hw;simp at hw;omega) (by rw [o1,yh];simp) ?_;exact (if_f t1).trans ((if_t t2).trans (qI hset ((if_f t3).trans rfl)))
      |cons x ts=>
       have hd1:decide ((1:Int)< (((x::ts:List D).length:Nat):Int)+1)=true:=by simp;omega
       rw [hd1] at t3;have q1:(aav "(")=mk [40]:=by decide+kernel
       have q2:(aav ")")=mk [41]:=by decide+kernel
       have hc1: ∀e,cS "(" e= .ok (.str (mk [40])):=fun e=>by show Res.ok (D.str (aav "("))=_;rw [q1]
       have hc2: ∀e,cS ")" e= .ok (.str (mk [41])):=fun e=>by show Res.ok (D.str (aav ")"))=_;rw [q2]
       obtain ⟨g1,g2⟩:=Ub (x::ts).length hlt;obtain ⟨v',hv⟩:=QA (t0:=t0) (w:= .shr (.str (mk (w++cs z)))) (x:= .str z) (ts:=x::ts) (x::ts).length (r.reverse++[.str (mk [41])]) v (aan _) (by simp only [aad,acr,aab,aak] at hlt ⊢;omega);rw [List.take_length] at hv
       have hsb:two (app (jc (rdS 3) nil1) lenD) (cI 1) subI [t0,.shr (.str (mk (w++cs z))),.own (.lst (r.reverse++[.str (mk [41])])),.shr (.tup (.str z::x::ts)),v]= .ok (.int (((x::ts).length:Nat):Int)):=by
         refine (ji (q8 (jg rfl rfl) hlen) rfl rfl).trans ?_;show Res.ok (D.int ((((x::ts).length:Nat):Int)+1-1))=_;rw [show (((x::ts).length:Nat):Int)+1-1=(((x::ts).length:Nat):Int) by omega]
       have hrng:WW (jc (two (app (jc (rdS 3) nil1) lenD) (cI 1) subI) (jc (cI 0) (jc (negF (cI 1)) nil1))) [t0,.shr (.str (mk (w++cs z))),.own (.lst (r.reverse++[.str (mk [41])])),.shr (.tup (.str z::x::ts)),v]= .ok (Jd (((x::ts).length:Nat):Int) (-1) (x::ts).length):=by
         rw [Uc (i:=(((x::ts).length:Nat):Int)) (j:=0) (k:= -1) (jg hsb (jg rfl (jg rfl rfl))) g1,g2]
       have hstk:r.reverse++[.str (mk [41])]++((x::ts).flatMap fun u=>[zl,u]).reverse=(zl::x::((ts.flatMap fun u=>[zl,u])++ .str (mk [41])::r)).reverse:=by simp
       rw [hstk] at hv
       have hpe:popE 2 [t0,.shr (.str (mk (w++cs z))),.own (.lst (zl::x::((ts.flatMap fun u=>[zl,u])++ .str (mk [41])::r)).reverse),.shr (.tup (.str z::x::ts)),v']= .ok (.nx [t0,.shr (.str (mk (w++cs z))),.own (.lst (x::((ts.flatMap fun u=>[zl,u])++ .str (mk [41])::r)).reverse),.shr (.tup (.str z::x::ts)),v']):=by
         generalize hL:x::((ts.flatMap fun u=>[zl,u])++ .str (mk [41])::r)=L;unfold popE;rw [Zr (ds:=(zl::L).reverse) rfl,zi,acE]
         have: ∃y M,L.reverse++[zl]=y::M:=by
           cases L.reverse with
           |nil=>exact ⟨_,_,rfl⟩
           |cons y M=>exact ⟨_,_,rfl⟩
         obtain ⟨y,M,e⟩:=this;rw [e];show Res.ok (Out.nx [t0,_,.own (.lst (y::M).dropLast),_,v'])=_;rw [←e,ab9 (by simp)];simp
       refine go (.str (mk [40])::x::((ts.flatMap fun u=>[zl,u])++ .str (mk [41])::r)) (w++cs z) v' (fun y hy=>?_) ?_ ?_ ?_
       · simp only [aaw,abn,abC,aaO,or_false] at hy;rcases hy with rfl|rfl| ⟨a,ha1,ha2⟩|rfl|hy
         · exact .inl ⟨_,rfl⟩
         · exact .inr ⟨hts y (by simp),JH hb y (by simp)⟩
         · rcases ha2 with rfl|rfl
           · exact .inl ⟨_,rfl⟩
           · exact .inr ⟨hts y (by simp [ha1]),JH hb y (by simp [ha1])⟩
         · exact .inl ⟨_,rfl⟩
         · exact hr y hy
       · rw [WF] at hw;simp only [acD] at hw;rw [Qg] at hw;have hx:=(WZ (hts x (by simp))).2;have hwf:=Ks (ns:=ns) ts fun t ht=>hts t (by simp [ht])
         have e1:wt (.str (mk [40]))=1:=rfl;have e2:wt (.str (mk [41]))=1:=rfl;simp only [wts,Za,hx,hwf,e1,e2];simp at hw;omega
       · have hx:=(WZ (hts x (by simp))).1;have hf:=UH (ns:=ns) ts fun t ht=>hts t (by simp [ht])
         have e1:oc (.str (mk [40]))=[40]:=yp _;have e2:oc (.str (mk [41]))=[41]:=yp _;rw [o1,yh,xH];simp only [aa3,acq,hx,hf,e1,e2];simp
       · refine (if_f t1).trans ((if_t t2).trans (qI hset ((if_t t3).trans ?_)));refine qI (env':=[t0,.shr (.str (mk (w++cs z))),.own (.lst (r.reverse++[.str (mk [41])])),.shr (.tup (.str z::x::ts)),v]) ((qH (ds:=r.reverse) rfl (hc2 _) (smll (by rw [acr];omega))).trans rfl) ?_;refine qI ((VI hrng hv)) ?_;refine qI hpe ?_;refine (qH (ds:=(x::((ts.flatMap fun u=>[zl,u])++ .str (mk [41])::r)).reverse) rfl (hc1 _) (smll ?_)).trans ?_
         · have fl: ∀us:List D,((us.flatMap fun u=>[zl,u])).length=2*us.length:=fun us=>by
             induction us with
             |nil=>rfl
             |cons y us ih=>rw [aa3,aad,ih];simp only [aab,aak];omega
           have:=fl ts;simp only [acr,aab,aad,this] at hlt ⊢;omega
         · have e:(D.str (mk [40])::x::((ts.flatMap fun u=>[zl,u])++ .str (mk [41])::r)).reverse=(x::((ts.flatMap fun u=>[zl,u])++ .str (mk [41])::r)).reverse++[D.str (mk [40])]:=by rw [acE]
           rw [e];rfl
def vI (hn: ∀z∈ns,isNm (.str z)=true) {t:D} (ht:tk ns t=true) (hb:Bk t) (hm:num t<=1000):we [t]= .ok (.str (mk (sh t))):=by
 have hsl:=XN hn t ht hb;have hct:=vw t ht;obtain ⟨o1,o2⟩:=WZ ht;obtain ⟨u',v',h⟩:=Qu hn (.shr t) 5000 [t] [] .un .un (fun d hd=>by simp at hd;rw [hd];exact .inr ⟨ht,hb⟩) (by simp only [wts,o2];omega) (aan _) (by simp [o1];omega);have e:([]:List Nat)++[t].flatMap oc=sh t:=by simp [o1]
 rw [e] at h;refine KA ?_;show zT [.shr t,.un,.un,.un,.un]=_;unfold zT;refine qI (env':=[.shr t,.shr (.str (mk [])),.un,.un,.un]) ?_ ?_
 · have hq:(aav "")=mk []:=by decide+kernel
   show Res.ok (Out.nx [.shr t,.shr (.str (aav "")),.un,.un,.un])=_;rw [hq]
 refine qI (env':=[.shr t,.shr (.str (mk [])),.own (.lst [t]),.un,.un]) rfl ?_;exact qI h rfl
end
abbrev rd (L:Str) (p:Nat):D:= .obj "Reader" ["text", "at"] [.str L,.int (p:Int)]
def xQ {l a b:List Nat} {p:Nat} (h:l.drop p=a++b):l.drop (p+a.length)=b:=by
 have:=congrArg (List.drop a.length) h;rw [List.drop_drop,List.drop_left] at this;exact this
def xP {l b:List Nat} {c p:Nat} (h:l.drop p=c::b):l.drop (p+1)=b:=xQ (a:=[c]) h
def xg {l:List Nat} {p:Nat}:l[p]?=(l.drop p).head?:=by simp [List.head?_drop]
def qM {l b:List Nat} {c p:Nat} (h:l.drop p=c::b):p<l.length:=by
 rcases Nat.lt_or_ge p l.length with z|z
 · exact z
 · rw [abZ z] at h;cases h
def Ka (L:Str) (p:Nat) (hp:p<=L.length):cutS L (some (p:Int)) (some ((p:Int)+1))=mk ((cs L)[p]?).toList:=by
 rcases Nat.lt_or_ge p L.length with z|z
 · apply XA;have:=ZO L p (p+1) (by omega) (by omega);rw [show (((p+1:Nat)):Int)=(p:Int)+1 by omega] at this;rw [this,yp,show p+1-p=1 by omega,xg];cases (cs L).drop p<;>rfl
 · have hpl:p=L.length:=by omega
   have hn:(cs L)[p]?=none:=abE (by rw [qA];omega);rw [hn]
   have hi:aai (some (p:Int)) (some ((p:Int)+1)) 1 L.length=[]:=by
     unfold aai sliceRange;have e1: ¬((p:Int)<0):=by omega
     have e2: ¬((p:Int)+1<0):=by omega
     have e3:max (0:Int) (min (p:Int) (L.length:Int))=p:=by omega
     have e4:max (0:Int) (min ((p:Int)+1) (L.length:Int))=p:=by omega
     simp [e1,e2,e3,e4]
   apply XA;unfold cutS;rw [hi]
   split
   · rename_i hc;simp only [aak,beq_iff_eq] at hc;rw [←qA] at hc;rw [yp];exact List.eq_nil_of_length_eq_zero hc.symm
   · rfl
def Wj (x y:Str):neR (.str x) (.str y)= .ok (.bl (!(x==y))):=by
 have:neR (.str x) (.str y)= .ok (.bl (!eqD (.str x) (.str y))):=jl (c:=EqC (.str x) (.str y)) (.inl ⟨rfl,rfl,by simp [D.dep]⟩);rw [this];simp [eqD]
def kP {a b:List Nat}:mk a=mk b↔a=b:=⟨fun h=>by have:=congrArg cs h;rwa [yp,yp] at this,fun h=>by rw [h]⟩
def vA (a b:List Nat):(mk a==mk b)=decide (a=b):=by
 rw [Bool.eq_iff_iff];simp only [beq_iff_eq,decide_eq_true_eq,kP]
def Nx (L:Str) (p c:Nat):Prop:=(cs L)[p]?=some c
def yq {L:Str} {p c:Nat} (hp:p<=L.length) (h:Nx L p c):jo (rd L p) [.str (mk [c])]= .ok (.bl true,rd L (p+1)):=by
 have hc:=Ka L p hp;rw [show (cs L)[p]?=some c from h] at hc
 have hs:slD (.str L) (some (p:Int)) (some ((p:Int)+1))= .ok (.str (mk [c])):=by
  show Res.ok (D.str (cutS L (some (p:Int)) (some ((p:Int)+1))))=_;rw [hc];rfl
 have hne:neR (.str (mk [c])) (.str (mk [c]))= .ok (.bl false):=by rw [Wj];simp
 have f1:fldD "Reader" "text" (rd L p)= .ok (.str L):=rfl;have f2:fldD "Reader" "at" (rd L p)= .ok (.int (p:Int)):=rfl;have g1:getN "at" ["text", "at"] [.str L,.int (p:Int)]=some (.int (p:Int)):=rfl;have t1:asB (two (qX (fldF "Reader" "text" (rdB 0)) (zG (fldF "Reader" "at" (rdB 0))) (zG (two (fldF "Reader" "at" (rdB 0)) (cI 1) addD)) slD) (rdS 1) neR) [.own (rd L p),.shr (.str (mk [c]))]= .ok false:=jI (ji (zm (qE (zH rfl) f1) (qC (qE (zH rfl) f2)) (qC (ji (qE (zH rfl) f2) rfl rfl)) hs) rfl hne);refine wy (rest:=[.shr (.str (mk [c]))]) rfl ?_;show jM [.own (rd L p),.shr (.str (mk [c]))]=_;unfold jM;refine j7 (yi t1 rfl) (j7 (Qj (ns:=["text", "at"]) (vs:=[.str L,.int (p:Int)]) rfl rfl g1 (by decide)) (q9 (xo rfl)))
def JI {L:Str} {p c:Nat} (hp:p<=L.length) (h: ¬Nx L p c):jo (rd L p) [.str (mk [c])]= .ok (.bl false,rd L p):=by
 have hc:=Ka L p hp
 have hs:slD (.str L) (some (p:Int)) (some ((p:Int)+1))= .ok (.str (mk ((cs L)[p]?).toList)):=by
  show Res.ok (D.str (cutS L (some (p:Int)) (some ((p:Int)+1))))=_;rw [hc]
 have hne:neR (.str (mk ((cs L)[p]?).toList)) (.str (mk [c]))= .ok (.bl true):=by
  rw [Wj,vA]
  have: ¬(((cs L)[p]?).toList=[c]):=fun e=>h (by
   unfold Nx
   cases e':(cs L)[p]? with
   |none=>rw [e'] at e;cases e
   |some x=>rw [e'] at e;simp at e;rw [e])
  simp [this]
 have f1:fldD "Reader" "text" (rd L p)= .ok (.str L):=rfl;have f2:fldD "Reader" "at" (rd L p)= .ok (.int (p:Int)):=rfl;have t1:asB (two (qX (fldF "Reader" "text" (rdB 0)) (zG (fldF "Reader" "at" (rdB 0))) (zG (two (fldF "Reader" "at" (rdB 0)) (cI 1) addD)) slD) (rdS 1) neR) [.own (rd L p),.shr (.str (mk [c]))]= .ok true:=jI (ji (zm (qE (zH rfl) f1) (qC (qE (zH rfl) f2)) (qC (ji (qE (zH rfl) f2) rfl rfl)) hs) rfl hne);refine wy (rest:=[.shr (.str (mk [c]))]) rfl ?_;show jM [.own (rd L p),.shr (.str (mk [c]))]=_;unfold jM;exact Zh (yi t1 (q9 (xo rfl)))
def Stop (S:Str) (rest:List Nat):Prop:=rest=[]\/ ∃c r,rest=c::r/\inS (mk [c]) S=false
def Kz {L S:Str} {s:Slot}: ∀(w rest:List Nat) (q n:Nat),(cs L).drop q=w++rest->q<=L.length->(∀c∈w,inS (mk [c]) S=true)->Stop S rest->w.length<n->
  wm n (stT (andB (asB (two (fldF "Reader" "at" (rdB 0)) (app (jc (fldF "Reader" "text" (rdB 0)) nil1) lenD) ltI)) (asB (two (two (fldF "Reader" "text" (rdB 0)) (fldF "Reader" "at" (rdB 0)) ixD) (rdS 1) inD)))) (Xj 0 "Reader" "at" (cI 1)) [.own (rd L q),.shr (.str S),s]= .ok (.nx [.own (rd L (q+w.length)),.shr (.str S),s]):=fun w=>by
 induction w with
 |nil=>
  intro rest q n h hq _ hs hn;obtain ⟨n,rfl⟩: ∃n',n=n'+1:=⟨n-1,by omega⟩
  have f1:fldD "Reader" "text" (rd L q)= .ok (.str L):=rfl;have f2:fldD "Reader" "at" (rd L q)= .ok (.int (q:Int)):=rfl;have t1:asB (two (fldF "Reader" "at" (rdB 0)) (app (jc (fldF "Reader" "text" (rdB 0)) nil1) lenD) ltI) [.own (rd L q),.shr (.str S),s]= .ok (decide ((q:Int)< (L.length:Int))):=jI (ji (qE (zH rfl) f2) (q8 (jg (qE (zH rfl) f1) rfl) rfl) rfl);refine Jh (XC ?_);rcases hs with rfl| ⟨c,r,rfl,hc⟩
  · have: ¬((q:Int)< (L.length:Int)):=by
     have:=congrArg ab3 h;simp only [abL,abw,aak,qA] at this;omega
    rw [decide_eq_false this] at t1;exact uk t1
  · rw [List.nil_append] at h;have hlt:=qM h;rw [qA] at hlt;rw [decide_eq_true (show (q:Int)< (L.length:Int) by omega)] at t1;have hg:(cs L)[q]?=some c:=by rw [xg,h];rfl
    have hix:ixD (.str L) (.int (q:Int))= .ok (.str (mk [c])):=by
     show (match atI L.cps.toList (q:Int) with|some c=>Res.ok (D.str ⟨#[c]⟩)|none=> .stuck)=_;rw [M.atI_nat,show L.cps.toList[q]?=some c from hg];rfl
    have hin:inD (.str (mk [c])) (.str S)= .ok (.bl false):=by show Res.ok (D.bl (inS (mk [c]) S))=_;rw [hc]
    exact vE t1 (jI (ji (ji (qE (zH rfl) f1) (qE (zH rfl) f2) hix) rfl hin))
 |cons c w ih=>
  intro rest q n h hq hw hs hn;simp only [aab] at hn ⊢;obtain ⟨n,rfl⟩: ∃n',n=n'+1:=⟨n-1,by omega⟩
  have hlt:=qM (b:=w++rest) h;rw [qA] at hlt;have f1:fldD "Reader" "text" (rd L q)= .ok (.str L):=rfl;have f2:fldD "Reader" "at" (rd L q)= .ok (.int (q:Int)):=rfl;have t1:asB (two (fldF "Reader" "at" (rdB 0)) (app (jc (fldF "Reader" "text" (rdB 0)) nil1) lenD) ltI) [.own (rd L q),.shr (.str S),s]= .ok (decide ((q:Int)< (L.length:Int))):=jI (ji (qE (zH rfl) f2) (q8 (jg (qE (zH rfl) f1) rfl) rfl) rfl);rw [decide_eq_true (show (q:Int)< (L.length:Int) by omega)] at t1;have hg:(cs L)[q]?=some c:=by rw [xg,h];rfl
  have hix:ixD (.str L) (.int (q:Int))= .ok (.str (mk [c])):=by
    show (match atI L.cps.toList (q:Int) with|some c=>Res.ok (D.str ⟨#[c]⟩)|none=> .stuck)=_;rw [M.atI_nat,show L.cps.toList[q]?=some c from hg];rfl
  have hin:inD (.str (mk [c])) (.str S)= .ok (.bl true):=by show Res.ok (D.bl (inS (mk [c]) S))=_;rw [hw c (by simp)]
  have g1:getN "at" ["text", "at"] [.str L,.int (q:Int)]=some (.int (q:Int)):=rfl;rw [Qo (env1:=[.own (rd L q),.shr (.str S),s]) (env2:=[.own (rd L (q+1)),.shr (.str S),s]) (XC (vE t1 (jI (ji (ji (qE (zH rfl) f1) (qE (zH rfl) f2) hix) rfl hin)))) ((Qj (env:=[.own (rd L q),.shr (.str S),s]) (g0:=cI 1) (y:=1) (ns:=["text", "at"]) (vs:=[.str L,.int (q:Int)]) rfl rfl g1 (by decide)).trans rfl)];rw [ih rest (q+1) n (xP h) (by omega) (fun x hx=>hw x (by simp [hx])) hs (by omega)];rw [show q+1+w.length=q+(w.length+1) by omega]
def Vp {L S:Str} {w rest:List Nat} {p:Nat} (h:(cs L).drop p=w++rest) (hp:p<=L.length) (hw: ∀c∈w,inS (mk [c]) S=true) (hs:Stop S rest) (hl:w.length<20):jA (rd L p) [.str S]= .ok (.str (mk w),rd L (p+w.length)):=by
 have hlen:p+w.length<=L.length:=by
  have:=congrArg ab3 h;simp only [abL,aad,qA] at this;omega
 have hloop:=Kz (L:=L) (S:=S) (s:= .shr (.int (p:Int))) w rest p 20 h hp hw hs hl;have f1:fldD "Reader" "text" (rd L (p+w.length))= .ok (.str L):=rfl;have f2:fldD "Reader" "at" (rd L (p+w.length))= .ok (.int ((p+w.length:Nat):Int)):=rfl;have f3:fldD "Reader" "at" (rd L p)= .ok (.int (p:Int)):=rfl
 have hsl:slD (.str L) (some (p:Int)) (some ((p+w.length:Nat):Int))= .ok (.str (mk w)):=by
  show Res.ok (D.str (cutS L (some (p:Int)) (some ((p+w.length:Nat):Int))))=_;congr 2;apply XA;rw [ZO L p (p+w.length) (by omega) hlen,yp,h,show p+w.length-p=w.length by omega,List.take_left]
 refine wy (rest:=[.shr (.str S),.shr (.int (p:Int))]) rfl ?_;show qk [.own (rd L p),.shr (.str S),.un]=_;unfold qk;refine j7 (env':=[.own (rd L p),.shr (.str S),.shr (.int (p:Int))]) ((yz (xo (qE (zH rfl) f3))).trans rfl) ?_;refine j7 hloop ?_;exact q9 (xo (zm (qE (zH rfl) f1) (qC rfl) (qC (qE (zH rfl) f2)) hsl))
def Sep (rest:List Nat):Prop:=rest=[]\/ ∃c r,rest=c::r/\(c=44\/c=41)
def vg: ∀c,48<=c->c<=57->inS (mk [c]) "0123456789" =true:=fun c h1 h2=>by
 have: ∀d:Fin 10,inS (mk [48+d.val]) "0123456789" =true:=by decide+kernel
 have:=this ⟨c-48,by omega⟩;rw [show 48+(c-48)=c by omega] at this;exact this
def Z1 {S:Str} (h1:inS (mk [44]) S=false) (h2:inS (mk [41]) S=false) {rest:List Nat} (h:Sep rest):Stop S rest:=by
 rcases h with h| ⟨c,r,e,h|h⟩
 · exact .inl h
 · subst h;exact .inr ⟨_,r,e,h1⟩
 · subst h;exact .inr ⟨_,r,e,h2⟩
def VE {L:Str} {a b:List Nat} {p:Nat} (h:(cs L).drop p=a++b) (ha:a≠[]):p<=L.length:=by
 cases a with
 |nil=>exact (ha rfl).elim
 |cons c r=>have:=qM (b:=r++b) h;rw [qA] at this;omega
def Vj {L:Str} {i:Int} {rest:List Nat} {p:Nat} (hi:0<=i/\i<=999) (h:(cs L).drop p=ds i++rest) (hs:Sep rest):jE (rd L p) []= .ok (.int i,rd L (p+(ds i).length)):=by
 obtain ⟨d1,d2,d3⟩:=YZ hi;have hp:=VE h (by rintro e;rw [e] at d2;simp at d2);have hr:=Vp (S:= "0123456789") h hp (fun c hc=>vg c (d1 c hc).1 (d1 c hc).2) (Z1 (by decide+kernel) (by decide+kernel) hs) (by omega);have e0:mk (ds i)=aav (toString i):=QL _
 have hint:K3 [.str (mk (ds i))]= .ok (.int i):=by
  show must _ _=_;refine (jl (by rw [yN];omega)).trans ?_;rw [e0,PySem.W.KIN.num_reads hi.1 (by omega)]
 have hst:=Zg hi;have hne:neR (.str (mk (ds i))) (.str (mk (ds i)))= .ok (.bl false):=by rw [Wj];simp
 have hlen:lenD [.str (mk (ds i))]= .ok (.int ((ds i).length:Int)):=by
  show Res.ok (D.int (((mk (ds i)).length:Nat):Int))=_;rw [yN]
 have hch:Qh (cI 1) (app (jc (rdS 1) nil1) lenD) (cI 3) leI leI [.own (rd L (p+(ds i).length)),.shr (.str (mk (ds i))),.un]= .ok (.bl true):=by
  rw [xN,show cI 1 [.own (rd L (p+(ds i).length)),.shr (.str (mk (ds i))),.un]= .ok (.int 1) from rfl,zk,q8 (jg rfl rfl) hlen,zk];have a:leI (.int 1) (.int ((ds i).length:Int))= .ok (.bl true):=by show Res.ok (D.bl (decide _))=_;simp;omega
  have b:leI (.int ((ds i).length:Int)) (.int 3)= .ok (.bl true):=by show Res.ok (D.bl (decide _))=_;simp;omega
  rw [a];exact b
 refine wy (rest:=[.shr (.str (mk (ds i))),.shr (.int i)]) rfl ?_;show jN jA [.own (rd L p),.un,.un]=_;unfold jN;refine j7 (env':=[.own (rd L (p+(ds i).length)),.shr (.str (mk (ds i))),.un]) ((yz (zw (ns:=["text", "at"]) (vs:=[.str L,.int (p:Int)]) rfl rfl rfl rfl hr)).trans rfl) ?_;refine j7 (yi (wF (jI hch)) rfl) ?_;refine j7 (env':=[.own (rd L (p+(ds i).length)),.shr (.str (mk (ds i))),.shr (.int i)]) ((yz (xo (QZ (q8 (jg rfl rfl) hint) rfl))).trans rfl) ?_;refine j7 (yi (jI (ji (q8 (jg rfl rfl) hst) rfl hne)) rfl) ?_;exact q9 (xo rfl)
section
variable {ns:List Str}
def kL {z:Str} (h:isNm (.str z)=true): ∀c∈cs z,inS (mk [c]) abc=true:=by
 rw [yt] at h;simp only [aal,aaZ] at h;exact fun c hc=>h.2 c hc
def vx {z:Str} (h:isNm (.str z)=true):cs z≠[]:=by
 have:=(Yq h).1;rw [←qA] at this;rintro e;rw [e] at this;simp at this
def vW (hn: ∀z∈ns,isNm (.str z)=true) {t:D} (ht:tk ns t=true):sh t≠[]:=by
 rcases xa ht with ⟨i,rfl⟩| ⟨z,ts,rfl,hz,_⟩
 · rw [Jq];simp
 · rw [yh];intro e;exact vx (hn z hz) (List.append_eq_nil_iff.mp e).1
def Rt (ns:List Str) (n:Nat):Prop:= ∀t,tk ns t=true->Bk t->hgt t<=n-> ∀(L:Str) (p:Nat) (rest:List Nat) (lv:Nat),(cs L).drop p=sh t++rest->Sep rest->lv+hgt t<=61->
 jf n (rd L p) [.int (lv:Int)]= .ok (t,rd L (p+(sh t).length))
def c44:(aav ",")=mk [44]:=by decide+kernel
def c40:(aav "(")=mk [40]:=by decide+kernel
def c41:(aav ")")=mk [41]:=by decide+kernel
def c63:(aav "?")=mk [63]:=by decide+kernel
def KS {L:Str} {p c:Nat} {r:List Nat} (h:(cs L).drop p=c::r):Nx L p c:=by unfold Nx;rw [xg,h];rfl
def Uy {L:Str} {p c d:Nat} {r:List Nat} (h:(cs L).drop p=d::r) (hd:d≠c): ¬Nx L p c:=by
 unfold Nx;rw [xg,h];simp [hd]
def kJ {L:Str} {p c:Nat} (h:(cs L).drop p=[]): ¬Nx L p c:=by
 unfold Nx;rw [xg,h];simp
def ze {L:Str} {p c:Nat} {s:Str} {env:Sl} {b:Bool} {d1:D} (hs:s=mk [c]) (h0:env[0]?=some (.own (rd L p))) (h:jo (rd L p) [.str (mk [c])]= .ok (.bl b,d1)):asJ (zZ 0 "Reader" "takes" 1 jo (jc (cS s) nil1)) env= .ok (b,env.set 0 (.own d1)):=by
 subst hs;exact VS (zw (ns:=["text", "at"]) (vs:=[.str L,.int (p:Int)]) h0 rfl rfl rfl h)
def XY {L:Str} {p n lv:Nat} {env:Sl} {t d1:D} (h0:env[0]?=some (.own (rd L p))) (h1:env[1]?=some (.shr (.int (lv:Int)))) (h:jf n (rd L p) [.int ((lv+1:Nat):Int)]= .ok (t,d1)):zZ 0 "Reader" "read_term" 1 (jf n) (jc (two (rdS 1) (cI 1) addD) nil1) env= .ok (t,env.set 0 (.own d1)):=
 zw (ns:=["text", "at"]) (vs:=[.str L,.int (p:Int)]) (ds:=[.int ((lv+1:Nat):Int)]) h0 rfl (jg (ji (Vq h1) rfl (by show Res.ok (D.int ((lv:Int)+1))=_;simp)) rfl) rfl h
def Zp (hn: ∀z∈ns,isNm (.str z)=true) {n lv:Nat} {L:Str} {rest:List Nat} (R:Rt ns n): ∀(r fnd:List D) (p m:Nat),(∀t∈r,tk ns t=true/\Bk t/\hgt t<=n/\lv+1+hgt t<=61)->(cs L).drop p=(r.map sh).flatMap (44:: ·)++41::rest->r.length<m->fnd.length+r.length<=100->
  wm m (asJ (zZ 0 "Reader" "takes" 1 jo (jc (cS ",") nil1))) (appJ 2 (zZ 0 "Reader" "read_term" 1 (jf n) (jc (two (rdS 1) (cI 1) addD) nil1))) [.own (rd L p),.shr (.int (lv:Int)),.own (.lst fnd)]= .ok (.nx [.own (rd L (p+((r.map sh).flatMap (44:: ·)).length)),.shr (.int (lv:Int)),.own (.lst (fnd++r))]):=fun r=>by
 induction r with
 |nil=>
  intro fnd p m _ h hm _;obtain ⟨m,rfl⟩: ∃m',m=m'+1:=⟨m-1,by omega⟩
  have hlt:=qM (b:=rest) h;rw [qA] at hlt;rw [Jh (ze c44 rfl (JI (by omega) (Uy (c:=44) h (by omega))))];simp
 |cons t r ih=>
  intro fnd p m ht h hm hf;simp only [aab] at hm hf;obtain ⟨m,rfl⟩: ∃m',m=m'+1:=⟨m-1,by omega⟩
  obtain ⟨t1,t2,t3,t4⟩:=ht t (by simp);rw [aaL,aa3,aaz] at h;have hlt:=qM (b:=sh t++((r.map sh).flatMap (44:: ·)++41::rest)) h;rw [qA] at hlt;have h1:(cs L).drop (p+1)=sh t++((r.map sh).flatMap (44:: ·)++41::rest):=xP h
  have hsep:Sep ((r.map sh).flatMap (44:: ·)++41::rest):=by
   cases r with
   |nil=>exact .inr ⟨41,rest,rfl,.inr rfl⟩
   |cons u r=>exact .inr ⟨44,_,rfl,.inl rfl⟩
  have hr:=R t t1 t2 t3 L (p+1) _ (lv+1) h1 hsep (by omega);have h2:=xQ h1;rw [Qo (env1:=[.own (rd L (p+1)),.shr (.int (lv:Int)),.own (.lst fnd)]) (env2:=[.own (rd L (p+1+(sh t).length)),.shr (.int (lv:Int)),.own (.lst (fnd++[t]))]) ((ze c44 rfl (yq (by omega) (KS h))).trans rfl) ((Kk (ds:=fnd) (ds0:=fnd) rfl (XY rfl rfl hr) rfl (smll (by omega))).trans rfl)];rw [ih (fnd++[t]) (p+1+(sh t).length) m (fun x hx=>ht x (by simp [hx])) h2 (by omega) (by simp only [aad,aab,aak];omega)];simp only [aaL,aa3,aad,aab,aaz,acJ,List.nil_append];rw [show p+1+(sh t).length+((r.map sh).flatMap (44:: ·)).length=p+((sh t).length+((r.map sh).flatMap (44:: ·)).length+1) by omega]
def Zn (hn: ∀z∈ns,isNm (.str z)=true) {n lv:Nat} {L:Str} {rest:List Nat} (R:Rt ns n) {u:D} {r:List D} {p:Nat} (ht: ∀t∈u::r,tk ns t=true/\Bk t/\hgt t<=n/\lv+1+hgt t<=61) (h:(cs L).drop p=40::(shs (u::r)++41::rest)) (hl:(u::r).length<=9):
   jp (jf n) (rd L p) [.int (lv:Int)]= .ok (.tup (u::r),rd L (p+(2+(shs (u::r)).length))):=by
 have hlt:=qM h;rw [qA] at hlt;have h1:=xP h;rw [xH,aaz] at h1;obtain ⟨u1,u2,u3,u4⟩:=ht u (by simp)
 have hsep:Sep ((r.map sh).flatMap (44:: ·)++41::rest):=by
   cases r with
   |nil=>exact .inr ⟨41,rest,rfl,.inr rfl⟩
   |cons u r=>exact .inr ⟨44,_,rfl,.inl rfl⟩
 have hr:=R u u1 u2 u3 L (p+1) _ (lv+1) h1 hsep (by omega);have h2:=xQ h1;simp only [aab] at hl;have hloop:=Zp hn (L:=L) (rest:=rest) (lv:=lv) R r [u] (p+1+(sh u).length) 12 (fun t h=>ht t (by simp [h])) h2 (by omega) (by simp only [aab,aak];omega);have h3:=xQ h2;have hlt3:=qM h3;rw [qA] at hlt3;have hT:=yq (L:=L) (p:=p+1+(sh u).length+((r.map sh).flatMap (44:: ·)).length) (by omega) (KS h3);have him:D.imms (u::r)=true:=M.imms_iff.mpr fun d hd=>YF d (ht d hd).1
 have e:p+1+(sh u).length+((r.map sh).flatMap (44:: ·)).length+1=p+(2+(shs (u::r)).length):=by
   rw [xH,aad];omega
 refine wy (rest:=[.shr (.int (lv:Int)),.own (.lst (u::r))]) rfl ?_;show jr jo (jf n) [.own (rd L p),.shr (.int (lv:Int)),.un]=_;unfold jr;refine j7 (env':=[.own (rd L (p+1)),.shr (.int (lv:Int)),.un]) (x4 (J2 (ze c40 rfl (yq (by omega) (KS h)))) rfl) ?_;refine j7 (env':=[.own (rd L (p+1+(sh u).length)),.shr (.int (lv:Int)),.own (.lst [u])]) ((Yv (XY rfl rfl hr)).trans rfl) ?_;refine j7 hloop ?_;refine j7 (env':=[.own (rd L (p+(2+(shs (u::r)).length))),.shr (.int (lv:Int)),.own (.lst (u::r))]) ?_ ?_
 · rw [←e];exact x4 (J2 (ze c41 rfl hT)) rfl
 · exact q9 (xo (QZ (q8 (jg (zH rfl) rfl) rfl) him))
def Zo {n lv p:Nat} {L:Str} (hp:p<=L.length) (h: ¬Nx L p 40):jp (jf n) (rd L p) [.int (lv:Int)]= .ok (.tup [],rd L p):=by
 refine wy (rest:=[.shr (.int (lv:Int)),.un]) rfl ?_;show jr jo (jf n) [.own (rd L p),.shr (.int (lv:Int)),.un]=_;unfold jr;exact Zh (x4 (J2 (ze c40 rfl (JI hp h))) (q9 (xo rfl)))
theorem Xy (hn: ∀z∈ns,isNm (.str z)=true): ∀n,Rt ns n
 |0=>fun t _ _ h=>by have:=J6 t;omega
 |n+1=>fun t ht hb hh L p rest lv h hs hlv=>by
  have R:=Xy hn n;have hp:=VE h (vW hn ht)
  have hg:asB (two (rdS 1) (cI 60) gtI) [.own (rd L p),.shr (.int (lv:Int)),.un]= .ok false:=by
    have:=J6 t;have hd:decide ((60:Int)< (lv:Int))=false:=by simp;omega
    rw [←hd];exact jI (ji rfl rfl rfl)
  rcases xa ht with ⟨i,rfl⟩| ⟨z,ts,rfl,hz,hl,hts⟩
  · rw [Jq] at h ⊢;have hbl:=Vj (hb i (by rw [yb];simp)) (xP h) hs;rw [show p+1+(ds i).length=p+(63::ds i).length by simp only [aab];omega] at hbl;refine wy (rest:=[.shr (.int (lv:Int)),.un]) rfl ?_;show jv jo jE (jp (jf n)) zc jA [.own (rd L p),.shr (.int (lv:Int)),.un]=_;unfold jv;refine j7 (yi hg rfl) ?_;refine Zh (x4 (ze c63 rfl (yq hp (KS h))) ?_);exact q9 (zw (ns:=["text", "at"]) (vs:=[.str L,.int ((p+1:Nat):Int)]) rfl rfl rfl rfl hbl)
  · rw [yV] at hh hlv;have hzn:=hn z hz;have hzl:=Yq hzn;have hlow:=kL hzn;rw [yh] at h ⊢;rw [aaz] at h
    have hno: ¬Nx L p 63:=by
      cases e:cs z with
      |nil=>exact (vx hzn e).elim
      |cons c w=>
       rw [e,acJ] at h;refine Uy (r:=w++((if ts.isEmpty=true then [] else 40::(shs ts++[41]))++rest)) h ?_;rintro rfl;have h1:=hlow 63 (by rw [e];simp);have h2:inS (mk [63]) abc=false:=by decide+kernel
       rw [h2] at h1;cases h1
    have hstop:Stop abc ((if ts.isEmpty=true then [] else 40::(shs ts++[41]))++rest):=by
      cases ts with
      |nil=>exact Z1 (by decide+kernel) (by decide+kernel) hs
      |cons u r=>exact .inr ⟨40,_,rfl,by decide+kernel⟩
    have hrun:=Vp (S:=abc) h hp hlow hstop (by rw [qA];omega);rw [QL] at hrun;have h1:=xQ h
    have hp1:p+(cs z).length<=L.length:=by
      have:=congrArg ab3 h;simp only [abL,aad,qA] at this;rw [qA];omega
    have hpl:jp (jf n) (rd L (p+(cs z).length)) [.int (lv:Int)]= .ok (.tup ts,rd L (p+(cs z++if ts.isEmpty=true then [] else 40::(shs ts++[41])).length)):=by
      cases ts with
      |nil=>
       have: ¬Nx L (p+(cs z).length) 40:=by
        rcases hs with rfl| ⟨c,r,rfl,hc⟩
        · exact kJ h1
        · exact Uy h1 (by omega)
       rw [Zo hp1 this];simp
      |cons u r=>
       have h2:(cs L).drop (p+(cs z).length)=40::(shs (u::r)++41::rest):=by
        rw [h1];simp
       rw [Zn hn R (fun t h=>⟨hts t h,JH hb t h,by have:=xf h;omega,by have:=xf h;omega⟩) h2 hl];simp only [acD,acy,if_false,aad,aab,aak];rw [show p+(cs z).length+(2+(shs (u::r)).length)=p+((cs z).length+((shs (u::r)).length+1+1)) by omega]
    have hadd:addD (.tup [.str z]) (.tup ts)= .ok (.tup (.str z::ts)):=U2 (a:=[.str z]) rfl (qQ (by simp only [aab,aak];omega))
    have hpc:zc [.tup (.str z::ts)]= .ok (.bl true):=by
      rw [kv (ZG _ ht)];simp only [isPc,hzn,Bool.and_true];rw [decide_eq_true (by omega)]
    have habc:(aav "abcdefghijklmnopqrstuvwxyz")=abc:=rfl;refine wy (rest:=[.shr (.int (lv:Int)),.shr (.tup (.str z::ts))]) rfl ?_;show jv jo jE (jp (jf n)) zc jA [.own (rd L p),.shr (.int (lv:Int)),.un]=_;unfold jv;refine j7 (yi hg rfl) ?_;refine j7 (env':=[.own (rd L p),.shr (.int (lv:Int)),.un]) (x4 (ze c63 rfl (JI hp hno)) rfl) ?_;refine j7 (env':=[.own (rd L (p+(cs z++if ts.isEmpty=true then [] else 40::(shs ts++[41])).length)),.shr (.int (lv:Int)),.shr (.tup (.str z::ts))]) ?_ ?_
    · refine (yz (Kl (Xu (zw (ns:=["text", "at"]) (vs:=[.str L,.int (p:Int)]) (ds:=[.str abc]) rfl rfl rfl rfl hrun)) (zw (ns:=["text", "at"]) (vs:=[.str L,.int ((p+(cs z).length:Nat):Int)]) (ds:=[.int (lv:Int)]) rfl rfl rfl rfl hpl) hadd)).trans rfl
    · refine j7 (yi (wF (jI (jL (jg rfl rfl) rfl hpc))) rfl) ?_;exact q9 (xo rfl)
def Ud (hn: ∀z∈ns,isNm (.str z)=true) {t:D} (ht:tk ns t=true) (hb:Bk t) (hh:hgt t<=60) (hm:num t<=1000):WN [.str (mk (sh t))]= .ok t:=by
 have hr:=Xy hn 62 t ht hb (by omega) (mk (sh t)) 0 [] 1 (by rw [yp];simp) (.inl rfl) (by omega);rw [Nat.zero_add] at hr;have hmk:jZ (.obj "Reader" [] []) [.str (mk (sh t))]= .ok (.non,rd (mk (sh t)) 0):=rfl
 have hg:zP [t]= .ok (.bl false):=by
  rw [k9 (ZG t ht)];have:isGr t=false:=by simp only [isGr,decide_eq_false_iff_not];omega
  rw [this]
 have f2:fldD "Reader" "at" (rd (mk (sh t)) (sh t).length)= .ok (.int ((sh t).length:Int)):=rfl
 have hlt:asB (two (fldF "Reader" "at" (rdB 1)) (app (jc (rdS 0) nil1) lenD) ltI) [.shr (.str (mk (sh t))),.own (rd (mk (sh t)) (sh t).length),.shr t]= .ok false:=by
  have hl:lenD [.str (mk (sh t))]= .ok (.int ((sh t).length:Int)):=by
   show Res.ok (D.int (((mk (sh t)).length:Nat):Int))=_;rw [yN]
  have hd:decide (((sh t).length:Int)< ((sh t).length:Int))=false:=by simp
  rw [←hd];exact jI (ji (qE (zH rfl) f2) (q8 (jg rfl rfl) hl) rfl)
 refine KA ?_;show Wo jZ (jf 62) zP [.shr (.str (mk (sh t))),.un,.un]=_;unfold Wo;refine qI (env':=[.shr (.str (mk (sh t))),.un,.un]) ((if_f (wF (b:=true) (jI rfl))).trans rfl) ?_;refine qI (env':=[.shr (.str (mk (sh t))),.own (rd (mk (sh t)) 0),.un]) ((XQ (Yu (jg rfl rfl) rfl hmk)).trans rfl) ?_;refine qI (env':=[.shr (.str (mk (sh t))),.own (rd (mk (sh t)) (sh t).length),.shr t]) ((Kv (zw (ns:=["text", "at"]) (vs:=[.str (mk (sh t)),.int 0]) (ds:=[.int 1]) rfl rfl rfl rfl hr)).trans rfl) ?_;refine qI ((if_f hlt).trans rfl) ?_;refine qI ((if_f (jI (jL (jg rfl rfl) rfl hg))).trans rfl) ?_;exact Zm rfl
def vi: ∀t,tk ns t=true->D.eqb t=true/\D.dep t<=hgt t:=xu (fun i=>by simp [D.eqb,D.dep]) fun z ts _ hl h=>by
 have h1:D.eqbs ts=true:=YT fun t ht=>((h t ht).2).1
 have h2:D.deps ts<=hgts ts:=Y2 fun t ht=>aau ((h t ht).2).2 (xf ht)
 rw [yV];refine ⟨by simp [D.eqb,D.eqbs,h1],?_⟩;simp only [D.dep,D.deps];omega
def vk: ∀t,tk ns t=true->eqD t t=true:=xu (fun i=>by simp [eqD]) fun z ts _ hl h=>by
 simp only [eqD,eqDs,beq_self_eq_true,acH];exact QS fun t ht=>(h t ht).2
def vj {t:D} (h:tk ns t=true) (hh:hgt t<=100):eqR t t= .ok (.bl true):=by
 obtain ⟨h1,h2⟩:=vi t h;have:eqR t t= .ok (.bl (eqD t t)):=jl (c:=EqC t t) (.inl ⟨h1,h1,by omega⟩);rw [this,vk t h]
theorem VF: ∀(n:Nat) (t:D),tk ns t=true->hgt t<=n->jV n [t]= .ok (.bl true)
 |0,t,_,h=>by have:=J6 t;omega
 |n+1,t,ht,hh=>by
  rcases xa ht with ⟨i,rfl⟩| ⟨z,ts,rfl,hz,hl,hts⟩
  · have hw:qS [.int i]= .ok (.bl true):=rfl;have hty:isiD "tuple" (.int i)= .ok (.bl false):=rfl;refine x0 ?_;show qx qS (jV n) [.shr (.int i)]=_;unfold qx
    decreasing_with exact rfl
  · rw [yV] at hh
    have hlen:lenD [.tup (.str z::ts)]= .ok (.int ((ts.length:Int)+1)):=by
     show Res.ok (D.int (((D.str z::ts).length:Nat):Int))=_;simp
    have hsl:slD (.tup (.str z::ts)) (some 1) none= .ok (.tup ts):=by
     show Res.ok (D.tup (cutD (.str z::ts) (some 1) none))=_;rw [cut1]
    have hc:Je false 1 [] (itF (qX (rdS 0) (zG (cI 1)) yL slD)) (gN 0) wn (jx 1 (jV n) (jc (rdS 0) nil1)) [.shr (.tup (.str z::ts))]= .ok (.lst (ts.map fun _=>D.bl true)):=
     Kb (cs:=[]) (fun _=> .bl true) (fun d=>tk ns d=true/\hgt d<=n) rfl (Yy (zm rfl (qC rfl) rfl hsl) rfl) (fun d hd=>⟨hts d hd,by have:=xf hd;omega⟩) (qQ (by omega)) (by
      rintro d acc ⟨h1,h2⟩
      exact jL (jg rfl rfl) rfl (VF n d h1 h2))
    have ha:allD [.lst (ts.map fun _=>D.bl true)]= .ok (.bl true):=by rw [WM];simp
    have hgt0:gtI (.int ((ts.length:Int)+1)) (.int 0)= .ok (.bl true):=by
     show Res.ok (D.bl (decide ((0:Int)< (ts.length:Int)+1)))=_;rw [decide_eq_true (by omega)]
    refine x0 ?_;show qx qS (jV n) [.shr (.tup (.str z::ts))]=_;unfold qx;refine Qy ((if_t (jI rfl)).trans (zB (Xv (ji (q8 (jg rfl rfl) hlen) rfl hgt0) (Xv (YA (ji rfl rfl ix0) rfl) (q8 (jg hc rfl) ha)))))
def WL (hn: ∀z∈ns,isNm (.str z)=true) {t:D} (ht:tk ns t=true) (hb:Bk t) (hh:hgt t<=60) (hm:num t<=1000):jW [t]= .ok (.bl true):=by
 have h1:=Vo hn 64 t ht hb (by omega) hm;have h2:=vI hn ht hb hm;have h3:=Ud hn ht hb hh hm;have h4:=VF 64 t ht (by omega);have h5:=vj ht (by omega);have hne:neR (.str (mk (sh t))) (.str (mk (sh t)))= .ok (.bl false):=by rw [Wj];simp
 have hs:isiD "str" (.str (mk (sh t)))= .ok (.bl true):=rfl;refine x0 ?_;show zo (wd 64) WN (jV 64) we [.shr t,.un,.un]=_;unfold zo;refine qI (env':=[.shr t,.shr (.str (mk (sh t))),.un]) ((qD (jL (jg rfl rfl) rfl h1)).trans rfl) ?_;refine qI (env':=[.shr t,.shr (.str (mk (sh t))),.un]) ((if_f (Yi (wF (jI (YA rfl hs))) (jI (ji rfl (jL (jg rfl rfl) rfl h2) hne)))).trans rfl) ?_;refine qI (env':=[.shr t,.shr (.str (mk (sh t))),.shr t]) ((qD (jL (jg rfl rfl) rfl h3)).trans rfl) ?_;exact zB (Xv (jL (jg rfl rfl) rfl h4) (ji rfl rfl h5))
def Good (ns:List Str) (r:Nat) (t:D):Prop:=tk ns t=true/\hgt t<=r/\2*num t+1<=3^r/\Bk t
def pow3 {r:Nat} (h:1<=r):3<=3^r:=by
 have:3^1<=3^r:=Nat.pow_le_pow_right (by decide) h;omega
def vZ {r:Nat} (h:1<=r):3^r=3*3^(r-1):=by
 cases r with
 |zero=>omega
 |succ q=>rw [Nat.add_sub_cancel,Nat.pow_succ];omega
theorem QK {q:Nat}: ∀ {ps:List D},(∀p∈ps,2*num p+1<=q)->2*nums ps+ps.length<=ps.length*q
 | [],_=>by simp [nums]
 |d::r,h=>by
  have a1:=h d (by simp);have a2:=QK (ps:=r) fun t ht=>h t (by simp [ht])
  simp only [nums,aab,Nat.succ_mul];omega
theorem Jm {nm:D} (hn:Fiv ns nm): ∀(n r:Nat) (m:Int),1<=r->r<=n-> ∃(t:D) (m':Int),jG n [.int m,nm,.int r]= .ok (.tup [t,.int m'])/\Good ns r t
 |0,r,m,h1,h2=>by omega
 |n+1,r,m,h1,h2=>by
  have hbig:20<=aae:=by decide
  have h3r:=pow3 h1;have e0:jT 9 [.int m,nm,.int r]=[.shr (.int m),.shr nm,.shr (.int r),.un,.un,.un,.un,.un,.un]:=rfl;generalize hkd:m%6=kd;generalize hm2:m/6=m2
  have t1:orB (asB (two (rdS 3) (cI 0) eqR)) (andB (asB (two (rdS 2) (cI 1) eqR)) (asB (two (rdS 3) (cI 4) ltI))) [.shr (.int m2),.shr nm,.shr (.int r),.shr (.int kd),.un,.un,.un,.un,.un]= .ok ((kd==0)|| (((r:Int)==1)&&decide (kd<4))):=
    Yi (jI (ji rfl rfl xA)) (VT (jI (ji rfl rfl xA)) (jI (ji rfl rfl rfl)))
  have t2:orB (asB (two (rdS 3) (cI 1) eqR)) (asB (two (rdS 2) (cI 1) eqR)) [.shr (.int m2),.shr nm,.shr (.int r),.shr (.int kd),.un,.un,.un,.un,.un]= .ok ((kd==1)|| ((r:Int)==1)):=
    Yi (jI (ji rfl rfl xA)) (jI (ji rfl rfl xA))
  obtain ⟨z,hz,hzn⟩:=YK hn (m2%5) (by omega) (by omega)
  have start: ∀g:Sl->Res Out,seqO (jB 3 (two (rdS 0) (cI 6) modI)) (seqO (jB 0 (two (rdS 0) (cI 6) divI)) g) (jT 9 [.int m,nm,.int r])=g [.shr (.int m2),.shr nm,.shr (.int r),.shr (.int kd),.un,.un,.un,.un,.un]:=by
    intro g;rw [e0,jH (env':=[.shr (.int m),.shr nm,.shr (.int r),.shr (.int kd),.un,.un,.un,.un,.un]) (by rw [←hkd];rfl)];rw [jH (env':=[.shr (.int m2),.shr nm,.shr (.int r),.shr (.int kd),.un,.un,.un,.un,.un]) (by rw [←hm2];rfl)]
  by_cases hb1:((kd==0)|| (((r:Int)==1)&&decide (kd<4)))=true
  · obtain ⟨d,hd,hmem⟩:=ixL (ds:=[.int 0,.int 1,.int 2,.int (m2/4%1000)]) (i:=m2%4) (by omega) (by simp only [aab,aak];omega)
    have hint: ∃i:Int,d= .int i/\0<=i/\i<=999:=by
      simp only [aaw,aaO,or_false] at hmem;rcases hmem with rfl|rfl|rfl|rfl<;>exact ⟨_,rfl,by omega,by omega⟩
    obtain ⟨i,rfl,hi⟩:=hint;refine ⟨.int i,m2/4000,x0 (d:=(.tup [.int i,.int (m2/4000)])) ?_,rfl,by simp [hgt];omega,by simp [num];omega,fun x hx=>by rw [yb] at hx;simp only [aaw,aaO,or_false] at hx;rw [hx];exact hi⟩;show j9 (jG n) _=_;unfold j9;rw [start];exact Qy ((if_t (by rw [t1,hb1])).trans (zB (yy (jg (ji (Wk (jg rfl (jg rfl (jg rfl (jg (ji (ji rfl rfl rfl) rfl rfl) rfl)))) (aau (show 4<=20 by decide) hbig)) (ji rfl rfl rfl) hd) (jg (ji rfl rfl rfl) rfl)) (aau (show 2<=20 by decide) hbig))))
  · have hb1:((kd==0)|| (((r:Int)==1)&&decide (kd<4)))=false:=by simpa using hb1
    by_cases hb2:((kd==1)|| ((r:Int)==1))=true
    · refine ⟨.tup [.str z],m2/5,x0 (d:=(.tup [.tup [.str z],.int (m2/5)])) ?_,Xx hzn (by simp) (fun _ h=>by cases h),by simp [hgt,hgts];omega,by simp [num,nums];omega,fun x hx=>by rw [ya] at hx;cases hx⟩;show j9 (jG n) _=_;unfold j9;rw [start,jH ((if_f (by rw [t1,hb1])).trans rfl)];exact Qy ((if_t (by rw [t2,hb2])).trans (zB (yy (jg (yy (jg (ji rfl (ji rfl rfl rfl) hz) rfl) (aau (show 1<=20 by decide) hbig)) (jg (ji rfl rfl rfl) rfl)) (aau (show 2<=20 by decide) hbig))))
    · have hb2:((kd==1)|| ((r:Int)==1))=false:=by simpa using hb2
      have hr:2<=r:=by
        simp only [Bool.or_eq_false_iff,beq_eq_false_iff_ne] at hb2;omega
      have hr1:((r:Int)-1)=((r-1:Nat):Int):=by omega
      generalize hct:1+m2/5%3=ct;have hct3:1<=ct/\ct<=3:=by omega
      obtain ⟨env1,l1,n1,ps,k1,p1,rfl,hl1,hps⟩:=xj (body:=wf (gN 7) (seqO (asgO (jx 3 (jG n) (jc (rdS 0) (jc (rdS 1) (jc (two (rdS 2) (cI 1) subI) nil1)))) (g2 (gN 8) (gN 0))) (jD 6 (rdS 8))))
        (fun ds env=> ∃(n':Int) (ps:List D) (k p:Slot),env=[.shr (.int n'),.shr nm,.shr (.int r),.shr (.int kd),.shr (.str z),.shr (.int ct),.own (.lst ps),k,p]/\ps.length+ds.length<=3/\ ∀p∈ps,Good ns (r-1) p)
        (by
         rintro d ds env ⟨n',ps,k,p,rfl,hl,hps⟩;obtain ⟨t,m',ht,hg⟩:=Jm hn n (r-1) n' (by omega) (by omega);simp only [aab] at hl;refine ⟨[.shr (.int m'),.shr nm,.shr (.int r),.shr (.int kd),.shr (.str z),.shr (.int ct),.own (.lst (ps++[t])),.shr d,.shr t],?_,_,_,_,_,rfl,by simp only [aad,aab,aak];omega,?_⟩
         · rw [xU (env':=[.shr (.int n'),.shr nm,.shr (.int r),.shr (.int kd),.shr (.str z),.shr (.int ct),.own (.lst ps),.shr d,p]) rfl]
           have hc:jx 3 (jG n) (jc (rdS 0) (jc (rdS 1) (jc (two (rdS 2) (cI 1) subI) nil1))) [.shr (.int n'),.shr nm,.shr (.int r),.shr (.int kd),.shr (.str z),.shr (.int ct),.own (.lst ps),.shr d,p]= .ok (.tup [t,.int m']):=
             jL (ds:=[.int n',nm,.int ((r:Int)-1)]) (jg rfl (jg rfl (jg (ji rfl rfl rfl) rfl))) rfl (by rw [hr1];exact ht)
           rw [jH (env':=[.shr (.int m'),.shr nm,.shr (.int r),.shr (.int kd),.shr (.str z),.shr (.int ct),.own (.lst ps),.shr d,.shr t]) (by
             show (jx 3 _ _ _>>=_)=_
             rw [hc];rfl)]
           exact (qH (ds:=ps) rfl rfl (by omega)).trans rfl
         · intro q hq;rcases abn.mp hq with h|h
           · exact hps q h
           · simp only [aaw,aaO,or_false] at h
             subst h;exact hg)
        (zD 0 ct.toNat) [.shr (.int (m2/15)),.shr nm,.shr (.int r),.shr (.int kd),.shr (.str z),.shr (.int ct),.own (.lst []),.un,.un] ⟨_,[],.un,.un,rfl,by rw [xK];simp only [aak];omega,fun _ h=>by cases h⟩
      simp only [aak,Nat.add_zero] at hl1
      have himm:D.imm (.tup (.str z::ps))=true:=by
        show (true&&D.imms ps)=true;rw [acH];exact imms_iff.mpr fun d hd=>YF d (hps d hd).1
      refine ⟨.tup (.str z::ps),n1,x0 (d:=(.tup [.tup (.str z::ps),.int n1])) ?_,?_,?_,?_,fun x hx=>by
        rw [ya,wW] at hx;obtain ⟨q,hq,hxt⟩:=abC.mp hx
        exact (hps q hq).2.2.2 x hxt⟩
      · show j9 (jG n) _=_;unfold j9;rw [start,jH ((if_f (by rw [t1,hb1])).trans rfl),jH ((if_f (by rw [t2,hb2])).trans rfl)];rw [jH (env':=[.shr (.int m2),.shr nm,.shr (.int r),.shr (.int kd),.shr (.str z),.un,.un,.un,.un]) ((qD (ji rfl (ji rfl rfl rfl) hz)).trans rfl)];rw [jH (env':=[.shr (.int m2),.shr nm,.shr (.int r),.shr (.int kd),.shr (.str z),.shr (.int ct),.un,.un,.un]) (by rw [←hct];rfl)];rw [jH (env':=[.shr (.int (m2/15)),.shr nm,.shr (.int r),.shr (.int kd),.shr (.str z),.shr (.int ct),.un,.un,.un]) rfl];rw [jH (env':=[.shr (.int (m2/15)),.shr nm,.shr (.int r),.shr (.int kd),.shr (.str z),.shr (.int ct),.own (.lst []),.un,.un]) rfl]
        rw [jH ((yX (ds:=zD 0 ct.toNat) (by
         show must _ _=_
         exact jl (by omega))).trans l1)]
        refine zB (yy (jg (QZ (q8 (jg (ji (Wk (jg rfl rfl) (aau (show 1<=20 by decide) hbig)) rfl (jl (c:=[D.str z].length+ps.length<=aae) (by simp only [aab,aak];omega))) rfl) rfl) himm) (jg rfl rfl)) (aau (show 2<=20 by decide) hbig))
      · exact Xx hzn (by omega) fun d hd=>(hps d hd).1
      · simp only [hgt];have:=M.hgts_le (ds:=ps) (k:=r-1) fun d hd=>(hps d hd).2.1
        omega
      · simp only [num];have hq:=QK (ps:=ps) (q:=3^(r-1)) fun p hp=>(hps p hp).2.2.1
        have e3:3^r=3*3^(r-1):=vZ h1;have hq1:1<=3^(r-1):=Nat.one_le_pow _ _ (by decide);rw [e3];generalize 3^(r-1)=q at hq hq1;have h5:ps.length=0\/ps.length=1\/ps.length=2\/ps.length=3:=by omega
        rcases h5 with e|e|e|e<;>rw [e] at hq<;>omega
def U6 (n:Nat):Sl->Res Out:=jD 3 (jx 2 (jJ n) (jc (two (two (two (rdS 0) (cI 1) subI) (rdS 4) addD) (rdS 2) divI) (jc (rdS 1) nil1)))
def WOk (ns:List Str) (h m:Nat) (w:D):Prop:=tk ns w=true/\num w=m/\hgt w<=h/\Bk w
theorem Qn {n h m s:Nat} {z:Str} (hz:z∈ns) (hm:2<=m) (hs:1<=s/\s<=9) (hc:(s=9/\9<=m-1)\/(s=m-1)) (ih: ∀c,1<=c->c<=m/2-> ∃w,jJ n [.int (c:Int),.str z]= .ok w/\WOk ns h c w):
  ∀(j k:Nat) (ps:List D) (u:Slot),k+j=s->ps.length=k->nums ps=sumN (m-1) s k->(∀p∈ps,tk ns p=true/\hgt p<=h/\Bk p)->
  ∃ps' u',forD (wf (gN 4) (U6 n)) (zD (k:Int) j) [.shr (.int (m:Int)),.shr (.str z),.shr (.int (s:Int)),.own (.lst ps),u]= .ok (.nx [.shr (.int (m:Int)),.shr (.str z),.shr (.int (s:Int)),.own (.lst ps'),u'])/\ps'.length=s/\nums ps'=sumN (m-1) s s/\ ∀p∈ps',tk ns p=true/\hgt p<=h/\Bk p
 |0,k,ps,u,h1,h2,h3,h4=>by
  have:k=s:=by omega
  subst this;exact ⟨ps,u,rfl,h2,h3,h4⟩
 |j+1,k,ps,u,h1,h2,h3,h4=>by
  have hcb:1<=(m-1+k)/s/\(m-1+k)/s<=m/2:=by
   have:s=1\/s=2\/s=3\/s=4\/s=5\/s=6\/s=7\/s=8\/s=9:=by omega
   rcases this with rfl|rfl|rfl|rfl|rfl|rfl|rfl|rfl|rfl<;>omega
  obtain ⟨w,hw,g1,g2,g3,g4⟩:=ih _ hcb.1 hcb.2
  have hdiv:two (two (two (rdS 0) (cI 1) subI) (rdS 4) addD) (rdS 2) divI [.shr (.int (m:Int)),.shr (.str z),.shr (.int (s:Int)),.own (.lst ps),.shr (.int (k:Int))]= .ok (.int (((m-1+k)/s:Nat):Int)):=by
   refine (ji (ji (ji rfl rfl rfl) rfl rfl) rfl (VO (by omega))).trans ?_;have e:((m:Int)-1+(k:Int))=((m-1+k:Nat):Int):=by omega
   rw [e];rfl
  have hstep:wf (gN 4) (U6 n) (.int (k:Int)) [.shr (.int (m:Int)),.shr (.str z),.shr (.int (s:Int)),.own (.lst ps),u]= .ok (.nx [.shr (.int (m:Int)),.shr (.str z),.shr (.int (s:Int)),.own (.lst (ps++[w])),.shr (.int (k:Int))]):=by
   rw [xU (env':=[.shr (.int (m:Int)),.shr (.str z),.shr (.int (s:Int)),.own (.lst ps),.shr (.int (k:Int))]) rfl];exact (qH (ds:=ps) rfl (jL (jg hdiv (jg rfl rfl)) rfl hw) (aas (show ps.length<20000 by omega) big1)).trans rfl
  obtain ⟨ps',u',r1,r2,r3,r4⟩:=Qn hz hm hs hc ih j (k+1) (ps++[w]) (.shr (.int (k:Int))) (by omega) (by simp only [aad,aab,aak];omega) (by rw [Wf,h3];simp [nums,sumN,g2]) (fun p hp=>by
   rcases abn.mp hp with z|z
   · exact h4 p z
   · simp only [aaw,aaO,or_false] at z
     rw [z];exact ⟨g1,g3,g4⟩)
  refine ⟨ps',u',?_,r2,r3,r4⟩;rw [W7,J8 hstep];have e:((k:Int)+1)=((k+1:Nat):Int):=by omega
  rw [e];exact r1
def WO {z:Str} (hz:z∈ns): ∀(n f m:Nat),n<=f->1<=m->m<=2^n->m<=5000-> ∃w,jJ (f+1) [.int (m:Int),.str z]= .ok w/\WOk ns (n+2) m w:=by
 intro n
 have one: ∀f n:Nat,∃w,jJ (f+1) [.int ((1:Nat):Int),.str z]= .ok w/\WOk ns (n+2) 1 w:=fun f n=>by
  refine ⟨.tup [.str z],x0 ?_,Xx hz (by simp) (fun _ h=>by cases h),by simp [num,nums],by simp [hgt,hgts],fun x hx=>by rw [ya] at hx;cases hx⟩;show qN (jJ f) [.shr (.int ((1:Nat):Int)),.shr (.str z),.un,.un,.un]=_;unfold qN;have t1:asB (two (rdS 0) (cI 1) eqR) [.shr (.int ((1:Nat):Int)),.shr (.str z),.un,.un,.un]= .ok true:=jI ((ji rfl rfl xA).trans rfl);exact Qy ((if_t t1).trans (zB (yy (jg rfl rfl) (qQ (show 1<=20000 by decide)))))
 induction n with
 |zero=>
  intro f m _ h1 h2 _;have:m=1:=by simp at h2;omega
  subst this;exact one f 0
 |succ n IH=>
  intro f m hf h1 h2 h5;obtain ⟨f,rfl⟩: ∃f',f=f'+1:=⟨f-1,by omega⟩
  by_cases hm1:m=1
  · subst hm1;exact one (f+1) (n+1)
  · have hm:2<=m:=by omega
    have hmp:m/2<=2^n:=by
      rw [Nat.pow_succ] at h2;omega
    obtain ⟨s,hsdef⟩: ∃s:Nat,s=if m-1<9 then m-1 else 9:=⟨_,rfl⟩
    have hs:1<=s/\s<=9:=by rw [hsdef];split<;>omega
    have hc:(s=9/\9<=m-1)\/(s=m-1):=by rw [hsdef];split<;>omega
    obtain ⟨ps,u,r1,r2,r3,r4⟩:=Qn (ns:=ns) (n:=f+1) (h:=n+2) (m:=m) (s:=s) hz hm hs hc (fun c c1 c2=>IH f c (by omega) c1 (by omega) (by omega)) s 0 [] .un (by omega) rfl rfl (fun _ h=>by cases h);rw [Kt hs.1 hs.2] at r3
    have himm:D.imm (.tup (.str z::ps))=true:=by
      show (true&&D.imms ps)=true;rw [acH];exact imms_iff.mpr fun d hd=>YF d (r4 d hd).1
    refine ⟨.tup (.str z::ps),x0 ?_,Xx hz (by omega) fun d hd=>(r4 d hd).1,by simp only [num];omega,?_,fun x hx=>by
      rw [ya,wW] at hx;obtain ⟨q,hq,hxt⟩:=abC.mp hx
      exact (r4 q hq).2.2 x hxt⟩
    · show qN (jJ (f+1)) [.shr (.int (m:Int)),.shr (.str z),.un,.un,.un]=_;unfold qN
      have t1:asB (two (rdS 0) (cI 1) eqR) [.shr (.int (m:Int)),.shr (.str z),.un,.un,.un]= .ok false:=by
       refine jI ((ji rfl rfl xA).trans ?_);have:((m:Int)==1)=false:=by simp;omega
       rw [this]
      rw [jH ((if_f t1).trans rfl)]
      have q1:jB 2 (app (jc (cI 9) (jc (two (rdS 0) (cI 1) subI) nil1)) minD) [.shr (.int (m:Int)),.shr (.str z),.un,.un,.un]= .ok (.nx [.shr (.int (m:Int)),.shr (.str z),.shr (.int (s:Int)),.un,.un]):=by
       refine (qD (d:= .int (s:Int)) (q8 (ds:=[.int 9,.int ((m:Int)-1)]) (jg rfl (jg (ji rfl rfl rfl) rfl)) ?_)).trans rfl;show Res.ok (D.int (if (m:Int)-1<9 then (m:Int)-1 else 9))=_;rw [hsdef]
       by_cases h9:m-1<9
       · rw [if_pos h9,if_pos (by omega)];congr 2;omega
       · rw [if_neg h9,if_neg (by omega)];rfl
      rw [jH q1];rw [jH (env':=[.shr (.int (m:Int)),.shr (.str z),.shr (.int (s:Int)),.own (.lst []),.un]) rfl];have hr:rngF (jc (rdS 2) nil1) [.shr (.int (m:Int)),.shr (.str z),.shr (.int (s:Int)),.own (.lst []),.un]= .ok (zD ((0:Nat):Int) s):=(XX (j:=(s:Int)) (jg rfl rfl) (by omega)).trans (by simp);refine (jH ((yX hr).trans r1)).trans ?_;exact zB (QZ (q8 (jg (ji (Wk (jg rfl rfl) (qQ (show 1<=20000 by decide))) rfl (jl (c:=[D.str z].length+ps.length<=aae) (qQ (by simp only [aab,aak];omega)))) rfl) rfl) himm)
    · simp only [hgt];have:=M.hgts_le (ds:=ps) (k:=n+2) fun d hd=>(r4 d hd).2.1
      omega
end
def law_true (sc:List Int) (hlen:sc.length<=63) (hb: ∀i∈sc,abb i<=2^20):F_law [.scr (sc.map D.int)]= .ok (.bl true):=by
 have hbit: ∀c:Int,c=0\/c∈sc->intBits c<=2^20+1:=fun c h=>by
  rcases h with rfl|h
  · decide
  · have:=hb c h;omega
 obtain ⟨c,hc,hc2⟩:=Xi sc;obtain ⟨m,hm⟩:=yW (hbit c hc2);obtain ⟨nm,hnm,h5⟩:=ZA m;obtain ⟨ns,hn⟩:=K9 h5;have hnn:=hn.2.2
 have s1:jB 1 (jx 1 qi (jc (jx 2 qp (jc (rdS 0) (jc (cI 0) nil1))) nil1)) [.shr (.scr (sc.map D.int)),.un,.un,.un,.un,.un]= .ok (.nx [.shr (.scr (sc.map D.int)),.shr (.int m),.un,.un,.un,.un]):=
  (qD (jL (jg (jL (jg rfl (jg rfl rfl)) rfl hc) rfl) rfl hm)).trans rfl
 have s2:jB 2 (jx 1 qT (jc (rdS 1) nil1)) [.shr (.scr (sc.map D.int)),.shr (.int m),.un,.un,.un,.un]= .ok (.nx [.shr (.scr (sc.map D.int)),.shr (.int m),.shr nm,.un,.un,.un]):=(qD (jL (jg rfl rfl) rfl hnm)).trans rfl
 obtain ⟨env1,l1,u1,rfl,_⟩:=xj (body:=wf (gN 3) (ifO (notB (asB (jx 1 jW (jc (two (jx 3 (jG 6) (jc (jx 1 qi (jc (rdS 3) nil1)) (jc (rdS 2) (jc (cI 4) nil1)))) (cI 0) ixD) nil1)))) (retO (cB false)) nxO))
  (fun ds env=> ∃u:Slot,env=[.shr (.scr (sc.map D.int)),.shr (.int m),.shr nm,u,.un,.un]/\ ∀d∈ds,∃i:Int,d= .int i/\i∈sc)
  (by
    rintro d ds env ⟨u,rfl,hd⟩;obtain ⟨i,rfl,hi⟩:=hd d (by simp);obtain ⟨g,hg⟩:=yW (hbit i (.inr hi));obtain ⟨t,m',ht,g1,g2,g3,g4⟩:=Jm hn 6 4 g (by decide) (by decide)
    have hnum:num t<=1000:=by
     have:(3:Nat)^4=81:=by decide
     omega
    have hA:=WL hnn g1 g4 (by omega) hnum;refine ⟨[.shr (.scr (sc.map D.int)),.shr (.int m),.shr nm,.shr (.int i),.un,.un],?_,_,rfl,fun e he=>hd e (by simp [he])⟩;rw [xU (env':=[.shr (.scr (sc.map D.int)),.shr (.int m),.shr nm,.shr (.int i),.un,.un]) rfl];have hcall:jx 3 (jG 6) (jc (jx 1 qi (jc (rdS 3) nil1)) (jc (rdS 2) (jc (cI 4) nil1))) [.shr (.scr (sc.map D.int)),.shr (.int m),.shr nm,.shr (.int i),.un,.un]= .ok (.tup [t,.int m']):=jL (ds:=[.int g,nm,.int ((4:Nat):Int)]) (jg (jL (jg rfl rfl) rfl hg) (jg rfl (jg rfl rfl))) rfl ht
    exact (if_f (wF (b:=true) (jI (jL (jg (ji hcall rfl ix0) rfl) rfl hA)))).trans rfl)
  (sc.map D.int) [.shr (.scr (sc.map D.int)),.shr (.int m),.shr nm,.un,.un,.un] ⟨.un,rfl,fun d hd=>by
    obtain ⟨i,hi,rfl⟩:=acx.mp hd
    exact ⟨i,rfl,hi⟩⟩
 generalize hN:1+m/1000%59=N;have hN2:1<=N/\N<=59:=by omega
 have bki: ∀i:Int,0<=i/\i<=999->Bk (.int i):=fun i hi x hx=>by
  rw [yb] at hx;simp only [aaw,aaO,or_false] at hx;rw [hx];exact hi
 obtain ⟨env2,l2,row,u2,rfl,hrow,hrb,hrh,hrn,_⟩:=xj (body:=wf (gN 5) (jB 4 (tupF (jc (two (rdS 2) (two (two (rdS 1) (rdS 5) addD) (cI 5) modI) ixD) (jc (rdS 4) nil1)))))
  (fun ds env=> ∃(row:D) (u:Slot),env=[.shr (.scr (sc.map D.int)),.shr (.int m),.shr nm,u1,.shr row,u]/\tk ns row=true/\Bk row/\hgt row+ds.length<=60/\num row+ds.length<=60/\ ∀d∈ds,∃k:Int,d= .int k)
  (by
    rintro d ds env ⟨row,u,rfl,h1,hb1,h2,h3,h4⟩;obtain ⟨k,rfl⟩:=h4 d (by simp);simp only [aab] at h2 h3;obtain ⟨z,hz,hzn⟩:=YK hn ((m+k)%5) (by omega) (by omega);have hT:tupF (jc (two (rdS 2) (two (two (rdS 1) (rdS 5) addD) (cI 5) modI) ixD) (jc (rdS 4) nil1)) [.shr (.scr (sc.map D.int)),.shr (.int m),.shr nm,u1,.shr row,.shr (.int k)]= .ok (.tup [.str z,row]):=yy (jg (ji rfl (ji (ji rfl rfl rfl) rfl rfl) hz) (jg rfl rfl)) (qQ (show 2<=20000 by decide));refine ⟨[.shr (.scr (sc.map D.int)),.shr (.int m),.shr nm,u1,.shr (.tup [.str z,row]),.shr (.int k)],Ze rfl ((qD hT).trans rfl),.tup [.str z,row],_,rfl,Xx hzn (by simp) (fun t ht=>by simp only [aaw,aaO,or_false] at ht;rw [ht];exact h1),fun x hx=>?_,by simp [yV,hgts];omega,by simp [yK,nums];omega,fun d hd=>h4 d (by simp [hd])⟩;rw [ya,wW] at hx;obtain ⟨q,hq,hxt⟩:=abC.mp hx;simp only [aaw,aaO,or_false] at hq;rw [hq] at hxt
    exact hb1 x hxt)
  (zD 0 N.toNat) [.shr (.scr (sc.map D.int)),.shr (.int m),.shr nm,u1,.shr (.int (m%1000)),.un] ⟨.int (m%1000),.un,rfl,rfl,bki _ (by omega),by rw [xK];simp [hgt];omega,by rw [xK];simp [num];omega,fun d hd=>by
    obtain ⟨k,hk,_⟩:=QM hd
    exact ⟨k,hk⟩⟩
 simp only [aak,Nat.add_zero] at hrh hrn;have a1:=WL hnn hrow hrb (by omega) (by omega);have a2:=WL (ns:=ns) hnn (t:= .int (m/3%1000)) rfl (bki _ (by omega)) (by simp [hgt]) (by simp [num]);obtain ⟨z1,hz1,hz1n⟩:=YK hn 1 (by decide) (by decide);obtain ⟨M0,hM0⟩: ∃M0:Nat,(1+m/7%1000:Int)=(M0:Int):=⟨(1+m/7%1000).toNat,by omega⟩
 have hM1:1<=M0/\M0<=1000:=by omega
 obtain ⟨w,hw,w1,w2,w3,w4⟩:=WO hz1n 10 63 M0 (by decide) hM1.1 (aau hM1.2 (show 1000<=2^10 by decide)) (by omega);have a3:jW [w]= .ok (.bl true):=WL hnn w1 w4 (by omega) (by omega);refine x0 ?_;show K7 qi qT jW qp (jJ 64) (jG 6) [.shr (.scr (sc.map D.int)),.un,.un,.un,.un,.un]=_;unfold K7;rw [jH s1,jH s2,jH ((yX (ds:=sc.map D.int) rfl).trans l1)];rw [jH (env':=[.shr (.scr (sc.map D.int)),.shr (.int m),.shr nm,u1,.shr (.int (m%1000)),.un]) rfl]
 have hr:rngF (jc (two (cI 1) (two (two (rdS 1) (cI 1000) divI) (cI 59) modI) addD) nil1) [.shr (.scr (sc.map D.int)),.shr (.int m),.shr nm,u1,.shr (.int (m%1000)),.un]= .ok (zD 0 N.toNat):=by
  rw [←hN];exact XX (jg (ji rfl (ji (ji rfl rfl rfl) rfl rfl) rfl) rfl) (by omega)
 rw [jH ((yX hr).trans l2)]
 have t1:orB (notB (asB (jx 1 jW (jc (rdS 4) nil1)))) (notB (asB (jx 1 jW (jc (two (two (rdS 1) (cI 3) divI) (cI 1000) modI) nil1)))) [.shr (.scr (sc.map D.int)),.shr (.int m),.shr nm,u1,.shr row,u2]= .ok false:=
  Yi (b:=false) (b2:=false) (wF (b:=true) (jI (jL (jg rfl rfl) rfl a1))) (wF (b:=true) (jI (jL (jg (ji (ji rfl rfl rfl) rfl rfl) rfl) rfl a2)))
 rw [jH ((if_f t1).trans rfl)]
 have hw':jx 2 (jJ 64) (jc (two (cI 1) (two (two (rdS 1) (cI 7) divI) (cI 1000) modI) addD) (jc (two (rdS 2) (cI 1) ixD) nil1)) [.shr (.scr (sc.map D.int)),.shr (.int m),.shr nm,u1,.shr row,u2]= .ok w:=by
  refine jL (ds:=[.int (1+m/7%1000),.str z1]) (jg (ji rfl (ji (ji rfl rfl rfl) rfl rfl) rfl) (jg (ji rfl rfl hz1) rfl)) rfl ?_;rw [hM0];exact hw
 exact zB (jL (jg hw' rfl) rfl a3)
end G
namespace PySem.W.Fast
theorem te13693031636567312887:True:=⟨⟩
theorem tw7744221909160836314:True:=⟨⟩
theorem tw16699308282950385022:True:=⟨⟩
theorem tw15982347408216627378:True:=⟨⟩
theorem tw1666689432809416012:True:=⟨⟩
theorem tw10573104178815234763:True:=⟨⟩
theorem tw5317346901901349482:True:=⟨⟩
theorem tw6821686276568003836:True:=⟨⟩
theorem tw7593931570644052924:True:=⟨⟩
theorem tw11466344646294468078:True:=⟨⟩
theorem tw6506365271397108116:True:=⟨⟩
theorem tw15254053880814321365:True:=⟨⟩
theorem tw1717563987391441287:True:=⟨⟩
theorem tw5630749713364244890:True:=⟨⟩
theorem tw5760572816700631996:True:=⟨⟩
theorem tw10397699587426562402:True:=⟨⟩
theorem tw4512007102108806275:True:=⟨⟩
end PySem.W.Fast
open PySem PySem.W PyProof.Rows
set_option maxRecDepth 100000 in
set_option maxHeartbeats 0 in
theorem PySem.Challenge.cw_endwise_k06_written_and_read_holds : PySem.Challenge.rw_endwise_k06_written_and_read.Holds := by
  w_on; o_law; k_head; (case hw => w_witness2)
  k_fill
  refine M.walk_law (l := PySem.Challenge.rw_endwise_k06_written_and_read) (n := 63) (k := 130) (x := "_law_script") (F := G.F_law) rfl (by decide) rfl ⟨rfl, by decide, by decide⟩ (fun w h Y => PySem.W.kIn_of Y) ?F G.law_true
  case F =>
    intro w mg fa h KX Gn hmg
    refine' G.all_mk KX Gn hmg ?d0 ?d1 ?d2 ?d3 ?d4 ?d5 ?d6 ?d7 ?d8 ?d9 ?d10 ?d11 ?d12 ?d13 ?d14 ?d15 ?d16 ?d17 ?d18 ?d19 ?d20 ?d21 ?d22 ?d23 ?a24 ?l24 ?c24 ?k24 ?z0 ?z1 ?z2 ?z3 ?z4 ?z5 ?z6 ?z7 ?z8 ?y_LETTERS ?y_MOST_LETTERS ?y_MOST_PLACES ?y_MOST_BLANK ?y_MOST_LEVELS ?y_MOST_PARTS ?y_FIGURES ?y_MOST_FIGURES ?zM ?wA ?wH ?wz ?wp ?wG ?zC ?yO ?yT
    (case zM => k_is)
    (case d0 | d1 | d2 | d3 => exact ⟨_, by k_is, ⟨_, _, _, _, _, _, _, _, _, by k_is, by k_is⟩, by k_is⟩)
    (case d4 | d5 | d6 | d7 | d8 => exact ⟨_, by k_is, by k_is, ⟨_, _, _, _, _, _, _, _, _, by k_is, by k_is⟩, by k_is⟩)
    (case d9 | d10 | d11 | d12 => exact ⟨_, by k_is, ⟨_, _, _, _, _, _, _, _, _, by k_is, by k_is⟩, by k_is⟩)
    (case d13 => exact ⟨_, by k_is, by k_is, ⟨_, _, _, _, _, _, _, _, _, by k_is, by k_is⟩, by k_is⟩)
    (case d14 | d15 | d16 | d17 | d18 | d19 | d20 | d21 | d22 | d23 => exact ⟨_, by k_is, ⟨_, _, _, _, _, _, _, _, _, by k_is, by k_is⟩, by k_is⟩)
    (case a24 | l24 | c24 | k24 | z0 | z1 | z2 | z3 | z4 | z5 | z6 | z7 | z8 => k_is)
    (case y_LETTERS | y_MOST_LETTERS | y_MOST_PLACES | y_MOST_BLANK | y_MOST_LEVELS | y_MOST_PARTS | y_FIGURES | y_MOST_FIGURES => exact ⟨_, by k_is⟩)
    (case wA | wH | wz | wp | wG | zC | yO | yT => k_is)

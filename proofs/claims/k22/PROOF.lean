import PyProof.Rows.All
import Wide.All
import OpenK.AllK
import Wide.FinOn
import Lean
import PyProof.EqAt
import PyProof.EqKinds
import PyProof.TupleCall
import PyProof.NeKinds
import KE.IntBitsLaws
import KE.KDictList
import KE.KRevIter
import KE.KSortTup
import KE.KDictSum
import PyProof.EnumMake
import PyProof.EnumFor
import PyProof.LayNew
import PyProof.Rows.EnumRows
import PyProof.SumAny
import PyProof.ListRange
import PyProof.FString5
import PyProof.CollectIter
import PyProof.TupleOfSeq
import PyProof.Rows.Tup
import OpenK.KRaise
import PyProof.StationsW
import KE.KTryMore
import PyProof.NsDelKeeps
import KE.KEqDict
import PyProof.ExcArgs
import PyProof.Draws
import PyProof.ZipIter
import PyProof.Rows.ZipGen
import PyProof.DictWalks
import PyProof.Conv_int_bool
import PyProof.Rows.SeqMore
import PyProof.Rows.SetFrom
import PyProof.SetRoads
import PyProof.MeetsSeq2
import PyProof.FactsAll.NoneType_1
import PyProof.DictFindH
import PyProof.DictRoadsH
import PyProof.AttrMissHeap
import KE.KDictOf
import PySem.Challenge.RW_endwise_k22_steps_told
open Array renaming length_toList -> aby, getElem?_toList -> aco, getD -> adX
open Bool renaming and_eq_true -> aap, false_ne_true -> aaz, false_eq_true -> aaN, not_false -> aa9, not_true -> abE
open False renaming elim -> abS
open ForInStep renaming yield -> adw
open Function renaming comp_apply -> acH
open Int renaming toNat_natCast -> abo, emod_lt_of_pos -> acZ, emod_nonneg -> adB
open List renaming length_cons -> aad, size_toArray -> aaf, getElem?_eq_getElem -> aag, mem_cons -> aah, length_map -> aan, length_append -> aao, not_mem_nil -> aaq, getElem?_append_right -> aar, length_nil -> aas, getElem?_append_left -> aau, map_cons -> aaw, getElem?_eq_some_iff -> aay, getElem?_map -> aaH, mem_cons_of_mem -> aaI, mem_map -> aaK, mem_append -> aaL, getElem?_eq_none -> aaO, getElem?_cons_succ -> aaQ, lookup_cons -> aaT, append_assoc -> aaU, mem_append_right -> aaV, getElem?_replicate -> aaW, mem_of_getElem? -> aaZ, mem_cons_self -> aa1, getD_eq_getElem?_getD -> aa5, all_eq_true -> abb, append_nil -> abj, zip_cons_cons -> abr, getElem?_set_self -> abu, range -> abx, length_replicate -> abF, mem_range -> abJ, nodup_cons -> abN, map_append -> abO, getElem_mem -> abT, lookup -> abX, map_map -> ab6, mem_flatMap -> aca, nodup_nil -> acd, pairwise_cons -> ach, set_cons_succ -> acj, of_mem_zip -> acl, find?_cons -> acp, replicate -> acw, drop_eq_getElem_cons -> acy, pairwise_iff_getElem -> acz, length_take -> acE, map_congr_left -> acG, toArray -> acM, any_cons -> acT, getElem?_cons_zero -> acY, nil_append -> ac0, set_eq_take_append_cons_drop -> ac1, drop_eq_nil_of_le -> ac4, length_drop -> adc, mem_reverse -> adh, getElem?_set_ne -> adi, all_cons -> adl, filterMap_cons -> adp, mem_filterMap -> adF, map_nil -> adH, append_of_mem -> adL, set_cons_zero -> adM, ext_getElem? -> adY, nodup_append -> adZ, reverse_cons -> ad0
open List.Perm renaming refl -> aeg
open List.cons renaming injEq -> aed
open Nat renaming le_refl -> aai, lt_of_lt_of_le -> aaB, le_trans -> aaC, ne_of_lt -> aaG, zero_le -> abp, lt_irrefl -> abU, le_succ -> adu, lt_of_le_of_lt -> adI, zero_add -> adJ
open Ne renaming symm -> acF
open Option renaming bind_some -> abt, getD_none -> ade
open Option.some renaming inj -> aaF
open Or renaming inr -> aa4, inl -> abw
open PyProof.Rows renaming boot_tuple -> aaA, slot_tuple_getitem -> aaS, callWith_type1 -> aa0, boot_all -> acq, seqObj -> acA, envOfC -> acR, get?_update_seq -> adx, zipApart_new -> adS, boot_bool -> ad5, AllBare -> ad8, boot_int -> aef
open PySem renaming wpAny_bind -> aab, sizeLine -> aae, Shared -> aaj, wpAny_pure -> aak, starEach -> aal, mainGlobals -> aav, Program -> aaD, Around -> aaX, boot_len -> aa3, wpAny_callSpecial?_slot -> aa6, wpAny_call_entry -> aba, backTo -> abd, assignEach -> abe, attributeBase -> abf, wpAny_newObj_type -> abg, bootBuiltins -> abl, wpAny_truthy_bool -> abm, wpAny_field -> abq, compareOp -> abv, keywordEach -> abz, mem_of_lookup -> abA, FuncData -> abC, binaryOp -> abG, wpAny_typeNameOfWhole_keyiter -> abI, foldedSetIterable -> abL, sysModules -> abR, wpAny_setField_rec -> abW, wpAny_seqItems -> ab0, swapsWith -> ab1, wpAny_passesOwn -> ab2, wpAny_typeNameOf_keyiter -> ab5, behindInMarks -> ab7, wpAny_holding -> ab8, wpAny_mono -> acb, wpAny_pyIter_tuple -> acf, sizeLine_eq -> ack, Keyword -> acn, backToKw -> acs, intKind -> acu, wpAny_Call_Name_kw -> acQ, wpAny_loadPart' -> acU, sliceBounds -> ac7, wpAny_pyIter_enum -> ac9, wpAny_isOneOf_keyiter -> adb, wpAny_isInstance -> adf, wpAny_pyIter_zip -> adg, wpAny_updateSeq_pair -> adk, wpAny_rule -> ado, holding -> adq, wpAny_execs_nil -> adr, letOwnedTupleGo -> ads, Builtin -> adv, scanBound -> adz, SetTable -> adK, standAt -> adN, wpAny_fieldsOf -> adP, wpAny_setField -> adQ, firstArgMember -> adR, rawInt -> adV, Operator -> ad2, assign -> ad4, IsPair -> aee
open PySem.Builtin.Dict renaming showsAll -> aec
open PySem.Builtin.Dict_items renaming ownsTuple -> adm
open PySem.Builtin.Frozenset renaming isAnySet -> abQ, difference -> aci, addrOf -> acN, slot1 -> ad3
open PySem.Builtin.Int renaming intBits -> abB
open PySem.Builtin.List renaming listTooLong -> abH
open PySem.Builtin.Slice renaming slicePlaces -> abZ, sliceAdjust -> acx, sliceApplied -> adC
open PySem.Builtin.SmallTypes renaming nextOf -> aaY, ownedTupleIsFree -> abk, ownedTupleHandOut -> acC
open PySem.Builtin.Str renaming strSliceIndices -> aaE, occurrences -> acO
open PySem.Builtin.Tuple renaming tupleExact -> ab4, tupleItemsOf -> adD, tupleIsExact -> adE
open PySem.F renaming slot_dict_keyiterator_next -> aa7, slot_tuple_iterator_next -> abP, plainAttrs_list -> ab9, slot_dict_setdefault -> acg, args_dict_keyiterator_next_1 -> acB, entry_dict_keyiterator_next -> acI, args_tuple_add_2 -> acL, entry_tuple_add -> acS, plainAttrs_dict -> acW, slot_tuple_add -> ac3, slot_dict_get -> ada, slot_list_extend -> adj, type_dict_setdefault -> adn, slot_zip_next -> ady
open PySem.Heap renaming get?_push_of_some -> aac, get?_push_size -> aam, lt_size -> aat, size_push -> abY, get?_update_other -> ace, get?_push_cases -> acv, SameBut -> acK
open PySem.Heap.SameBut renaming update -> acJ
open PySem.MeetsSeq2 renaming wpAny_forIn_array -> adA
open PySem.NameKind renaming free -> act, cell -> acV
open PySem.Obj renaming data_mapFields -> acX, mapSeq -> ac8
open PySem.Paired renaming length -> ad1
open PySem.PassesOwn renaming never -> aaM
open PySem.Str renaming ofString -> acm
open PySem.Value renaming ref -> aaJ, none -> abh, bool -> acr, type -> ac5, isInt_shape -> adT, int -> ad7
open PySem.W renaming Frag -> aaa, nsIn -> aax, mg_none_of -> aaP, keepIn -> aaR, findIn -> aa8, kia_one -> abi, emptyDict -> abn, mg_of -> abD, kitOne -> abK, instObj -> abM, fnOf -> abV, plainGet -> acD, makesIn -> acP, codeIn -> ac2, hasDictIn -> ac6, plainGet_of -> adt, callWith_K -> adG, lookIn -> adO, methodObj -> adU, plainOver -> adW, isFn -> ad9, takerIn -> aea, OpenLaw -> aeb
open Sum renaming inl -> ad6
open True renaming intro -> ab3
noncomputable section
set_option Elab.async false
set_option linter.all false
set_option maxRecDepth 100000
namespace L2
open PySem PySem.Spec PyProof.Rows
abbrev Key:=Sum Int Str
def UJ:Key->Value->Bool
 | .inl k,v=>Value.isInt k v
 | .inr x,v=>Value.isStrOf x v
def keyH (w:World):Key->Int
 | .inl k=>hashInt k
 | .inr x=>hashStr w x
theorem qt: ∀ {k:Key} {v:Value},UJ k v=true->(∃i t,k=ad6 i/\v=ad7 i t)\/(∃x t,k=Sum.inr x/\v=Value.str x t)
 | .inl i,v,h=>by
  obtain ⟨t,e⟩:=adT (k:=i) (v:=v) h;exact .inl ⟨i,t,rfl,e⟩
 | .inr x,v,h=>by
  obtain ⟨t,e⟩:=Value.isStrOf_shape (x:=x) (v:=v) h;exact .inr ⟨x,t,rfl,e⟩
theorem vT (i:Int) (t:Tok):UJ (.inl i) (.int i t)=true:=by simp [UJ,Value.isInt]
theorem vS (x:Str) (t:Tok):UJ (.inr x) (.str x t)=true:=by simp [UJ,Value.isStrOf]
theorem jfr (a b:Int):decide ((ad6 a:Key)=ad6 b)=(a==b):=by
 by_cases e:a=b
 · subst e;simp
 · have h: ¬(ad6 a:Key)=ad6 b:=fun q=>e (Sum.inl.inj q)
   rw [decide_eq_false h];exact (beq_eq_false_iff_ne.mpr e).symm
theorem jfo (a b:Str):decide ((Sum.inr a:Key)=Sum.inr b)=decide (a=b):=by
 by_cases e:a=b
 · subst e;simp
 · have h: ¬(Sum.inr a:Key)=Sum.inr b:=fun q=>e (Sum.inr.inj q)
   rw [decide_eq_false h,decide_eq_false e]
theorem jfq (a:Int) (b:Str):decide ((ad6 a:Key)=Sum.inr b)=false:=decide_eq_false (fun q=>nomatch q)
theorem jfp (a:Str) (b:Int):decide ((Sum.inr a:Key)=ad6 b)=false:=decide_eq_false (fun q=>nomatch q)
def qr (prog:aaD) (w:World):PySem.KeyKind prog w Key where
 is:=UJ
 hash:=keyH w
 inj:=fun v a b ha hb=>by
  rcases qt ha with ⟨i,t,rfl,rfl⟩| ⟨x,t,rfl,rfl⟩
  · rcases qt hb with ⟨j,u,rfl,e⟩| ⟨y,u,rfl,e⟩
    · injection e with e1 _;rw [e1]
    · exact nomatch e
  · rcases qt hb with ⟨j,u,rfl,e⟩| ⟨y,u,rfl,e⟩
    · exact nomatch e
    · injection e with e1 _;rw [e1]
 byValue:=fun k v h=>by
  rcases qt h with ⟨i,t,rfl,rfl⟩| ⟨x,t,rfl,rfl⟩<;>rfl
 pyHash:=fun hv h=>by
  rcases qt hv with ⟨i,t,rfl,rfl⟩| ⟨x,t,rfl,rfl⟩
  · exact wpAny_pyHash_int h
  · exact wpAny_pyHash_str h
 eqBool:=fun hu hv h=>by
  rcases qt hu with ⟨i,t,rfl,rfl⟩| ⟨x,t,rfl,rfl⟩
  · rcases qt hv with ⟨j,u,rfl,rfl⟩| ⟨y,u,rfl,rfl⟩
    · rw [jfr] at h;exact wpAny_eqBool_int h
    · rw [jfq] at h;exact SeqAt.EqAt.int_str i t y u _ _ _ _ h
  · rcases qt hv with ⟨j,u,rfl,rfl⟩| ⟨y,u,rfl,rfl⟩
    · rw [jfp] at h;exact SeqAt.EqAt.str_int x t j u _ _ _ _ h
    · rw [jfo] at h;exact wpAny_eqBool_str h
 «strs» :=fun k x t v h=>by
  rcases qt h with ⟨i,u,rfl,e⟩| ⟨y,u,rfl,e⟩
  · exact nomatch e
  · injection e with e1 _;subst e1;cases v<;>rfl
theorem Y8 (prog:aaD) (w:World) (i:Int) (t:Tok):(qr prog w).is (.inl i) (.int i t)=true:=vT i t
theorem Y7 (prog:aaD) (w:World) (x:Str) (t:Tok):(qr prog w).is (.inr x) (.str x t)=true:=vS x t
end L2
namespace L2
open PySem PySem.Spec PyProof.Rows
inductive V where
 |non|bl (b:Bool)|int (i:Int)|str (x:Str)|byt (b:Array UInt8)|flt (b:UInt64)|ref (a:Addr)|ty (n:String)
 deriving DecidableEq
def RelV:V->Value->Prop
 | .non,u=>u=abh
 | .bl b,u=>u=acr b
 | .int i,u=> ∃t,u=ad7 i t
 | .str x,u=> ∃t,u=Value.str x t
 | .byt b,u=> ∃t,u=Value.bytes b t
 | .flt b,u=> ∃t,u=Value.float b t
 | .ref a,u=>u=aaJ a
 | .ty n,u=>u=ac5 n
abbrev Vals:List V->List Value->Prop:=Paired RelV
theorem Vals.length {xs:List V} {us:List Value} (r:Vals xs us):xs.length=us.length:=ad1 r
theorem Vals.get: ∀ {xs:List V} {us:List Value} {i:Nat} {x:V},Vals xs us->xs[i]?=some x-> ∃u,us[i]?=some u/\RelV x u
 |_,_,_,_,.nil,e=>by simp at e
 |_,_,0,_,.cons r _,e=>by simp at e;subst e;exact ⟨_,rfl,r⟩
 |_,_,i+1,x,.cons _ t,e=>by
  obtain ⟨u,h1,h2⟩:=Vals.get (i:=i) (x:=x) t (by simpa using e);exact ⟨u,by simpa using h1,h2⟩
theorem Vals.append: ∀ {xs ys:List V} {us ws:List Value},Vals xs us->Vals ys ws->Vals (xs++ys) (us++ws)
 |_,_,_,_,.nil,s=>s
 |_,_,_,_,.cons r t,s=> .cons r (Vals.append t s)
theorem Vals.take: ∀ {xs:List V} {us:List Value} (n:Nat),Vals xs us->Vals (xs.take n) (us.take n)
 |_,_,0,_=> .nil
 |_,_,_+1,.nil=> .nil
 |_,_,n+1,.cons r t=> .cons r (Vals.take n t)
theorem Vals.drop: ∀ {xs:List V} {us:List Value} (n:Nat),Vals xs us->Vals (xs.drop n) (us.drop n)
 |_,_,0,r=>r
 |_,_,_+1,.nil=> .nil
 |_,_,n+1,.cons _ t=>Vals.drop n t
def RelO:Option V->Option Value->Prop
 |some v,some u=>RelV v u
 |none,none=>True
 |_,_=>False
def KV {κ:Type}:List (κ×V)->List (κ×Value)->Prop:=Paired fun (p:κ×V) (q:κ×Value)=>p.1=q.1/\RelV p.2 q.2
def kV:Key->V
 | .inl i=> .int i
 | .inr x=> .str x
inductive HO where
 |lst (xs:List V)
 |tup (xs:List V)
 |dK (kvs:List (Key×V))|dT (kvs:List (List Key×V))
 |set (S:Int->Bool) (n:Nat)
 |ins (C dx:Addr) (fs:List (Str×V))
 |own (x:Addr)
 |xd (fs:List (Str×V))
 |met (f x:Addr)
 |rng (lo hi:Int)
 |frz (o:Obj) (u:HO)
 |tbl (ps:Array Value)
 |ext (φ:Heap->Prop)
abbrev Hp:=Addr->Option HO
def upd (H:Hp) (a:Addr) (o:HO):Hp:=fun b=>if b=a then some o else H b
theorem jB {H:Hp} {a:Addr} {o:HO}:upd H a o a=some o:=by unfold upd;rw [if_pos rfl]
theorem jT {H:Hp} {a b:Addr} {o:HO} (h:b≠a):upd H a o b=H b:=by unfold upd;rw [if_neg h]
theorem jgK {H:Hp} {a b:Addr} {o u:HO} (h:H a=some o) (h':H b=some u) (d:o≠u):a≠b:=by
 intro e;subst e;rw [h] at h';exact d (aaF h')
theorem qL {H:Hp} {a b:Addr} {o:HO} (h:H a=some o) (h':H b=none):a≠b:=by
 intro e;subst e;rw [h] at h';cases h'
section
variable (P:aaD) (w:World)
def ObjOk (H:Hp) (h:Heap) (a:Addr):HO->Prop
 | .lst xs=>xs.length<=aae/\ ∃(its:List Value) (n:Nat),Vals xs its/\h.get? a=some {cls:= .type "list",data:= .seq its.toArray n}
 | .tup xs=>xs.length<=aae/\ ∃its:List Value,Vals xs its/\IsTup h a its.toArray
 | .dK kvs=>kvs.length<=aae/\(a==abR)=false/\ ∃vs,KV kvs vs/\h.DictOf (qr P w) a vs
 | .dT kvs=>kvs.length<=aae/\(a==abR)=false/\ ∃xs:List (List Key×Addr×Value),
  Paired (fun (p:List Key×V) (q:List Key×Addr×Value)=>p.1=q.1/\H q.2.1=some (.tup (p.1.map kV))/\RelV p.2 q.2.2) kvs xs/\
  ∃o es ep,h.get? a=some o/\o.ExactDict/\o.data= .dict es ep/\es.toList=xs.map (entryOfKey (tupleKind (qr P w)))/\(xs.map (·.1)).Nodup
 | .set S n=>h.SetOf (acu P w) a S n
 | .ins C dx fs=>H dx=some (.own a)/\fs.length<=1000/\dx≠a/\h.get? a=some (abM C dx)/\
  ∃mA,h.Ns1 dx mA/\(∀f,RelO (fs.lookup f) (mA f))/\PySem.Within mA (fs.map (·.1))
 | .own _=> ∃o,h.get? a=some o
 | .xd fs=> ∃mA,h.Ns1 a mA/\ ∀f,RelO (fs.lookup f) (mA f)
 | .rng lo hi=> ∃t u v,h.get? a=some {cls:= .type "range",data:= .fields #[.int lo t,.int hi u,.int 1 v]}
 | .frz o u=>h.get? a=some o/\ObjOk H h a u
 | .tbl ps=>h.get? a=some {cls:= .none,data:= .fields ps}
 | .met f x=>h.get? a=some (adU (.ref f) (.ref x))
 | .ext φ=>φ h/\(∃o,h.get? a=some o)/\ ∀h1 h2:Heap,φ h1->(∀o,h1.get? a=some o->h2.get? a=some o)->φ h2
def HOk (H:Hp) (h:Heap):Prop:= ∀a o,H a=some o->ObjOk P w H h a o
end
section
variable {P:aaD} {w:World} {H H':Hp} {h h':Heap} {a:Addr} {o:HO}
theorem ObjOk.lt (x:ObjOk P w H h a o):a<h.objs.size:=by
 cases o with
 |lst xs=>obtain ⟨_,_,_,_,e⟩:=x;exact aat e
 |tup xs=>obtain ⟨_,_,_,p⟩:=x;exact p.lt
 |dK kvs=>obtain ⟨_,_,_,_,o,_,_,e,_⟩:=x;exact aat e
 |dT kvs=>obtain ⟨_,_,_,_,o,_,_,e,_⟩:=x;exact aat e
 |set S n=>obtain ⟨o,_,_,_,e,_⟩:=x;exact aat e
 |ins C dx fs=>obtain ⟨_,_,_,e,_⟩:=x;exact aat e
 |own y=>obtain ⟨_,e⟩:=x;exact aat e
 |xd fs=>obtain ⟨_,⟨_,_,_,e,_⟩,_⟩:=x;exact aat e
 |rng lo hi=>obtain ⟨_,_,_,e⟩:=x;exact aat e
 |frz ob u=>obtain ⟨e,_⟩:=x;exact aat e
 |tbl ps=>exact aat (show h.get? a=some _ from x)
 |met f y=>exact aat (show h.get? a=some _ from x)
 |ext φ=>obtain ⟨_,⟨_,e⟩,_⟩:=x;exact aat e
theorem Paired.mapP {α β:Type} {F G:α->β->Prop}: ∀ {l₁:List α} {l₂:List β},Paired F l₁ l₂->(∀a b,F a b->G a b)->Paired G l₁ l₂
 |_,_,.nil,_=> .nil
 |_,_,.cons r t,f=> .cons (f _ _ r) (Paired.mapP t f)
theorem ObjOk.stay (x:ObjOk P w H h a o) (k: ∀b u,(b=a\/H b=some (.own a))->h.get? b=some u->h'.get? b=some u)
  (ho: ∀b,H b=some (.own a)->H' b=some (.own a)) (ht: ∀b xs,H b=some (.tup xs)->H' b=some (.tup xs)):ObjOk P w H' h' a o:=by
 induction o with
 |lst xs=>obtain ⟨z,its,n,r,e⟩:=x;exact ⟨z,its,n,r,k _ _ (.inl rfl) e⟩
 |tup xs=>obtain ⟨z,its,r,ob,e,c⟩:=x;exact ⟨z,its,r,ob,k _ _ (.inl rfl) e,c⟩
 |dK kvs=>obtain ⟨z,y,vs,r,ob,es,ep,e,c⟩:=x;exact ⟨z,y,vs,r,ob,es,ep,k _ _ (.inl rfl) e,c⟩
 |dT kvs=>
  obtain ⟨z,y,xs,r,ob,es,ep,e,c⟩:=x;exact ⟨z,y,xs,Paired.mapP r fun p q z=>⟨z.1,ht _ _ z.2.1,z.2.2⟩,ob,es,ep,k _ _ (.inl rfl) e,c⟩
 |set S n=>obtain ⟨ob,es,ep,t,e,c⟩:=x;exact ⟨ob,es,ep,t,k _ _ (.inl rfl) e,c⟩
 |ins C dx fs=>
  obtain ⟨d,z,ne,e,mA,⟨od,es,ep,e2,c⟩,r⟩:=x;exact ⟨ho _ d,z,ne,k _ _ (.inl rfl) e,mA,⟨od,es,ep,k _ _ (.inr d) e2,c⟩,r⟩
 |own y=>obtain ⟨ob,e⟩:=x;exact ⟨ob,k _ _ (.inl rfl) e⟩
 |xd fs=>obtain ⟨mA,⟨od,es,ep,e,c⟩,r⟩:=x;exact ⟨mA,⟨od,es,ep,k _ _ (.inl rfl) e,c⟩,r⟩
 |rng lo hi=>obtain ⟨t,u,v,e⟩:=x;exact ⟨t,u,v,k _ _ (.inl rfl) e⟩
 |frz ob u ih=>obtain ⟨e,q⟩:=x;exact ⟨k _ _ (.inl rfl) e,ih q⟩
 |tbl ps=>
  have e:h.get? a=some {cls:= .none,data:= .fields ps}:=x;show h'.get? a=some {cls:= .none,data:= .fields ps};exact k a _ (.inl rfl) e
 |met f y=>
  have e:h.get? a=some (adU (.ref f) (.ref y)):=x;show h'.get? a=some (adU (.ref f) (.ref y));exact k a _ (.inl rfl) e
 |ext φ=>obtain ⟨p,⟨o,e⟩,st⟩:=x;exact ⟨st _ _ p fun o q=>k _ _ (.inl rfl) q,⟨o,k _ _ (.inl rfl) e⟩,st⟩
theorem HOk.lt (x:HOk P w H h) (e:H a=some o):a<h.objs.size:=(x a o e).lt
theorem HOk.fresh (x:HOk P w H h) (e:h.objs.size<=a):H a=none:=by
 cases q:H a with
 |none=>rfl
 |some u=>exact absurd (aaB (x.lt q) e) (abU _)
theorem HOk.kept (x:HOk P w H h) (k: ∀b u,h.get? b=some u->h'.get? b=some u):HOk P w H h':=fun a o e=>
 (x a o e).stay (fun b u _ q=>k b u q) (fun _ q=>q) fun _ _ q=>q
theorem HOk.laid (x:HOk P w H h) (k: ∀b u,h.get? b=some u->h'.get? b=some u) (hp:h.objs.size<=a) (new:ObjOk P w (upd H a o) h' a o):HOk P w (upd H a o) h':=fun b u e=>by
 have hn:=x.fresh hp
 by_cases hb:b=a
 · subst hb;rw [jB] at e;cases e;exact new
 · rw [jT hb] at e;exact (x b u e).stay (fun c v _ q=>k c v q) (fun c q=>by rw [jT (qL q hn)];exact q) fun c xs q=>by rw [jT (qL q hn)];exact q
end
def Rd (H:Hp) (a:Addr) (u:HO):Prop:=H a=some u\/ ∃o,H a=some (.frz o u)
theorem Rd.of {H:Hp} {a:Addr} {u:HO} (h:H a=some u):Rd H a u:= .inl h
theorem Rd.ok {P:aaD} {w:World} {H:Hp} {h:Heap} {a:Addr} {u:HO} (r:Rd H a u) (x:HOk P w H h):ObjOk P w H h a u:=by
 rcases r with r| ⟨o,r⟩
 · exact x a u r
 · obtain ⟨_,q⟩:=x a _ r;exact q
def Mut:Option HO->Prop
 |some (.lst _)=>True
 |some (.dK _)=>True
 |some (.dT _)=>True
 |some (.set _ _)=>True
 |some (.ins _ _ _)=>True
 |some (.ext _)=>True
 |_=>False
section
variable {P:aaD} {w:World} {H:Hp} {h h':Heap} {x e:Addr} {o':HO}
theorem HOk.write (ok:HOk P w H h) (mu:Mut (H x)) (he:e=x\/H e=some (.own x)) (k: ∀b u,b≠e->h.get? b=some u->h'.get? b=some u) (heo: ∃u,h'.get? e=some u)
   (new:ObjOk P w (upd H x o') h' x o'):HOk P w (upd H x o') h':=fun b u q=>by
 have nown: ∀c y,H c=some (.own y)->c≠x:=fun c y r z=>by subst z;rw [r] at mu;exact mu
 have ntup: ∀c xs,H c=some (.tup xs)->c≠x:=fun c xs r z=>by subst z;rw [r] at mu;exact mu
 by_cases hb:b=x
 · subst hb;rw [jB] at q;cases q;exact new
 · rw [jT hb] at q
   by_cases hbe:b=e
   · have q':H b=some (.own x):=by
       rcases he with z|z
       · exact absurd (hbe.trans z) hb
       · rw [hbe];exact z
     rw [q] at q';cases q';obtain ⟨v,hv⟩:=heo;exact ⟨v,by rw [hbe];exact hv⟩
   · refine (ok b u q).stay (fun c v hc r=>k c v ?_ r) (fun c r=>by rw [jT (nown c b r)];exact r) fun c xs r=>by rw [jT (ntup c xs r)];exact r
     rcases hc with rfl|hc
     · exact hbe
     · rintro rfl;rcases he with z|z
       · exact nown c b hc z
       · rw [hc] at z;cases z;exact hb rfl
end
structure Un (fs ex:List Addr) (H H':Hp) (h h':Heap):Prop where
 keep: ∀b o,h.get? b=some o->H b=none->b∉fs->b∉ex->h'.get? b=some o
 slot: ∀b o,h.get? b=some o->H b=none->b∈fs->b∉ex-> ∃sl,h'.get? b=some {o with slots:=sl}
 free: ∀b o,h.get? b=some o->H b=none->b∉ex->H' b=none
 there: ∀b o,h.get? b=some o->b∉ex-> ∃o',h'.get? b=some o'
 tups: ∀b xs,H b=some (.tup xs)->H' b=some (.tup xs)
 frzs: ∀b o u,H b=some (.frz o u)->H' b=some (.frz o u)
 tbls: ∀b ps,H b=some (.tbl ps)-> ∃more,H' b=some (.tbl (ps++more))
section
variable {fs fs' ex ex':List Addr} {H H1 H2:Hp} {h h1 h2 h':Heap} {a x e:Addr} {o:HO}
theorem Un.any (u:Un fs ex H H1 h h1) {b:Addr} {ob:Obj} (q:h.get? b=some ob) (n:H b=none) (hx:b∉ex): ∃sl,h1.get? b=some {ob with slots:=sl}:=by
 by_cases hb:b∈fs
 · exact u.slot b ob q n hb hx
 · exact ⟨ob.slots,u.keep b ob q n hb hx⟩
theorem Un.kept (k: ∀b u,h.get? b=some u->h'.get? b=some u):Un fs ex H H h h':=
 ⟨fun b ob q _ _ _=>k b ob q,fun b ob q _ _ _=>⟨ob.slots,k b ob q⟩,fun _ _ _ n _=>n,fun b ob q _=>⟨ob,k b ob q⟩,fun _ _ q=>q,fun _ _ _ q=>q,fun _ ps q=>⟨#[],by rw [q];simp⟩⟩
theorem Un.refl:Un fs ex H H h h:=Un.kept fun _ _ q=>q
theorem Un.laid (k: ∀b u,h.get? b=some u->h'.get? b=some u) (hp:h.objs.size<=a) (hn:H a=none):Un fs ex H (upd H a o) h h' where
 keep:=fun b u q _ _ _=>k b u q
 slot:=fun b u q _ _ _=>⟨u.slots,k b u q⟩
 free:=fun b u q n _=>by rw [jT (aaG (aaB (aat q) hp))];exact n
 there:=fun b u q _=>⟨u,k b u q⟩
 tups:=fun b xs q=>by rw [jT (qL q hn)];exact q
 frzs:=fun b u xs q=>by rw [jT (qL q hn)];exact q
 tbls:=fun b ps q=>⟨#[],by rw [jT (qL q hn),q];simp⟩
theorem Un.write (mu:Mut (H x)) (he:e=x\/H e=some (.own x)) (k: ∀b u,b≠e->h.get? b=some u->h'.get? b=some u) (heo: ∃u,h'.get? e=some u):Un fs ex H (upd H x o) h h':=by
 have hx: ∀b,H b=none->b≠x:=fun b n z=>by subst z;rw [n] at mu;exact mu
 have hb: ∀b,H b=none->b≠e:=fun b n z=>by
   subst z;rcases he with r|r
   · exact hx b n r
   · rw [n] at r;cases r
 have hm: ∀b u,H b=some u-> ¬Mut (some u)->b≠x:=fun b u q nm z=>by subst z;rw [q] at mu;exact nm mu
 refine ⟨fun b u q n _ _=>k b u (hb b n) q,fun b u q n _ _=>⟨u.slots,k b u (hb b n) q⟩,fun b u q n _=>by rw [jT (hx b n)];exact n,fun b u q _=>?_,
   fun b xs q=>by rw [jT (hm b _ q fun z=>z)];exact q,fun b u xs q=>by rw [jT (hm b _ q fun z=>z)];exact q,fun b ps q=>⟨#[],by rw [jT (hm b _ q fun z=>z),q];simp⟩⟩
 by_cases hbe:b=e
 · subst hbe;exact heo
 · exact ⟨u,k b u hbe q⟩
end
def trk (h:Heap) (H:Hp):List Addr:=(abx h.objs.size).filter fun a=>(H a).isSome
def hidT (h:Heap) (H:Hp):Heap:=PySem.W.hideAll h (trk h H)
theorem uc (h:Heap) (H:Hp):(hidT h H).objs.size=h.objs.size:=PySem.W.hideAll_size _ _
theorem jbb {h:Heap} {H:Hp} {b:Addr} {o:Obj} (e:h.get? b=some o) (n:H b=none):(hidT h H).get? b=some o:=
 PySem.W.hideAll_get _ e fun hm=>by
  have q:(H b).isSome=true:=(List.mem_filter.mp hm).2;rw [n] at q;simp at q
theorem jc2 {h:Heap} {H:Hp} {b:Addr} {o:Obj} (e:(hidT h H).get? b=some o):h.get? b=some o/\H b=none:=by
 have e':h.get? b=some o:=PySem.W.of_hideAll (trk h H) e;refine ⟨e',?_⟩
 cases q:H b with
 |none=>rfl
 |some x=>
  have hm:b∈trk h H:=List.mem_filter.mpr ⟨abJ.mpr (aat e'),by simp [q]⟩;have z:(hidT h H).get? b=none:=PySem.W.hideAll_none (trk h H) hm;rw [z] at e;cases e
def jdY (g h:Heap) (L:Addr):List (Addr×Obj):=(abx h.objs.size).filterMap fun a=>if a=L\/(g.get? a).isSome=true then none else (h.get? a).map fun o=>(a,o)
def rest (g h:Heap) (L d:Addr):List (Addr×Obj):=(jdY g h L).filter fun p=>decide (p.1≠d)
end L2
namespace L2
open PySem PySem.Spec PyProof.Rows
structure Mod (K:aaa) (mg:Str->Option Value) (base:Heap):Prop where
 kin:K.In base
 glob:base.Ns aav mg
 blt: ∃mb,base.Ns builtinsNs mb/\ ∀x:Str,x≠ "__name__" ->mb x=abl x
 nolimit:base.NoLimit
structure Cx where
 prog:aaD
 w:World
 K:aaa
 mg:Str->Option Value
 base:Heap
 A:aaX
 N:List Str
 s₀:aaj
 H₀:Hp
 env:Env
 outer:List Env
 stack:List Env
 ex:List Addr
 fn:Str->Bool
 calm:Bool
 pn:List (Addr×Obj)
 xe:Value->aaj->Prop
def frs (l:List Env):List Addr:=l.filterMap (·.frame)
abbrev Cx.fs (X:Cx):List Addr:=frs X.outer
def Vis (sc:Scope) (x:Str):Prop:=sc.names.lookup x=some .local\/sc.names.lookup x=some .cell\/sc.names.lookup x=some .free
def Loc (sc:Scope) (x:Str):Prop:=sc.names.lookup x=some .local\/sc.names.lookup x=some .cell
def Look (env:Env) (h:Heap) (m:Str->Option Value) (x:Str) (u:Value):Prop:=
 (env.kindOf x=some .local/\m x=some u)\/((env.kindOf x=some .cell\/env.kindOf x=some .free)/\ ∃c,env.cells.lookup x=some c/\h.IsCell c (some u))
structure Cx.Ok (X:Cx):Prop where
 mod:Mod X.K X.mg X.base
 kind:X.env.scope.kind= .function
 glob:X.env.globals=aav
 blt:X.env.builtins=builtinsNs
 above:X.s₀.heap.objs.size<=X.env.locals
 inj: ∀x y c,X.env.cells.lookup x=some c->X.env.cells.lookup y=some c->x=y
 has: ∀x,(X.env.kindOf x=some .cell\/X.env.kindOf x=some .free)-> ∃c,X.env.cells.lookup x=some c
 cab: ∀x c,X.fn x=true->X.env.cells.lookup x=some c->X.s₀.heap.objs.size<=c
 hd:X.calm=true->X.A.handled=none
 frames:X.A.frames=some X.stack
 stk:X.stack=X.outer\/(X.stack=X.env::X.outer/\X.env.frame=some X.env.locals)
 exf: ∀b∈X.ex,b≠X.env.locals/\ ∀x c,X.env.cells.lookup x=some c->c≠b
 bs: ∀b o,X.base.get? b=some o->X.s₀.heap.get? b=some o/\X.H₀ b=none
 bsz:X.base.objs.size<=X.s₀.heap.objs.size
 noex: ∀b o,X.base.get? b=some o->b∉X.ex
 exfs: ∀b∈X.ex,b∉X.fs
 funs:X.s₀.heap.FunFrames X.base X.outer
 frf: ∀b∈X.fs,X.H₀ b=none
structure Inv (X:Cx) (pins:List (Addr×Obj)) (σ:List (Option V)) (H:Hp) (s:aaj):Prop where
 ok:X.Ok
 os:s.os=X.s₀.os
 bare:ad8 s.gens
 base:Un X.fs X.ex X.H₀ H X.s₀.heap s.heap
 loc: ∃m,s.heap.Ns X.env.locals m/\ ∀(i:Nat) (x:Str) (v:V),X.N[i]?=some x->σ[i]?=some (some v)->Vis X.env.scope x-> ∃u,RelV v u/\Look X.env s.heap m x u
 cell: ∀x c,X.env.cells.lookup x=some c-> ∃v,s.heap.IsCell c v
 free:H X.env.locals=none
 freeC: ∀x c,X.env.cells.lookup x=some c->H c=none
 pin: ∀p∈X.pn++pins,s.heap.get? p.1=some p.2/\H p.1=none/\p.1≠X.env.locals/\p.1∉X.fs/\ ∀v,p.2.data≠ .cell v
 hok:HOk X.prog X.w H s.heap
 len:σ.length=X.N.length
section
variable {X:Cx} {pins:List (Addr×Obj)} {σ:List (Option V)} {H H':Hp} {s:aaj} {h':Heap}
theorem Cx.Ok.nofr (ok:X.Ok) {b:Addr} {o:Obj} (e:X.base.get? b=some o):b∉X.fs:=fun hb=>by
 have:=(ok.funs.mem hb).1;rw [e] at this;cases this
theorem Inv.bs (I:Inv X pins σ H s): ∀b o,X.base.get? b=some o->s.heap.get? b=some o/\H b=none:=fun b o e=>
 ⟨I.base.keep b o (I.ok.bs b o e).1 (I.ok.bs b o e).2 (I.ok.nofr e) (I.ok.noex b o e),I.base.free b o (I.ok.bs b o e).1 (I.ok.bs b o e).2 (I.ok.noex b o e)⟩
theorem Inv.bk (I:Inv X pins σ H s): ∀b o,X.base.get? b=some o->s.heap.get? b=some o:=fun b o e=>(I.bs b o e).1
theorem Inv.mod (I:Inv X pins σ H s):Mod X.K X.mg X.base:=I.ok.mod
theorem Inv.kIn (I:Inv X pins σ H s):X.K.In s.heap:=I.ok.mod.kin.keeps I.bk
theorem Inv.lt (I:Inv X pins σ H s):X.env.locals<s.heap.objs.size:=let ⟨_,hn,_⟩:=I.loc;hn.lt
theorem Inv.sz (I:Inv X pins σ H s):X.s₀.heap.objs.size<=s.heap.objs.size:=aaC I.ok.above (Nat.le_of_lt I.lt)
theorem Inv.nofs (I:Inv X pins σ H s) {a:Addr} (h:s.heap.objs.size<=a):a∉X.fs:=fun hb=>by
 obtain ⟨_,o,ho,_⟩:=I.ok.funs.mem hb;exact absurd (aaB (aat ho) (aaC I.sz h)) (abU _)
theorem Inv.cne (I:Inv X pins σ H s): ∀x c,X.env.cells.lookup x=some c->c≠X.env.locals:=fun x c e z=>by
 obtain ⟨v,o,ho,hd⟩:=I.cell x c e;obtain ⟨m,⟨o',es,ep,ho',hd',_⟩,_⟩:=I.loc;rw [z,ho'] at ho;cases ho;rw [hd'] at hd;cases hd
theorem Inv.funs (I:Inv X pins σ H s):s.heap.FunFrames X.base X.outer:=by
 have all: ∀(l:List Env),(∀b∈frs l,b∈X.fs)->X.s₀.heap.FunFrames X.base l->s.heap.FunFrames X.base l:=by
  intro l
  induction l with
  |nil=>intro _ _;trivial
  |cons env r ih=>
   intro hs hl;obtain ⟨hk,⟨L,o,hf,hn,ho,hd⟩,hr⟩:=hl;have hL:L∈X.fs:=hs L (by unfold frs;rw [adp,hf];exact aa1);obtain ⟨sl,e⟩:=I.base.slot L o ho (I.ok.frf L hL) hL fun z=>I.ok.exfs L z hL
   exact ⟨hk,⟨L,_,hf,hn,e,hd⟩,ih (fun b hb=>hs b (by unfold frs;rw [adp,hf];exact aaI _ hb)) hr⟩
 exact all X.outer (fun _ hb=>hb) I.ok.funs
theorem Inv.stack (I:Inv X pins σ H s):s.heap.FunFrames X.base X.stack:=by
 rcases I.ok.stk with e| ⟨e,hf⟩
 · rw [e];exact I.funs
 · rw [e];obtain ⟨m,hn,_⟩:=I.loc;refine .cons (by rw [I.ok.kind];decide) hf hn ?_ I.funs;exact Heap.get?_none_of_le (aaC I.ok.bsz I.ok.above)
theorem Inv.stkSub (I:Inv X pins σ H s): ∀b∈frs X.stack,b∈X.env.locals::X.fs:=fun b hb=>by
 rcases I.ok.stk with e| ⟨e,hf⟩
 · rw [e] at hb;exact aaI _ hb
 · rw [e] at hb;unfold frs at hb;rw [adp,hf] at hb;exact hb
theorem Inv.stkFree (I:Inv X pins σ H s): ∀b∈frs X.stack,H b=none:=fun b hb=>by
 rcases aah.mp (I.stkSub b hb) with e|hb
 · rw [e];exact I.free
 · obtain ⟨_,o,ho,_⟩:=I.ok.funs.mem hb;exact I.base.free b o ho (I.ok.frf b hb) fun z=>I.ok.exfs b z hb
theorem Inv.step {g':Array GenState} {t':Nat} {d':Drawn} {ch:List Addr} (I:Inv X pins σ H s)
   (hch: ∀b∈ch,(b∈X.ex\/X.s₀.heap.objs.size<=b)/\b≠X.env.locals/\(∀x c,X.env.cells.lookup x=some c->c≠b)/\ ∀p∈X.pn++pins,p.1≠b)
   (keep: ∀b o,b≠X.env.locals->b∉X.fs->b∉ch->s.heap.get? b=some o->H b=none->h'.get? b=some o)
   (slot: ∀b o,b≠X.env.locals->b∈X.fs->b∉ch->s.heap.get? b=some o->H b=none-> ∃sl,h'.get? b=some {o with slots:=sl}) (free: ∀b o,b∉ch->s.heap.get? b=some o->H b=none->H' b=none)
   (there: ∀b o,b∉ch->s.heap.get? b=some o-> ∃o',h'.get? b=some o')
   (tups: ∀b xs,H b=some (.tup xs)->H' b=some (.tup xs)) (frzs: ∀b o u,H b=some (.frz o u)->H' b=some (.frz o u)) (tbls: ∀b ps,H b=some (.tbl ps)-> ∃more,H' b=some (.tbl (ps++more)))
   (ns: ∀m,s.heap.Ns X.env.locals m->h'.Ns X.env.locals m) (hok:HOk X.prog X.w H' h') (hg:ad8 g'):
   Inv X pins σ H' {s with heap:=h',gens:=g',drawn:=d',toks:=t'}:=by
 have neL: ∀b o,X.s₀.heap.get? b=some o->b≠X.env.locals:=fun b o e=>aaG (aaB (aat e) I.ok.above)
 have neC: ∀b o,X.s₀.heap.get? b=some o->b∉X.ex->b∉ch:=fun b o e hx hb=>by
   rcases (hch b hb).1 with z|z
   · exact hx z
   · exact absurd (aaB (aat e) z) (abU _)
 have cellK: ∀x c,X.env.cells.lookup x=some c-> ∀v,s.heap.IsCell c v->h'.IsCell c v:=fun x c e v ⟨o,ho,hd⟩=>by
   have nch:c∉ch:=fun z=>(hch c z).2.2.1 x c e rfl
   by_cases hc:c∈X.fs
   · obtain ⟨sl,q⟩:=slot c o (I.cne x c e) hc nch ho (I.freeC x c e);exact ⟨_,q,hd⟩
   · exact ⟨o,keep c o (I.cne x c e) hc nch ho (I.freeC x c e),hd⟩
 refine ⟨I.ok,I.os,hg,⟨fun b o e n hb hx=>?_,fun b o e n hb hx=>?_,fun b o e n hx=>?_,fun b o e hx=>?_,fun b xs e=>tups b xs (I.base.tups b xs e),fun b o xs e=>frzs b o xs (I.base.frzs b o xs e),fun b ps e=>?_⟩,?_,fun x c e=>?_,?_,fun x c e=>?_,fun p hp=>?_,hok,I.len⟩
 · exact keep b o (neL b o e) hb (neC b o e hx) (I.base.keep b o e n hb hx) (I.base.free b o e n hx)
 · obtain ⟨sl,e1⟩:=I.base.slot b o e n hb hx;obtain ⟨sl',e2⟩:=slot b _ (neL b o e) hb (neC b o e hx) e1 (I.base.free b o e n hx);exact ⟨sl',e2⟩
 · obtain ⟨o',e1⟩:=I.base.there b o e hx;exact free b o' (neC b o e hx) e1 (I.base.free b o e n hx)
 · obtain ⟨o',e1⟩:=I.base.there b o e hx;exact there b o' (neC b o e hx) e1
 · obtain ⟨m1,e1⟩:=I.base.tbls b ps e;obtain ⟨m2,e2⟩:=tbls b _ e1;exact ⟨m1++m2,by rw [e2,Array.append_assoc]⟩
 · obtain ⟨m,hn,hl⟩:=I.loc;refine ⟨m,ns m hn,fun i x v e1 e2 e3=>?_⟩;obtain ⟨u,r,l⟩:=hl i x v e1 e2 e3;refine ⟨u,r,?_⟩;rcases l with l| ⟨k,c,e,z⟩
   · exact .inl l
   · exact .inr ⟨k,c,e,cellK x c e _ z⟩
 · obtain ⟨v,z⟩:=I.cell x c e;exact ⟨v,cellK x c e v z⟩
 · obtain ⟨m,⟨o,_,_,ho,_⟩,_⟩:=I.loc;exact free _ o (fun z=>(hch _ z).2.1 rfl) ho I.free
 · obtain ⟨v,o,ho,hd⟩:=I.cell x c e;exact free c o (fun z=>(hch c z).2.2.1 x c e rfl) ho (I.freeC x c e)
 · obtain ⟨e,n,ne,nf,d⟩:=I.pin p hp;have nch:p.1∉ch:=fun z=>(hch p.1 z).2.2.2 p hp rfl
   exact ⟨keep p.1 p.2 ne nf nch e n,free p.1 p.2 nch e n,ne,nf,d⟩
theorem Inv.un {t':Nat} (I:Inv X pins σ H s) (u:Un X.fs [] H H' s.heap h') (hok:HOk X.prog X.w H' h'):Inv X pins σ H' {s with heap:=h',toks:=t'}:=by
 obtain ⟨m,⟨o,es,ep,ho,r⟩,_⟩:=id I.loc;obtain ⟨sl,hL⟩:=u.any ho I.free (by simp)
 exact I.step (g':=s.gens) (d':=s.drawn) (ch:=[]) (fun _ z=>nomatch z) (fun b o _ hb _ e n=>u.keep b o e n hb (by simp)) (fun b o _ hb _ e n=>u.slot b o e n hb (by simp)) (fun b o _ e n=>u.free b o e n (by simp)) (fun b o _ e=>u.there b o e (by simp)) u.tups u.frzs u.tbls (fun m' hm=>by
  obtain ⟨o',es',ep',ho',r'⟩:=hm;rw [ho] at ho';cases ho'
  exact ⟨_,es',ep',hL,r'⟩) hok I.bare
theorem Inv.call {g':Array GenState} {t':Nat} {d':Drawn} {ch:List Addr} (I:Inv X pins σ H s) (u:Un (frs X.stack) ch H H' s.heap h') (hok:HOk X.prog X.w H' h') (hg:ad8 g')
  (hch: ∀b∈ch,(b∈X.ex\/X.s₀.heap.objs.size<=b)/\b≠X.env.locals/\(∀x c,X.env.cells.lookup x=some c->c≠b)/\ ∀p∈X.pn++pins,p.1≠b):
  Inv X pins σ H' {s with heap:=h',gens:=g',drawn:=d',toks:=t'}:=by
 obtain ⟨m,⟨o,es,ep,ho,r⟩,_⟩:=id I.loc;obtain ⟨sl,hL⟩:=u.any ho I.free fun z=>(hch _ z).2.1 rfl
 exact I.step (ch:=ch) hch (fun b o hL hb hc e n=>u.keep b o e n (fun z=>(aah.mp (I.stkSub b z)).elim hL hb) hc) (fun b o _ _ hc e n=>u.any e n hc) (fun b o hc e n=>u.free b o e n hc) (fun b o hc e=>u.there b o e hc) u.tups u.frzs u.tbls (fun m' hm=>by
  obtain ⟨o',es',ep',ho',r'⟩:=hm;rw [ho] at ho';cases ho'
  exact ⟨_,es',ep',hL,r'⟩) hok hg
theorem Inv.turned {t':Nat} {it:Addr} (I:Inv X pins σ H s) (k: ∀b o,b≠it->s.heap.get? b=some o->h'.get? b=some o) (hn:H it=none) (hL:it≠X.env.locals)
   (h1:it∈X.ex\/X.s₀.heap.objs.size<=it) (h2: ∀x c,X.env.cells.lookup x=some c->c≠it) (h3: ∀p∈X.pn++pins,p.1≠it):Inv X pins σ H {s with heap:=h',toks:=t'}:=by
 have nit: ∀b u,H b=some u->b≠it:=fun b u e z=>by rw [z,hn] at e;cases e
 refine I.step (g':=s.gens) (d':=s.drawn) (ch:=[it]) (fun b hb=>?_) (fun b o _ _ hc e _=>k b o (fun z=>hc (by simp [z])) e) (fun b o _ _ hc e _=>⟨o.slots,k b o (fun z=>hc (by simp [z])) e⟩) (fun _ _ _ _ n=>n)
   (fun b o hc e=>⟨o,k b o (fun z=>hc (by simp [z])) e⟩) (fun _ _ e=>e) (fun _ _ _ e=>e) (fun b ps e=>⟨#[],by rw [e];simp⟩) (fun m hm=>?_) (fun b u e=>?_) I.bare
 · have e:b=it:=by simpa using hb
   subst e;exact ⟨h1,hL,h2,h3⟩
 · obtain ⟨o,es,ep,ho,r⟩:=hm;exact ⟨o,es,ep,k _ o (acF hL) ho,r⟩
 · refine (I.hok b u e).stay (fun c v hc q=>k c v ?_ q) (fun _ q=>q) fun _ _ q=>q
   rcases hc with z|z
   · rw [z];exact nit b u e
   · exact nit c _ z
theorem Inv.tok (I:Inv X pins σ H s) (t:Nat):Inv X pins σ H {s with toks:=t}:=I.un (h':=s.heap) (t':=t) Un.refl I.hok
theorem Inv.kept {t':Nat} (I:Inv X pins σ H s) (k: ∀b u,s.heap.get? b=some u->h'.get? b=some u):Inv X pins σ H {s with heap:=h',toks:=t'}:=I.un (Un.kept k) (I.hok.kept k)
theorem Inv.laid {a:Addr} {o:HO} {t':Nat} (I:Inv X pins σ H s) (k: ∀b u,s.heap.get? b=some u->h'.get? b=some u) (hp:s.heap.objs.size<=a) (new:ObjOk X.prog X.w (upd H a o) h' a o):
 Inv X pins σ (upd H a o) {s with heap:=h',toks:=t'}:=I.un (Un.laid k hp (I.hok.fresh hp)) (I.hok.laid k hp new)
theorem Inv.write {x e:Addr} {o:HO} {t':Nat} (I:Inv X pins σ H s) (mu:Mut (H x)) (he:e=x\/H e=some (.own x)) (k: ∀b u,b≠e->s.heap.get? b=some u->h'.get? b=some u) (heo: ∃u,h'.get? e=some u)
 (new:ObjOk X.prog X.w (upd H x o) h' x o):Inv X pins σ (upd H x o) {s with heap:=h',toks:=t'}:=I.un (Un.write mu he k heo) (I.hok.write mu he k heo new)
theorem Inv.pins_of {pins':List (Addr×Obj)} (I:Inv X pins σ H s) (h: ∀p∈pins',s.heap.get? p.1=some p.2/\H p.1=none/\p.1≠X.env.locals/\p.1∉X.fs/\ ∀v,p.2.data≠ .cell v):Inv X pins' σ H s:=
 ⟨I.ok,I.os,I.bare,I.base,I.loc,I.cell,I.free,I.freeC,fun p hp=>(aaL.mp hp).elim (fun z=>I.pin p (List.mem_append_left _ z)) (h p),I.hok,I.len⟩
theorem Va {N:List Str} (hN:N.Nodup) {i j:Nat} {x:Str} (a:N[i]?=some x) (b:N[j]?=some x):i=j:=by
 obtain ⟨h1,e1⟩:=aay.mp a;obtain ⟨h2,e2⟩:=aay.mp b;exact (List.getElem_inj hN).mp (e1.trans e2.symm)
theorem Xr {M:Model} {A:aaX} {E:Value->aaj->Prop} {i:Nat} {x:Str} {v:V} {u:Value} {Q:Unit->aaj->Prop} (I:Inv X pins σ H s) (hN:X.N.Nodup) (hi:X.N[i]?=some x) (hx:Loc X.env.scope x) (r:RelV v u)
   (h: ∀s',Inv X pins (σ.set i (some v)) H s'->(∃a,acK a s.heap s'.heap/\(a=X.env.locals\/X.env.cells.lookup x=some a))->Q () s') (hf:X.fn x=true\/X.env.scope.names.lookup x=some .local:=by first|exact .inl rfl|exact .inr rfl|assumption):wpAny M A (storeName X.env x u) Q E s:=by
 obtain ⟨m,hn,hl⟩:=id I.loc;have hcls:(X.env.scope.kind== .class|| (X.env.scope.kind== .module&&X.env.locals !=X.env.globals))=false:=by rw [I.ok.kind];rfl
 have hiσ:i<σ.length:=by rw [I.len];exact (aay.mp hi).1
 have cne:=I.cne
 have tracked: ∀ {a:Addr} {h':Heap},(∃o,s.heap.get? a=some o/\H a=none)->acK a s.heap h'->HOk X.prog X.w H h':=fun {a h'} ha hs b ob e=>by
   obtain ⟨_,_,hfree⟩:=ha;refine (I.hok b ob e).stay (fun c w' hc q=>(hs.2 c ?_).trans q) (fun _ q=>q) fun _ _ q=>q
   rintro rfl;rcases hc with rfl|hc
   · rw [hfree] at e;cases e
   · rw [hfree] at hc;cases hc
 rcases hx with hk|hk
 · refine wpAny_storeName_local hk hn (fun h' hn' hs=>?_) hcls;obtain ⟨oL,_,_,hoL,_⟩:=id hn;refine h _ ⟨I.ok,I.os,I.bare,⟨fun b o e n hb hx=>?_,fun b o e n hb hx=>?_,I.base.free,fun b o e hx=>?_,I.base.tups,I.base.frzs,I.base.tbls⟩,⟨_,hn',fun j y v' e1 e2 e3=>?_⟩,fun y c e=>?_,I.free,I.freeC,fun p hp=>?_,tracked ⟨oL,hoL,I.free⟩ hs,by simpa using I.len⟩ ⟨_,hs,.inl rfl⟩
   · exact (hs.2 b (aaG (aaB (aat e) I.ok.above))).trans (I.base.keep b o e n hb hx)
   · obtain ⟨sl,e1⟩:=I.base.slot b o e n hb hx;exact ⟨sl,(hs.2 b (aaG (aaB (aat e) I.ok.above))).trans e1⟩
   · obtain ⟨o',e1⟩:=I.base.there b o e hx;exact ⟨o',(hs.2 b (aaG (aaB (aat e) I.ok.above))).trans e1⟩
   · by_cases hj:j=i
     · subst hj;rw [hi] at e1;cases e1;rw [abu hiσ] at e2;cases e2;exact ⟨u,r,.inl ⟨hk,by simp⟩⟩
     · rw [adi (acF hj)] at e2;obtain ⟨u',r',q⟩:=hl j y v' e1 e2 e3;refine ⟨u',r',?_⟩;rcases q with ⟨k,e⟩| ⟨k,c,e,z⟩
       · refine .inl ⟨k,?_⟩;have:y≠x:=fun e=>hj (Va hN e1 (e▸hi))
         simp [this,e]
       · exact .inr ⟨k,c,e,z.sameBut hs (cne y c e)⟩
   · obtain ⟨w',z⟩:=I.cell y c e;exact ⟨w',z.sameBut hs (cne y c e)⟩
   · obtain ⟨e,n,ne,nf,d⟩:=I.pin p hp;exact ⟨(hs.2 p.1 ne).trans e,n,ne,nf,d⟩
 · have hfn:X.fn x=true:=by
     rcases hf with z|z
     · exact z
     · rw [z] at hk;cases hk
   obtain ⟨c,hc⟩:=I.ok.has x (.inl hk);obtain ⟨w',z⟩:=I.cell x c hc;refine wpAny_storeName_cell I.ok.kind hk hc z (fun h' hc' hs=>?_);obtain ⟨oc,hoc,hocd⟩:=id z;refine h {s with heap:=h'} ⟨I.ok,I.os,I.bare,⟨fun b o e n hb hx=>?_,fun b o e n hb hx=>?_,I.base.free,fun b o e hx=>?_,I.base.tups,I.base.frzs,I.base.tbls⟩,⟨m,hn.sameBut hs (acF (cne x c hc)),fun j y v' e1 e2 e3=>?_⟩,fun y c' e=>?_,I.free,I.freeC,fun p hp=>?_,tracked ⟨oc,hoc,I.freeC x c hc⟩ hs,by simpa using I.len⟩ ⟨c,hs,.inr hc⟩
   · exact (hs.2 b (aaG (aaB (aat e) (I.ok.cab x c hfn hc)))).trans (I.base.keep b o e n hb hx)
   · obtain ⟨sl,e1⟩:=I.base.slot b o e n hb hx;exact ⟨sl,(hs.2 b (aaG (aaB (aat e) (I.ok.cab x c hfn hc)))).trans e1⟩
   · obtain ⟨o',e1⟩:=I.base.there b o e hx;exact ⟨o',(hs.2 b (aaG (aaB (aat e) (I.ok.cab x c hfn hc)))).trans e1⟩
   · by_cases hj:j=i
     · subst hj;rw [hi] at e1;cases e1;rw [abu hiσ] at e2;cases e2;exact ⟨u,r,.inr ⟨.inl hk,c,hc,hc'⟩⟩
     · rw [adi (acF hj)] at e2;obtain ⟨u',r',q⟩:=hl j y v' e1 e2 e3;refine ⟨u',r',?_⟩;rcases q with q| ⟨k,c',e,z'⟩
       · exact .inl q
       · refine .inr ⟨k,c',e,z'.sameBut hs ?_⟩;rintro rfl;exact hj (Va hN e1 (I.ok.inj _ _ _ e hc▸hi))
   · by_cases hcc:c'=c
     · subst hcc;exact ⟨_,hc'⟩
     · obtain ⟨w2,z2⟩:=I.cell y c' e;exact ⟨w2,z2.sameBut hs hcc⟩
   · obtain ⟨e,n,ne,nf,d⟩:=I.pin p hp;refine ⟨(hs.2 p.1 ?_).trans e,n,ne,nf,d⟩;intro q;rw [q,hoc] at e;have q':oc=p.2:=aaF e;exact d w' (by rw [←q'];exact hocd)
theorem Wv {M:Model} {A:aaX} {E:Value->aaj->Prop} {i:Nat} {x:Str} {v:V} {u:Value} {Q:Unit->aaj->Prop} (I:Inv X pins σ H s) (hN:X.N.Nodup) (hi:X.N[i]?=some x) (hx:Loc X.env.scope x) (r:RelV v u)
  (h: ∀s',Inv X pins (σ.set i (some v)) H s'->Q () s') (hf:X.fn x=true\/X.env.scope.names.lookup x=some .local:=by first|exact .inl rfl|exact .inr rfl|assumption):wpAny M A (storeName X.env x u) Q E s:=
 Xr I hN hi hx r (fun s' I' _=>h s' I') hf
theorem Inv.call' {s':aaj} {ch:List Addr} (I:Inv X pins σ H s) (ho:s'.os=s.os) (u:Un (frs X.stack) ch H H' s.heap s'.heap) (hok:HOk X.prog X.w H' s'.heap) (hg:ad8 s'.gens)
  (hch: ∀b∈ch,(b∈X.ex\/X.s₀.heap.objs.size<=b)/\b≠X.env.locals/\(∀x c,X.env.cells.lookup x=some c->c≠b)/\ ∀p∈X.pn++pins,p.1≠b):Inv X pins σ H' s':=by
 obtain ⟨h',g',d',t',o'⟩:=s';have e:o'=s.os:=ho;subst e;exact I.call (g':=g') (t':=t') (d':=d') u hok hg hch
end
abbrev XK:=Value->Option Addr->Hp->Prop
abbrev St:=List (Option V)
abbrev VK:=V->Hp->Prop
abbrev TE:=St->Hp->VK->Prop
abbrev TT:=St->Hp->(Bool->Hp->Prop)->Prop
abbrev TA:=St->Hp->(List V->Hp->Prop)->Prop
structure Ends where
 nx:St->Hp->Prop
 rt:VK
 bk:St->Hp->Prop:=fun _ _=>False
 ct:St->Hp->Prop:=fun _ _=>False
abbrev TS:=Ends->St->Hp->Prop
def EP (X:Cx) (pins:List (Addr×Obj)) (σ:St) (Q:VK) (u:Value) (s':aaj):Prop:= ∃v H',Inv X pins σ H' s'/\RelV v u/\Q v H'
def TP (X:Cx) (pins:List (Addr×Obj)) (σ:St) (Q:Bool->Hp->Prop) (b:Bool) (s':aaj):Prop:= ∃H',Inv X pins σ H' s'/\Q b H'
def AP (X:Cx) (pins:List (Addr×Obj)) (σ:St) (Q:List V->Hp->Prop) (us:List Value) (s':aaj):Prop:= ∃vs H',Inv X pins σ H' s'/\Vals vs us/\Q vs H'
def SP (X:Cx) (pins:List (Addr×Obj)) (D:Ends) (f:Flow) (s':aaj):Prop:=
 match f with
 | .next=> ∃σ' H',Inv X pins σ' H' s'/\D.nx σ' H'
 | .brk=> ∃σ' H',Inv X pins σ' H' s'/\D.bk σ' H'
 | .cont=> ∃σ' H',Inv X pins σ' H' s'/\D.ct σ' H'
 | .ret u=> ∃v σ' H',Inv X pins σ' H' s'/\RelV v u/\D.rt v H'
def PE (X:Cx) (e:Expr) (t:TE):Prop:=
 ∀(pins:List (Addr×Obj)) (s:aaj) (σ:St) (H:Hp) (Q:VK),Inv X pins σ H s->t σ H Q->wpAny (model X.prog X.w) X.A (eval e X.env) (EP X pins σ Q) X.xe s
def PT (X:Cx) (e:Expr) (t:TT):Prop:=
 ∀(pins:List (Addr×Obj)) (s:aaj) (σ:St) (H:Hp) (Q:Bool->Hp->Prop),Inv X pins σ H s->t σ H Q->wpAny (model X.prog X.w) X.A (isTrue e X.env (eval e X.env)) (TP X pins σ Q) X.xe s
def PW (X:Cx) (e:Expr) (t:TT):Prop:=
 ∀(whole:Sem Value) (pins:List (Addr×Obj)) (s:aaj) (σ:St) (H:Hp) (Q:Bool->Hp->Prop),Inv X pins σ H s->t σ H Q->wpAny (model X.prog X.w) X.A (isTrue e X.env whole) (TP X pins σ Q) X.xe s
theorem PW.pt {X:Cx} {e:Expr} {t:TT} (h:PW X e t):PT X e t:=h _
def PA (X:Cx) (es:List Expr) (t:TA):Prop:=
 ∀(pos:Pos) (pins:List (Addr×Obj)) (s:aaj) (σ:St) (H:Hp) (Q:List V->Hp->Prop),Inv X pins σ H s->t σ H Q->wpAny (model X.prog X.w) X.A (spliced (abd pos (aal es X.env))) (AP X pins σ Q) X.xe s
def PS (X:Cx) (st:Stmt) (t:TS):Prop:=
 ∀(pins:List (Addr×Obj)) (s:aaj) (σ:St) (H:Hp) (D:Ends),Inv X pins σ H s->t D σ H->wpAny (model X.prog X.w) X.A (exec st X.env) (SP X pins D) X.xe s
def PSs (X:Cx) (st:List Stmt) (t:TS):Prop:=
 ∀(pins:List (Addr×Obj)) (s:aaj) (σ:St) (H:Hp) (D:Ends),Inv X pins σ H s->t D σ H->wpAny (model X.prog X.w) X.A (execs st X.env) (SP X pins D) X.xe s
theorem thn {α:Type} {t:Sem α} {Q Q':α->aaj->Prop} {M:Model} {A:aaX} {E:Value->aaj->Prop} {s:aaj} (h:wpAny M A t Q E s) (hQ: ∀a s,Q a s->Q' a s):wpAny M A t Q' E s:=acb h hQ fun _ _ x=>x
end L2
namespace L2
open PySem PySem.Spec PyProof.Rows
section
variable {X:Cx}
def tVar (i:Nat):TE:=fun σ H Q=> ∃v,σ[i]?=some (some v)/\Q v H
def tC (v:V):TE:=fun _ H Q=>Q v H
theorem wu {i:Nat} {x:Str} {pos:Pos} (hN:X.N[i]?=some x) (hv:Vis X.env.scope x) (hd:(x==("__debug__" :Str))=false:=by decide) (hcd:(x==("__classdict__" :Str))=false:=by decide):PE X (.Name x pos) (tVar i):=by
 intro pins s σ H Q I h;obtain ⟨v,e,h⟩:=h;obtain ⟨m,hn,hl⟩:=I.loc;obtain ⟨u,r,l⟩:=hl i x v hN e hv;have fin:EP X pins σ Q u s:=⟨v,H,I,r,h⟩
 rcases l with ⟨hk,hm⟩| ⟨hk,c,hc,hcell⟩
 · exact wpAny_Name (wpAny_loadName_local I.ok.kind hk hn hm fin) hd
 · rcases hk with hk|hk
   · exact wpAny_Name (wpAny_loadName_cell I.ok.kind hk hc hcell fin) hd
   · exact wpAny_Name (wpAny_loadName_free I.ok.kind hk hc hcell fin hcd) hd
theorem jeD {i j pos}:PE X (.Constant (.int i) j pos) (tC (.int i)):=fun _ _ _ H _ I h=>wpAny_Constant_int ⟨.int i,H,I.tok _,⟨_,rfl⟩,h⟩
theorem jgz {b j pos}:PE X (.Constant (.bool b) j pos) (tC (.bl b)):=fun _ _ _ H _ I h=>Constant_bool ⟨.bl b,H,I,rfl,h⟩
theorem jb4 {j pos}:PE X (.Constant .none j pos) (tC .non):=fun _ _ _ H _ I h=>Constant_none ⟨.non,H,I,rfl,h⟩
theorem jez {x j pos}:PE X (.Constant (.str x) j pos) (tC (.str x)):=fun _ _ _ H _ I h=>Calls.Constant_str ⟨.str x,H,I.tok _,⟨_,rfl⟩,h⟩
def Gl (X:Cx) (x:Str):Prop:=X.env.kindOf x=some .globalImplicit
theorem Ke {E:Value->aaj->Prop} {pins:List (Addr×Obj)} {s:aaj} {σ:St} {H:Hp} {x:Str} {u:Value} {pos:Pos} {Q:Value->aaj->Prop} (I:Inv X pins σ H s) (hg:Gl X x) (hm:X.mg x=some u) (h:Q u s)
  (hd:(x==("__debug__" :Str))=false:=by decide):wpAny (model X.prog X.w) X.A (eval (.Name x pos) X.env) Q E s:=
 Calls.Name_function_global I.ok.kind hg (Calls.loadGlobal_global (by rw [I.ok.glob];exact I.mod.glob.keeps I.bk) hm h) hd
theorem Jq {E:Value->aaj->Prop} {pins:List (Addr×Obj)} {s:aaj} {σ:St} {H:Hp} {x:Str} {u:Value} {pos:Pos} {Q:Value->aaj->Prop} (I:Inv X pins σ H s) (hg:Gl X x) (hm:X.mg x=none) (hv:abl x=some u) (h:Q u s)
  (hn:x≠ "__name__" :=by decide) (hd:(x==("__debug__" :Str))=false:=by decide):wpAny (model X.prog X.w) X.A (eval (.Name x pos) X.env) Q E s:=by
 obtain ⟨mb,h1,h2⟩:=I.mod.blt;exact Calls.Name_function_global I.ok.kind hg (Calls.loadGlobal_builtin (by rw [I.ok.glob];exact I.mod.glob.keeps I.bk) hm (by rw [I.ok.blt];exact h1.keeps I.bk) ((h2 x hn).trans hv) h) hd
theorem ve {x:Str} {v:V} {u:Value} {pos:Pos} (hg:Gl X x) (hm:X.mg x=some u) (r:RelV v u) (hd:(x==("__debug__" :Str))=false:=by decide):PE X (.Name x pos) (tC v):=
 fun _ _ _ H _ I h=>Ke I hg hm ⟨v,H,I,r,h⟩ hd
theorem jcS {x:Str} {v:V} {u:Value} {pos:Pos} (hg:Gl X x) (hm:X.mg x=none) (hv:abl x=some u) (r:RelV v u) (hn:x≠ "__name__" :=by decide) (hd:(x==("__debug__" :Str))=false:=by decide):PE X (.Name x pos) (tC v):=
 fun _ _ _ H _ I h=>Jq I hg hm hv ⟨v,H,I,r,h⟩ hn hd
variable {a b:Expr} {ta tb:TE} {pos:Pos}
def tB (t:TE):TT:=fun σ H Q=>t σ H fun x H1=> ∃c,x= .bl c/\Q c H1
theorem kR {e:Expr} {t:TE} (h:PE X e t) (he: ∀whole,isTrue e X.env whole=(do let v←whole;adN e.pos;adq [v] (truthy v)):=by intro _;rfl):PT X e (tB t):=by
 intro pins s σ H Q I hw;refine isTrue_plain (thn (h pins s σ H _ I hw) fun v s1 ⟨x,H1,I1,r1,q1⟩=>?_) (he _);obtain ⟨d,rfl,q⟩:=q1;cases r1;exact abm ⟨H1,I1,q⟩
variable {tA tB':TT} {rest:List Expr}
def tAnd (t u:TT):TT:=fun σ H Q=>t σ H fun c H1=>if c=true then u σ H1 Q else Q false H1
def tOr (t u:TT):TT:=fun σ H Q=>t σ H fun c H1=>if c=true then Q true H1 else u σ H1 Q
def tNot (t:TT):TT:=fun σ H Q=>t σ H fun c H1=>Q (!c) H1
theorem jcK (ha:PT X a tA):PW X (.BoolOp .And [a] pos) tA:=by
 intro wh pins s σ H Q I h;refine isTrue_and (thn (ha pins s σ H Q I h) fun c s1 e=>?_)
 cases c with
 |true=>exact isTrue_and_nil e
 |false=>exact e
theorem jep (ha:PT X a tA):PW X (.BoolOp .Or [a] pos) tA:=by
 intro wh pins s σ H Q I h;refine isTrue_or (thn (ha pins s σ H Q I h) fun c s1 e=>?_)
 cases c with
 |false=>exact isTrue_or_nil e
 |true=>exact e
theorem jeq (ha:PT X a tA) (hb:PW X (.BoolOp .And (b::rest) pos) tB'):PW X (.BoolOp .And (a::b::rest) pos) (tAnd tA tB'):=by
 intro wh pins s σ H Q I h;refine isTrue_and (thn (ha pins s σ H _ I h) fun c s1 ⟨H1,I1,q1⟩=>?_)
 cases c with
 |true=>exact hb wh pins s1 σ H1 Q I1 q1
 |false=>exact ⟨H1,I1,q1⟩
theorem jgw (ha:PT X a tA) (hb:PW X (.BoolOp .Or (b::rest) pos) tB'):PW X (.BoolOp .Or (a::b::rest) pos) (tOr tA tB'):=by
 intro wh pins s σ H Q I h;refine isTrue_or (thn (ha pins s σ H _ I h) fun c s1 ⟨H1,I1,q1⟩=>?_)
 cases c with
 |true=>exact ⟨H1,I1,q1⟩
 |false=>exact hb wh pins s1 σ H1 Q I1 q1
theorem jbZ (ha:PT X a tA):PT X (.UnaryOp .Not a pos) (tNot tA):=by
 intro pins s σ H Q I h;exact isTrue_not (ha pins s σ H (fun c H1=>Q (!c) H1) I h)
def jgq (ta tb:TE):TE:=fun σ H Q=>ta σ H fun x H1=> ∃c,x= .bl c/\if c=true then tb σ H1 Q else Q (.bl false) H1
def jgj (ta:TE):TE:=fun σ H Q=>ta σ H fun x H1=> ∃c,x= .bl c/\Q (.bl (!c)) H1
theorem jeA {op} {t:TE} (h:PE X a t):PE X (.BoolOp op [a] pos) t:=fun pins s σ H Q I hw=>BoolOp_one (h pins s σ H Q I hw)
theorem jeF (ha:PE X a ta) (hb:PE X (.BoolOp .And (b::rest) pos) tb):PE X (.BoolOp .And (a::b::rest) pos) (jgq ta tb):=by
 intro pins s σ H Q I h;refine BoolOp_and (thn (ha pins s σ H _ I h) fun v s1 ⟨x,H1,I1,r1,q1⟩=>?_);obtain ⟨c,rfl,q1⟩:=q1;cases r1;refine abm ?_
 cases c with
 |true=>exact hb pins s1 σ H1 Q I1 q1
 |false=>exact ⟨.bl false,H1,I1,rfl,q1⟩
theorem jeB (ha:PE X a ta):PE X (.UnaryOp .Not a pos) (jgj ta):=by
 intro pins s σ H Q I h;refine UnaryOp_ (thn (ha pins s σ H _ I h) fun v s1 ⟨x,H1,I1,r1,q1⟩=>?_);obtain ⟨c,rfl,q1⟩:=q1;cases r1;exact not_of (abm ⟨.bl (!c),H1,I1,rfl,q1⟩)
def tIf (t:TT) (ta tb:TE):TE:=fun σ H Q=>t σ H fun c H1=>if c=true then ta σ H1 Q else tb σ H1 Q
theorem K4 {c:Expr} (hc:PT X c tA) (ha:PE X a ta) (hb:PE X b tb):PE X (.IfExp c a b pos) (tIf tA ta tb):=by
 intro pins s σ H Q I h;refine wpAny_IfExp (thn (hc pins s σ H _ I h) fun d s1 ⟨H1,I1,q1⟩=>?_)
 cases d with
 |true=>exact ha pins s1 σ H1 Q I1 q1
 |false=>exact hb pins s1 σ H1 Q I1 q1
end
end L2
namespace L2
open PySem PySem.Spec PyProof.Rows
def SqL (K:aaa) (H:Hp) (a:Addr) (xs:List V):Prop:=
 Rd H a (.lst xs)\/
  ∃(o:Obj) (its:Array Value) (n:Nat),K.lookup a=some o/\o.cls= .type "list" /\o.dict=none/\o.data= .seq its n/\its.size<=aae/\Vals xs its.toList
def SqT (K:aaa) (H:Hp) (a:Addr) (xs:List V):Prop:=
 Rd H a (.tup xs)\/
  ∃(o:Obj) (its:Array Value) (n:Nat),K.lookup a=some o/\o.cls= .type "tuple" /\o.data= .seq its n/\its.size<=aae/\Vals xs its.toList
def absV:Value->Option V
 | .none=>some .non
 | .bool b=>some (.bl b)
 | .int i _=>some (.int i)
 | .str x _=>some (.str x)
 | .bytes b _=>some (.byt b)
 | .float b _=>some (.flt b)
 | .ref a=>some (.ref a)
 | .type n=>some (.ty n)
 |_=>none
theorem RelV.abs {x:V} {u:Value} (r:RelV x u):absV u=some x:=by
 cases x with
 |non=>cases r;rfl
 |bl _=>cases r;rfl
 |int _=>obtain ⟨t,rfl⟩:=r;rfl
 |str _=>obtain ⟨t,rfl⟩:=r;rfl
 |byt _=>obtain ⟨t,rfl⟩:=r;rfl
 |flt _=>obtain ⟨t,rfl⟩:=r;rfl
 |ref _=>cases r;rfl
 |ty _=>cases r;rfl
theorem RelV.inj {x y:V} {u:Value} (r:RelV x u) (q:RelV y u):x=y:=aaF (r.abs.symm.trans q.abs)
theorem Vals.inj: ∀ {xs ys:List V} {us:List Value},Vals xs us->Vals ys us->xs=ys
 |_,_,_,.nil,.nil=>rfl
 |_,_,_,.cons r t,.cons r' t'=>by rw [r.inj r',Vals.inj t t']
section
variable {X:Cx} {pins:List (Addr×Obj)} {σ:St} {H:Hp} {s:aaj} {a:Addr} {xs ys:List V}
theorem SqL.of {K:aaa} (h:H a=some (.lst xs)):SqL K H a xs:= .inl (.inl h)
theorem SqT.of {K:aaa} (h:H a=some (.tup xs)):SqT K H a xs:= .inl (.inl h)
theorem Inv.list (I:Inv X pins σ H s) (h:SqL X.K H a xs): ∃its:List Value,Vals xs its/\PlainL s.heap a its.toArray/\xs.length<=aae:=by
 rcases h with h| ⟨o,its,n,hk,hc,hd,hs,hz,r⟩
 · obtain ⟨z,its,n,r,e⟩:=h.ok I.hok;exact ⟨its,r,⟨_,n,e,rfl,rfl,rfl⟩,z⟩
 · refine ⟨its.toList,r,⟨o,n,I.kIn a o hk,hc,hd,by simpa using hs⟩,?_⟩;have e:=r.length;simp only [aby] at e;omega
theorem Inv.tuple (I:Inv X pins σ H s) (h:SqT X.K H a xs): ∃its:List Value,Vals xs its/\IsTup s.heap a its.toArray/\xs.length<=aae:=by
 rcases h with h| ⟨o,its,n,hk,hc,hs,hz,r⟩
 · obtain ⟨z,its,r,p⟩:=h.ok I.hok;exact ⟨its,r,p,z⟩
 · refine ⟨its.toList,r,⟨o,I.kIn a o hk,hc,n,by simpa using hs⟩,?_⟩;have e:=r.length;simp only [aby] at e;omega
theorem Inv.list_inj (I:Inv X pins σ H s) (h:SqL X.K H a xs) (h':SqL X.K H a ys):xs=ys:=by
 obtain ⟨its,r,⟨o,n,e,_,_,d⟩,_⟩:=I.list h;obtain ⟨its',r',⟨o',n',e',_,_,d'⟩,_⟩:=I.list h';rw [e] at e';cases e';rw [d] at d';injection d' with d1 _;have:its=its':=by simpa using congrArg Array.toList d1
 subst this;exact r.inj r'
theorem Inv.tuple_inj (I:Inv X pins σ H s) (h:SqT X.K H a xs) (h':SqT X.K H a ys):xs=ys:=by
 obtain ⟨its,r,⟨o,e,_,n,d⟩,_⟩:=I.tuple h;obtain ⟨its',r',⟨o',e',_,n',d'⟩,_⟩:=I.tuple h';rw [e] at e';cases e';rw [d] at d';injection d' with d1 _;have:its=its':=by simpa using congrArg Array.toList d1
 subst this;exact r.inj r'
end
abbrev Cx.wish (X:Cx) (E:Value->aaj->Prop):Cx:={X with xe:=E}
abbrev Cx.nox (X:Cx):Cx:=X.wish fun _ _=>False
theorem Cx.Ok.wish {X:Cx} (ok:X.Ok) (E:Value->aaj->Prop):(X.wish E).Ok:=
 ⟨ok.mod,ok.kind,ok.glob,ok.blt,ok.above,ok.inj,ok.has,ok.cab,ok.hd,ok.frames,ok.stk,ok.exf,ok.bs,ok.bsz,ok.noex,ok.exfs,ok.funs,ok.frf⟩
theorem Cx.Ok.unwish {X:Cx} {E:Value->aaj->Prop} (ok:(X.wish E).Ok):X.Ok:=
 ⟨ok.mod,ok.kind,ok.glob,ok.blt,ok.above,ok.inj,ok.has,ok.cab,ok.hd,ok.frames,ok.stk,ok.exf,ok.bs,ok.bsz,ok.noex,ok.exfs,ok.funs,ok.frf⟩
section
variable {X:Cx} {pins:List (Addr×Obj)} {σ:St} {H:Hp} {s:aaj} {E:Value->aaj->Prop}
theorem Inv.wish (I:Inv X pins σ H s) (E:Value->aaj->Prop):Inv (X.wish E) pins σ H s:=⟨I.ok.wish E,I.os,I.bare,I.base,I.loc,I.cell,I.free,I.freeC,I.pin,I.hok,I.len⟩
theorem Inv.unwish (I:Inv (X.wish E) pins σ H s):Inv X pins σ H s:=⟨I.ok.unwish,I.os,I.bare,I.base,I.loc,I.cell,I.free,I.freeC,I.pin,I.hok,I.len⟩
theorem SP.unwish {D:Ends} {f:Flow} {s':aaj} (h:SP (X.wish E) pins D f s'):SP X pins D f s':=by
 cases f with
 |next=>obtain ⟨σ',H',I,q⟩:=h;exact ⟨σ',H',I.unwish,q⟩
 |brk=>obtain ⟨σ',H',I,q⟩:=h;exact ⟨σ',H',I.unwish,q⟩
 |cont=>obtain ⟨σ',H',I,q⟩:=h;exact ⟨σ',H',I.unwish,q⟩
 |ret u=>obtain ⟨v,σ',H',I,r,q⟩:=h;exact ⟨v,σ',H',I.unwish,r,q⟩
theorem PSs.nox {st:List Stmt} {t:TS} (h:PSs X.nox st t):PSs X st t:=fun pins s σ H D I hw=>
 acb (h pins s σ H D (I.wish _) hw) (fun _ _ q=>q.unwish) fun _ _ z=>abS z
end
section
variable {X:Cx} {st:Stmt} {rest:List Stmt} {t u:TS} {e:Expr} {te:TE} {pos:Pos}
def jgk:TS:=fun D σ H=>D.nx σ H
def tSeq (t u:TS):TS:=fun D σ H=>t {D with nx:=u D} σ H
theorem YL:PSs X [] jgk:=fun _ _ σ H _ I h=>adr ⟨σ,H,I,h⟩
theorem WE (h1:PS X st t) (h2:PSs X rest u):PSs X (st::rest) (tSeq t u):=by
 intro pins s σ H D I h;refine wpAny_execs_cons (thn (h1 pins s σ H {D with nx:=u D} I h) fun f s1 q=>?_)
 cases f with
 |next=>
  obtain ⟨σ',H',I',q⟩:=q;exact h2 pins s1 σ' H' D I' q
 |ret v=>exact q
 |brk=>exact q
 |cont=>exact q
theorem YK (h1:PS X st t):PSs X [st] t:=by
 intro pins s σ H D I h;refine wpAny_execs_cons (thn (h1 pins s σ H D I h) fun f s1 q=>?_)
 cases f with
 |next=>exact adr q
 |ret v=>exact q
 |brk=>exact q
 |cont=>exact q
theorem Inv.quiet {pins:List (Addr×Obj)} {σ:St} {H:Hp} {s:aaj} (I:Inv X pins σ H s):interactive X.env=false:=by simp [interactive,I.ok.kind]
def jgm (te:TE):TS:=fun D σ H=>te σ H fun _ H1=>D.nx σ H1
theorem YM (he:PE X e te) (hs:ab1 e none pos.line X.env=pure false:=by rfl):PS X (.Expr e pos) (jgm te):=by
 intro pins s σ H D I h;exact wpAny_Expr_any (thn (he pins s σ H _ I h) fun v s1 ⟨x,H1,I1,r1,q1⟩=>⟨σ,H1,I1,q1⟩) I.quiet hs
def tRet (te:TE):TS:=fun D σ H=>te σ H D.rt
theorem Z5 (he:PE X e te):PS X (.Return (some e) pos) (tRet te):=by
 intro pins s σ H D I h;exact wpAny_Return_some (thn (he pins s σ H _ I h) fun v s1 ⟨x,H1,I1,r1,q1⟩=>⟨x,σ,H1,I1,r1,q1⟩)
def tIfS (c:TT) (t u:TS):TS:=fun D σ H=>c σ H fun b H1=>if b=true then t D σ H1 else u D σ H1
theorem kU {c:Expr} {a b:List Stmt} {tc:TT} (hc:PT X c tc) (ha:PSs X a t) (hb:PSs X b u):PS X (.If c a b pos) (tIfS tc t u):=by
 intro pins s σ H D I h;refine wpAny_If (thn (hc pins s σ H _ I h) fun d s1 ⟨H1,I1,q1⟩=>?_)
 cases d with
 |true=>exact ha pins s1 σ H1 D I1 q1
 |false=>exact hb pins s1 σ H1 D I1 q1
def jeb:TS:=fun _ _ _=>False
theorem kT {sts:List Stmt}:PSs X sts jeb:=fun _ _ _ _ _ _ h=>h.elim
end
abbrev TG:=V->St->Hp->(St->Hp->Prop)->Prop
abbrev TGs:=List V->St->Hp->(St->Hp->Prop)->Prop
def PG (X:Cx) (target:Expr) (t:TG):Prop:=
 ∀(pins:List (Addr×Obj)) (s:aaj) (σ:St) (H:Hp) (v:V) (u:Value) (Q:St->Hp->Prop),Inv X pins σ H s->RelV v u->t v σ H Q->
  wpAny (model X.prog X.w) X.A (ad4 target X.env u) (fun _ s'=> ∃σ' H',Inv X pins σ' H' s'/\Q σ' H') X.xe s
def PGs (X:Cx) (ts:List Expr) (t:TGs):Prop:=
 ∀(pins:List (Addr×Obj)) (s:aaj) (σ:St) (H:Hp) (vs:List V) (us:List Value) (Q:St->Hp->Prop),Inv X pins σ H s->Vals vs us->t vs σ H Q->
  wpAny (model X.prog X.w) X.A (assignInOrder ((abe ts X.env).map (·.2)) us) (fun _ s'=> ∃σ' H',Inv X pins σ' H' s'/\Q σ' H') X.xe s
abbrev TIp:=V->V->Hp->VK->Prop
def PIp (X:Cx) (op:ad2) (t:TIp):Prop:=
 ∀(pins:List (Addr×Obj)) (s:aaj) (σ:St) (H:Hp) (x y:V) (v u:Value) (Q:VK),Inv X pins σ H s->RelV x v->RelV y u->t x y H Q->
  wpAny (model X.prog X.w) X.A (inplaceOp op v u) (EP X pins σ Q) X.xe s
section
variable {X:Cx} {pos:Pos}
def jfD (i:Nat):TG:=fun v σ H Q=>Q (σ.set i (some v)) H
theorem vc {i:Nat} {x:Str} (hN:X.N.Nodup) (hi:X.N[i]?=some x) (hx:Loc X.env.scope x) (hf:X.fn x=true\/X.env.scope.names.lookup x=some .local:=by first|exact .inl rfl|exact .inr rfl|assumption):PG X (.Name x pos) (jfD i):=by
 intro pins s σ H v u Q I r h;exact wpAny_assign_Name (Wv I hN hi hx r (fun s' I'=>⟨_,H,I',h⟩) hf)
def gNil:TGs:=fun vs σ H Q=>vs=[]/\Q σ H
def jgS (t:TG) (u:TGs):TGs:=fun vs σ H Q=> ∃v r,vs=v::r/\t v σ H fun σ' H'=>u r σ' H' Q
theorem k9:PGs X [] gNil:=by
 intro pins s σ H vs us Q I r h;obtain ⟨e,h⟩:=h;subst e;cases r;exact assignInOrder_nil ⟨σ,H,I,h⟩
theorem QA {e:Expr} {es:List Expr} {t:TG} {u:TGs} (h1:PG X e t) (h2:PGs X es u)
  (hs:(abe (e::es) X.env).map (·.2)=ad4 e X.env::(abe es X.env).map (·.2):=by rfl):PGs X (e::es) (jgS t u):=by
 intro pins s σ H vs us Q I r h;obtain ⟨v,vr,e1,h⟩:=h;subst e1
 cases r with
 |cons r rr=>
  rw [hs];refine assignInOrder_cons (thn (h1 pins s σ H _ _ _ I r h) fun _ s1 ⟨σ1,H1,I1,q1⟩=>?_);exact h2 pins s1 σ1 H1 _ _ Q I1 rr q1
def gTup (K:aaa) (n:Nat) (t:TGs):TG:=fun v σ H Q=> ∃a xs,v= .ref a/\SqT K H a xs/\xs.length=n/\t xs σ H Q
theorem jb3 {es:List Expr} {k:Nat} {t:TGs} {n:Nat} (hc:X.calm=true) (h:PGs X es t)
  (hn:(abe es X.env).length=n:=by rfl) (hst:(abe es X.env).findIdx? (·.1)=none:=by rfl):PG X (.Tuple es k pos) (gTup X.K n t):=by
 intro pins s σ H v u Q I r hw;obtain ⟨a,xs,e1,hq,hl,hw⟩:=hw;subst e1;cases r;obtain ⟨its,rv,ht,hz⟩:=I.tuple hq;refine assign_Tuple_tuple (I.ok.hd hc) ht (by simp [hn,←hl,rv.length]) hst fun h' hx=>?_
 have I1:Inv X pins σ H {s with heap:=h'}:=I.kept (t':=s.toks) fun b o e=>hx b o (aaG (aat e)) e
 exact h pins _ σ H xs _ Q I1 (by simpa using rv) hw
def tAsg (te:TE) (g:TG):TS:=fun D σ H=>te σ H fun x H1=>g x σ H1 D.nx
theorem jb2 {tg e:Expr} {te:TE} {g:TG} (he:PE X e te) (hg:PG X tg g) (hs:swapsWithSole [tg] e pos.line X.env=pure false:=by rfl) (hw:swappedStores [tg] e X.env=pure none:=by rfl)
  (h1:(abe [tg] X.env).map (·.2)=[ad4 tg X.env]:=by rfl):PS X (.Assign [tg] e pos) (tAsg te g):=by
 intro pins s σ H D I h;refine wpAny_Assign_stores (thn (he pins s σ H _ I h) fun v s1 ⟨x,H1,I1,r1,q1⟩=>?_) hs hw;rw [h1];exact thn (hg pins s1 σ H1 x v _ I1 r1 q1) fun _ s2 q=>q
theorem jb0 {i:Nat} {x:Str} {e:Expr} {te:TE} {pos':Pos} (hN:X.N.Nodup) (hi:X.N[i]?=some x) (hx:Loc X.env.scope x) (he:PE X e te) (hs:ab1 e (some (.Name x pos')) pos.line X.env=pure false:=by rfl) (hf:X.fn x=true\/X.env.scope.names.lookup x=some .local:=by first|exact .inl rfl|exact .inr rfl|assumption):
  PS X (.Assign [.Name x pos'] e pos) (tAsg te (jfD i)):=by
 intro pins s σ H D I h;refine wpAny_Assign_Name (thn (he pins s σ H _ I h) fun v s1 ⟨y,H1,I1,r1,q1⟩=>?_) hs;exact Wv I1 hN hi hx r1 (fun s2 I2=>⟨_,H1,I2,q1⟩) hf
def tAug (i:Nat) (te:TE) (ti:TIp):TS:=fun D σ H=> ∃x,σ[i]?=some (some x)/\te σ H fun y H1=>ti x y H1 fun z H2=>D.nx (σ.set i (some z)) H2
theorem jev {i:Nat} {x:Str} {e:Expr} {te:TE} {op:ad2} {ti:TIp} {pos':Pos} (hN:X.N.Nodup) (hi:X.N[i]?=some x) (hx:Loc X.env.scope x) (he:PE X e te) (ho:PIp X op ti) (hf:X.fn x=true\/X.env.scope.names.lookup x=some .local:=by first|exact .inl rfl|exact .inr rfl|assumption):
   PS X (.AugAssign (.Name x pos') op e pos) (tAug i te ti):=by
 intro pins s σ H D I h;obtain ⟨v,e1,h⟩:=h;obtain ⟨m,hn,hl⟩:=I.loc;have vis:Vis X.env.scope x:=by rcases hx with k|k;exact .inl k;exact .inr (.inl k)
 obtain ⟨u,r,l⟩:=hl i x v hi e1 vis;refine wpAny_AugAssign_Name ?_
 have go:wpAny (model X.prog X.w) X.A (eval e X.env) (fun w s₂=>wpAny (model X.prog X.w) X.A (inplaceOp op u w) (fun r s₃=>wpAny (model X.prog X.w) X.A (storeName X.env x r) (fun _=>SP X pins D .next) X.xe s₃) X.xe s₂) X.xe s:=by
   refine thn (he pins s σ H _ I h) fun w s1 ⟨y,H1,I1,r1,q1⟩=>?_
   refine thn (ho pins s1 σ H1 v y u w _ I1 r r1 q1) fun z s2 ⟨zv,H2,I2,r2,q2⟩=>?_
   exact Wv I2 hN hi hx r2 (fun s3 I3=>⟨_,H2,I3,q2⟩) hf
 rcases l with ⟨hk,hm⟩| ⟨hk,c,hc,hcell⟩
 · exact wpAny_loadName_local I.ok.kind hk hn hm go
 · rcases hk with hk|hk
   · exact wpAny_loadName_cell I.ok.kind hk hc hcell go
   · rcases hx with k|k
     · have:X.env.scope.names.lookup x=some .free:=hk;rw [k] at this;cases this
     · have:X.env.scope.names.lookup x=some .free:=hk;rw [k] at this;cases this
def ipI (f:Int->Int->Int):TIp:=fun x y H Q=> ∃i j,x= .int i/\y= .int j/\Q (.int (f i j)) H
theorem jcd:PIp X .Add (ipI fun i j=>i+j):=by
 intro pins s σ H x y v u Q I r1 r2 h;obtain ⟨i,j,e1,e2,q⟩:=h;subst e1;subst e2;obtain ⟨t,rfl⟩:=r1;obtain ⟨t',rfl⟩:=r2;exact iadd_int ⟨.int _,H,I.tok _,⟨_,rfl⟩,q⟩
end
section
variable {X:Cx} {pos:Pos}
def jea (c:TT) (tb:TS):TS:=fun D σ H=> ∃W:Nat->St->Hp->Prop,(∃m,W m σ H)/\ ∀m σ H,W m σ H->
 c σ H fun b H1=>if b=true then∃N:St->Hp->Prop,(∀σ' H',N σ' H'-> ∃m',m'<m/\W m' σ' H')/\tb {D with nx:=N,ct:=N,bk:=D.nx} σ H1 else D.nx σ H1
theorem jav {c:Expr} {body:List Stmt} {tc:TT} {tb:TS} (hp:PassesOwn (model X.prog X.w) X.A X.env X.xe) (hc:PT X c tc) (hb:PSs X body tb):PS X (.While c body [] pos) (jea tc tb):=by
 intro pins s σ H D I h;obtain ⟨W,⟨m0,w0⟩,turn⟩:=h;refine wpAny_While (codeAny_whileLoop (fun n s'=> ∃σ' H',Inv X pins σ' H' s'/\W n σ' H') ?_ m0 ⟨σ,H,I,w0⟩);rintro n s1 ⟨σ1,H1,I1,w1⟩;refine ab2 hp (thn (hc pins s1 σ1 H1 _ I1 (turn n σ1 H1 w1)) fun b s2 ⟨H2,I2,q2⟩=>?_)
 cases b with
 |true=>
  obtain ⟨N,hN,q2⟩:=q2;rw [if_pos rfl];refine ab2 hp (thn (hb pins s2 σ1 H2 _ I2 q2) fun f s3 q3=>?_)
  cases f with
  |next=>
   obtain ⟨σ3,H3,I3,n3⟩:=q3;obtain ⟨m',hm,w3⟩:=hN σ3 H3 n3;exact ⟨m',hm,σ3,H3,I3,w3⟩
  |cont=>
   obtain ⟨σ3,H3,I3,n3⟩:=q3;obtain ⟨m',hm,w3⟩:=hN σ3 H3 n3;exact ⟨m',hm,σ3,H3,I3,w3⟩
  |brk=>exact q3
  |ret v=>exact q3
 |false=>
  rw [if_neg aaz];exact adr ⟨σ1,H2,I2,q2⟩
end
structure It where
 go:Nat->Hp->Prop
 yld:Nat->Hp->V->Hp->Prop
 stop:Nat->Hp->Prop
def FpOk (X:Cx) (pins:List (Addr×Obj)) (H:Hp) (b:Addr):Prop:=
 H b=none/\b≠X.env.locals/\b∉X.fs/\(b∈X.ex\/X.s₀.heap.objs.size<=b)/\(∀x c,X.env.cells.lookup x=some c->c≠b)/\ ∀p∈X.pn++pins,p.1≠b
theorem Inv.fpOk {X:Cx} {pins:List (Addr×Obj)} {σ:St} {H H':Hp} {s:aaj} {b:Addr} (I:Inv X pins σ H s) (hb:s.heap.objs.size<=b) (hn:H' b=none):FpOk X pins H' b:=by
 refine ⟨hn,Nat.ne_of_gt (aaB I.lt hb),I.nofs hb,.inr (aaC I.sz hb),fun x c e z=>?_,fun p hp z=>?_⟩
 · obtain ⟨v,q⟩:=I.cell x c e;exact absurd (aaB q.lt (by rw [z];exact hb)) (abU _)
 · exact absurd (aaB (aat (I.pin p hp).1) (by rw [z];exact hb)) (abU _)
structure Turn (P:aaD) (w:World) (K:aaa) (tg:Expr) (J:It) (fp:List Addr) (it:Addr) (tn:Nat->Heap->Prop):Prop where
 mem:it∈fp
 obj: ∀i h,tn i h-> ∀b∈fp,∃o,h.get? b=some o/\ ∀v,o.data≠ .cell v
 keep: ∀i h h',tn i h->(∀b∈fp,∀o,h.get? b=some o->h'.get? b=some o)->tn i h'
 item: ∀(X:Cx),X.prog=P->X.w=w->X.K=K->X.calm=true-> ∀(i:Nat) (pins:List (Addr×Obj)) (s:aaj) (σ:St) (H:Hp) (E:Value->aaj->Prop),Inv X pins σ H s->(∀b∈fp,FpOk X pins H b)->tn i s.heap->J.go i H->
  wpAny (model P w) X.A (pyNext (.ref it)) (fun r s1=> ∃u,r=some u/\
   wpAny (model P w) X.A (ads tg (.ref it) u) (fun _ s2=> ∃x H',Inv X pins σ H' s2/\RelV x u/\J.yld i H x H'/\tn (i+1) s2.heap/\ ∀b∈fp,H' b=none) E s1) E s
 done: ∀(X:Cx),X.prog=P->X.w=w->X.K=K->X.calm=true-> ∀(i:Nat) (pins:List (Addr×Obj)) (s:aaj) (σ:St) (H:Hp) (E:Value->aaj->Prop),Inv X pins σ H s->(∀b∈fp,FpOk X pins H b)->tn i s.heap->J.stop i H->
  wpAny (model P w) X.A (pyNext (.ref it)) (fun r s1=>r=none/\Inv X pins σ H s1) E s
 self: ∀(A:aaX) (i:Nat) (s:aaj) (Q:Value->aaj->Prop) (E:Value->aaj->Prop),tn i s.heap->Q (.ref it) s->wpAny (model P w) A (pyIter (.ref it)) Q E s
abbrev TI:=St->Hp->(It->Hp->Prop)->Prop
def PIE (X:Cx) (pins:List (Addr×Obj)) (σ:St) (tg:Expr) (R:It->Hp->Prop) (itv:Value) (s2:aaj):Prop:=
 ∃(it:Addr) (fp:List Addr) (tn:Nat->Heap->Prop) (J:It) (H':Hp),itv= .ref it/\Inv X pins σ H' s2/\Turn X.prog X.w X.K tg J fp it tn/\tn 0 s2.heap/\(∀b∈fp,FpOk X pins H' b)/\R J H'
def PI (X:Cx) (tg iter:Expr) (wi:TI):Prop:=
 ∀(pins:List (Addr×Obj)) (s:aaj) (σ:St) (H:Hp) (R:It->Hp->Prop),Inv X pins σ H s->wi σ H R->
  wpAny (model X.prog X.w) X.A (eval iter X.env) (fun v s1=>wpAny (model X.prog X.w) X.A (pyIter v) (PIE X pins σ tg R) X.xe s1) X.xe s
theorem uj {M : Model} {A : aaX} {E : Value -> aaj -> Prop} {s : aaj} {tg : Expr} {it : Addr} {u : Value} {o : Obj} {n : String} {vs : Array Value} {Q : Unit -> aaj -> Prop} (ho : s.heap.get? it = some o) (hc : o.cls = .type n) (hd : o.data = .fields vs)
    (hn : ["enumerate", "zip", "dict_itemiterator", "dict_reverseitemiterator", "odict_iterator", "itertools.zip_longest", "itertools.pairwise"].contains n = false) (hQ : Q () s) : wpAny M A (ads tg (.ref it) u) Q E s := by
  unfold ads
  cases tg <;> first
    | exact aak hQ
    | (cases u <;> first
        | exact aak hQ
        | (refine aab (wpAny_load ho ?_)
           rw [hc, hd]
           show wpAny M A (if (["enumerate", "zip", "dict_itemiterator", "dict_reverseitemiterator", "odict_iterator", "itertools.zip_longest", "itertools.pairwise"].contains n && vs[0]? == some (adV _)) = true then _ else _) Q E s
           rw [if_neg (by intro h; rw [hn, Bool.false_and] at h; cases h)]
           exact aak hQ))
def Itl (K:aaa) (a:Addr):It:=
 ⟨fun i H=> ∃xs x,SqL K H a xs/\xs[i]?=some x,fun i H x H'=>H'=H/\ ∀xs,SqL K H a xs->xs[i]?=some x,fun i H=> ∃xs,SqL K H a xs/\xs.length<=i⟩
def Itt (K:aaa) (a:Addr):It:=
 ⟨fun i H=> ∃xs x,SqT K H a xs/\xs[i]?=some x,fun i H x H'=>H'=H/\ ∀xs,SqT K H a xs->xs[i]?=some x,fun i H=> ∃xs,SqT K H a xs/\xs.length<=i⟩
def Itr (lo:Int) (n:Nat):It:=⟨fun i _=>i<n,fun i H x H'=>H'=H/\x= .int (lo+i),fun i _=>n<=i⟩
theorem Xq {P:aaD} {w:World} {K:aaa} {tg:Expr} (a it:Addr):Turn P w K tg (Itl K a) [it] it (fun i h=>h.IsListIter it a i) where
 mem:=by simp
 obj:=fun i h st b hb=>by
  have e:b=it:=by simpa using hb
  subst e;obtain ⟨o,e,c,d⟩:=st;exact ⟨o,e,fun v z=>by rw [d] at z;cases z⟩
 keep:=fun i h h' st k=>st.at fun o e=>k it (by simp) o e
 item:=by
  intro X hP hw hK hc i pins s σ H E I hf st hg;subst hP hw hK;obtain ⟨xs,x,hq,hx⟩:=hg;obtain ⟨its,rv,p,hz⟩:=I.list hq;obtain ⟨u,hu,ru⟩:=rv.get hx;obtain ⟨f0,f1,f2,f3,f4,f5⟩:=hf it (by simp);refine wpAny_pyNext_list_item st p.isList (x:=u) (by simpa using hu) fun h' st' sb=>?_
  have I1:Inv X pins σ H {s with heap:=h'}:=I.turned (t':=s.toks) (fun b o hb e=>(sb.2 b hb).trans e) f0 f1 f3 f4 f5;obtain ⟨o,e,c,d⟩:=id st';exact ⟨u,rfl,uj (s:={s with heap:=h'}) e c d (by decide) ⟨x,H,I1,ru,⟨rfl,fun ys hy=>by rw [I.list_inj hy hq];exact hx⟩,st',fun b hb=>(hf b hb).1⟩⟩
 done:=by
  intro X hP hw hK hc i pins s σ H E I hf st hg;subst hP hw hK;obtain ⟨xs,hq,hx⟩:=hg;obtain ⟨its,rv,p,hz⟩:=I.list hq;obtain ⟨f0,f1,f2,f3,f4,f5⟩:=hf it (by simp);have hl:=rv.length;exact wpAny_pyNext_list_end (I.ok.hd hc) st p.isList (by simp;omega) fun h' eb=>⟨rfl,I.turned (t':=s.toks) (fun b o hb e=>eb b o hb e) f0 f1 f3 f4 f5⟩
 self:=fun _ _ _ _ _ st h=>wpAny_pyIter_listiter st h
theorem Ue {P:aaD} {w:World} {K:aaa} {tg:Expr} (a it:Addr):Turn P w K tg (Itt K a) [it] it (fun i h=>h.IsTupleIter it a i) where
 mem:=by simp
 obj:=fun i h st b hb=>by
  have e:b=it:=by simpa using hb
  subst e;obtain ⟨o,e,c,d⟩:=st;exact ⟨o,e,fun v z=>by rw [d] at z;cases z⟩
 keep:=fun i h h' st k=>st.at fun o e=>k it (by simp) o e
 item:=by
  intro X hP hw hK hc i pins s σ H E I hf st hg;subst hP hw hK;obtain ⟨xs,x,hq,hx⟩:=hg;obtain ⟨its,rv,p,hz⟩:=I.tuple hq;obtain ⟨u,hu,ru⟩:=rv.get hx;obtain ⟨f0,f1,f2,f3,f4,f5⟩:=hf it (by simp);refine wpAny_pyNext_tuple_item st (show s.heap.IsTuple a its.toArray from p) (x:=u) (by simpa using hu) fun h' st' sb=>?_
  have I1:Inv X pins σ H {s with heap:=h'}:=I.turned (t':=s.toks) (fun b o hb e=>(sb.2 b hb).trans e) f0 f1 f3 f4 f5;obtain ⟨o,e,c,d⟩:=id st';exact ⟨u,rfl,uj (s:={s with heap:=h'}) e c d (by decide) ⟨x,H,I1,ru,⟨rfl,fun ys hy=>by rw [I.tuple_inj hy hq];exact hx⟩,st',fun b hb=>(hf b hb).1⟩⟩
 done:=by
  intro X hP hw hK hc i pins s σ H E I hf st hg;subst hP hw hK;obtain ⟨xs,hq,hx⟩:=hg;obtain ⟨its,rv,p,hz⟩:=I.tuple hq;obtain ⟨f0,f1,f2,f3,f4,f5⟩:=hf it (by simp);have hl:=rv.length;exact wpAny_pyNext_tuple_end (I.ok.hd hc) st (show s.heap.IsTuple a its.toArray from p) (by simp;omega) fun h' eb=>⟨rfl,I.turned (t':=s.toks) (fun b o hb e=>eb b o hb e) f0 f1 f3 f4 f5⟩
 self:=fun _ _ _ _ _ st h=>wpAny_pyIter_tupleiter st h
theorem Uf {P:aaD} {w:World} {K:aaa} {tg:Expr} (it:Addr) (lo:Int) (n:Nat):Turn P w K tg (Itr lo n) [it] it (fun i h=>IsRangeIter h it (lo+(i:Nat)*1) ((n:Int)-(i:Nat)) 1) where
 mem:=by simp
 obj:=fun i h st b hb=>by
  have e:b=it:=by simpa using hb
  subst e
  exact ⟨_,st,fun v z=>by
   have z':Data.fields _=Data.cell v:=z
   cases z'⟩
 keep:=fun i h h' st k=>k it (by simp) _ st
 item:=by
  intro X hP hw hK hc i pins s σ H E I hf st hg;subst hP hw hK;obtain ⟨f0,f1,f2,f3,f4,f5⟩:=hf it (by simp);have W:=Walks.range (prog:=X.prog) (w:=X.w) (I.ok.hd hc) it lo 1 n;refine W.item i s _ _ hg st fun v h' tk hv st' kk=>?_
  obtain ⟨t,rfl⟩:=hv;have I1:Inv X pins σ H {s with heap:=h',toks:=tk}:=I.turned (fun b o hb e=>kk b o (by simpa using hb) e) f0 f1 f3 f4 f5;refine ⟨_,rfl,uj (s:={s with heap:=h',toks:=tk}) (n:= "range_iterator") st' rfl rfl (by decide) ⟨.int (lo+i),H,I1,⟨t,?_⟩,⟨rfl,rfl⟩,st',fun b hb=>(hf b hb).1⟩⟩;rw [Int.mul_one]
 done:=by
  intro X hP hw hK hc i pins s σ H E I hf st hg;subst hP hw hK;obtain ⟨f0,f1,f2,f3,f4,f5⟩:=hf it (by simp);exact wpAny_pyNext_range_end (I.ok.hd hc) st (by have:n<=i:=hg;omega) fun h' eb=>⟨rfl,I.turned (t':=s.toks) (fun b o hb e=>eb b o hb e) f0 f1 f3 f4 f5⟩
 self:=fun _ _ _ _ _ st h=>wpAny_pyIter_rangeiter st h
end L2
namespace L2
open PySem PySem.Spec PyProof.Rows
section
variable {X:Cx} {tg:Expr}
theorem KW {pins:List (Addr×Obj)} {σ:St} {H:Hp} {s:aaj} {R:It->Hp->Prop} {E:Value->aaj->Prop} {lo hi:Int} {t u v:Tok} {tk:Nat} (I:Inv X pins σ H s) (h1: -(2^62)<=lo) (h2:lo<2^62) (h3: -(2^62)<=hi) (h4:hi<2^62)
   (q:R (Itr lo (hi-lo).toNat) H):wpAny (model X.prog X.w) X.A (pyIter (.ref s.heap.objs.size)) (PIE X pins σ tg R) E {s with heap:=s.heap.push {cls:= .type "range",data:= .fields #[.int lo t,.int hi u,.int 1 v]},toks:=tk}:=by
 refine wpAny_pyIter_range (IsRange.new ..) (small_one h1 h2 h3 h4) ?_;have I1:Inv X pins σ H {s with heap:=s.heap.push {cls:= .type "range",data:= .fields #[.int lo t,.int hi u,.int 1 v]},toks:=tk}:=I.kept fun b o e=>aac _ e
 refine ⟨(s.heap.push {cls:= .type "range",data:= .fields #[.int lo t,.int hi u,.int 1 v]}).objs.size,[(s.heap.push {cls:= .type "range",data:= .fields #[.int lo t,.int hi u,.int 1 v]}).objs.size],_,_,H,rfl,
   I1.kept (t':=tk) fun b o e=>aac _ e,Uf _ lo (hi-lo).toNat,?_,fun b hb=>?_,q⟩
 · have e1:lo+((0:Nat):Int)*1=lo:=by simp
   have e2:(((hi-lo).toNat:Nat):Int)-((0:Nat):Int)=Builtin.Range.rangeSize lo hi 1:=by rw [rangeSize_one];split<;>omega
   show IsRangeIter _ _ (lo+((0:Nat):Int)*1) ((((hi-lo).toNat:Nat):Int)-((0:Nat):Int)) 1;rw [e1,e2];exact aam _ rfl
 · have e:b=(s.heap.push {cls:= .type "range",data:= .fields #[.int lo t,.int hi u,.int 1 v]}).objs.size:=by simpa using hb
   subst e;exact I1.fpOk (aai _) (I1.hok.fresh (aai _))
def jgQ (ta:TA):TI:=fun σ H R=>ta σ H fun vs H1=> ∃j:Int,vs=[.int j]/\ -(2^62)<=j/\j<2^62/\R (Itr 0 j.toNat) H1
def jgP (ta:TA):TI:=fun σ H R=>ta σ H fun vs H1=> ∃i j:Int,vs=[.int i,.int j]/\(-(2^62)<=i/\i<2^62/\ -(2^62)<=j/\j<2^62)/\R (Itr i (j-i).toNat) H1
theorem k4 {a:Expr} {ta:TA} {p pos:Pos} (hg:Gl X "range") (hm:X.mg "range" =none) (ha:PA X [a] ta) (hs:aal [a] X.env=[(false,eval a X.env)]:=by rfl):PI X tg (.Call (.Name "range" p) [a] [] pos) (jgQ ta):=by
 intro pins s σ H R I h;refine Call_ (Jq I hg hm boot_range (aa0 (thn (ha pos pins s σ H _ I h) fun us s1 ⟨vs,H1,I1,r1,q1⟩=>?_) hs rfl));obtain ⟨j,e,q1,q2,q⟩:=q1;subst e
 cases r1 with
 |cons r rr=>
  cases rr;obtain ⟨t,rfl⟩:=r;exact call_range_1 (KW I1 (by omega) (by omega) q1 q2 (by simpa using q))
theorem kZ {a b:Expr} {ta:TA} {p pos:Pos} (hg:Gl X "range") (hm:X.mg "range" =none) (ha:PA X [a,b] ta) (hs:aal [a,b] X.env=[(false,eval a X.env),(false,eval b X.env)]:=by rfl) (hs2:aal [b] X.env=[(false,eval b X.env)]:=by rfl):
  PI X tg (.Call (.Name "range" p) [a,b] [] pos) (jgP ta):=by
 intro pins s σ H R I h;refine Call_ (Jq I hg hm boot_range (aa0 (thn (ha pos pins s σ H _ I h) fun us s1 ⟨vs,H1,I1,r1,q1⟩=>?_) (by rw [hs,hs2]) (by rw [hs2];rfl)));obtain ⟨i,j,e,⟨q1,q2,q3,q4⟩,q⟩:=q1;subst e
 cases r1 with
 |cons r rr=>
  cases rr with
  |cons r' rr=>
   cases rr;obtain ⟨t,rfl⟩:=r;obtain ⟨t',rfl⟩:=r';exact call_range_2 (KW I1 q1 q2 q3 q4 q)
def tFor (wi:TI) (g:TG) (tb:TS):TS:=fun D σ H=>wi σ H fun J H1=> ∃W:Nat->Nat->St->Hp->Prop,(∃m,W 0 m σ H1)/\ ∀i m σ H,W i m σ H->
 (J.stop i H/\D.nx σ H)\/(J.go i H/\ ∃N:St->Hp->Prop,(∀σ' H',N σ' H'-> ∃m',m'<m/\W (i+1) m' σ' H')/\ ∀x H',J.yld i H x H'->g x σ H' fun σ2 H2=>tb {D with nx:=N,ct:=N,bk:=D.nx} σ2 H2)
def Xz (fp:List Addr) (h:Heap):List (Addr×Obj):=fp.filterMap fun b=>(h.get? b).map fun o=>(b,o)
theorem yx {fp:List Addr} {h:Heap} {b:Addr} {o:Obj} (hb:b∈fp) (e:h.get? b=some o):(b,o)∈Xz fp h:=adF.mpr ⟨b,hb,by rw [e];rfl⟩
theorem vw {fp:List Addr} {h:Heap} {p:Addr×Obj} (hp:p∈Xz fp h):p.1∈fp/\h.get? p.1=some p.2:=by
 obtain ⟨b,hb,e⟩:=adF.mp hp
 cases q:h.get? b with
 |none=>rw [q] at e;cases e
 |some o=>
  rw [q] at e;have e':(b,o)=p:=aaF e;subst e';exact ⟨hb,q⟩
theorem Inv.pinned {pins:List (Addr×Obj)} {σ:St} {H:Hp} {s:aaj} {fp:List Addr} (I:Inv X pins σ H s) (hf: ∀b∈fp,FpOk X pins H b) (ho: ∀b∈fp,∃o,s.heap.get? b=some o/\ ∀v,o.data≠ .cell v):Inv X (pins++Xz fp s.heap) σ H s:=
 I.pins_of fun p hp=>(aaL.mp hp).elim (fun z=>I.pin p (aaV _ z)) fun z=>by
  obtain ⟨hb,e⟩:=vw z;obtain ⟨f0,f1,f2,_⟩:=hf p.1 hb;obtain ⟨o,e',d⟩:=ho p.1 hb;rw [e] at e';cases e';exact ⟨e,f0,f1,f2,d⟩
theorem Inv.unpinned {pins pl:List (Addr×Obj)} {σ:St} {H:Hp} {s:aaj} (I:Inv X (pins++pl) σ H s):Inv X pins σ H s:=I.pins_of fun p hp=>I.pin p (aaV _ (List.mem_append_left _ hp))
theorem jb1 {iter:Expr} {body:List Stmt} {wi:TI} {g:TG} {tb:TS} {pos:Pos} (hp:PassesOwn (model X.prog X.w) X.A X.env X.xe) (hc:X.calm=true) (hi:PI X tg iter wi) (hg:PG X tg g) (hb:PSs X body tb)
   (hs: ∀x,abL iter X.env x=pure x:=by intro _;rfl):PS X (.For tg iter body [] pos) (tFor wi g tb):=by
 intro pins s σ H D I h;refine wpAny_For (thn (hi pins s σ H _ I h) fun v s1 h1=>thn h1 fun itv s2 h2=>?_) hs;obtain ⟨it,fp,tn,J,H2,e,I2,T,st2,f2,W,⟨m0,w0⟩,turn⟩:=h2;subst e;have stat: ∀ {H':Hp},(∀b∈fp,H' b=none)-> ∀b∈fp,FpOk X pins H' b:=fun hn b hb=>⟨hn b hb,(f2 b hb).2⟩
 refine codeAny_forLoop_any (fun n s'=> ∃i σ' H',Inv X pins σ' H' s'/\tn i s'.heap/\(∀b∈fp,H' b=none)/\W i n σ' H') ?_ m0 ⟨0,σ,H2,I2,st2,fun b hb=>(f2 b hb).1,w0⟩;rintro n s3 ⟨i,σ3,H3,I3,st3,fr3,w3⟩;rcases turn i n σ3 H3 w3 with ⟨stop,qn⟩| ⟨go,N,hN,step⟩
 · refine ab2 hp (thn (T.done X rfl rfl rfl hc i pins s3 σ3 H3 X.xe I3 (stat fr3) st3 stop) fun r s4 ⟨hr,I4⟩=>?_);subst hr;exact adr ⟨σ3,H3,I4,qn⟩
 · refine ab2 hp (thn (T.item X rfl rfl rfl hc i pins s3 σ3 H3 X.xe I3 (stat fr3) st3 go) fun r s4 ⟨u,hr,h4⟩=>?_);subst hr;refine ab2 hp (thn h4 fun _ s5 ⟨x,H5,I5,r5,y5,st5,fr5⟩=>?_);have I5':=I5.pinned (stat fr5) (T.obj _ _ st5);refine ab2 hp (thn (hg _ s5 σ3 H5 x u _ I5' r5 (step x H5 y5)) fun _ s6 ⟨σ6,H6,I6,q6⟩=>?_);refine ab2 hp (thn (hb _ s6 σ6 H6 _ I6 q6) fun f s7 q7=>?_)
   have again: ∀ {σ7:St} {H7:Hp},Inv X (pins++Xz fp s5.heap) σ7 H7 s7->N σ7 H7-> ∃m,m<n/\ ∃i σ' H',Inv X pins σ' H' s7/\tn i s7.heap/\(∀b∈fp,H' b=none)/\W i m σ' H':=fun {σ7 H7} I7 n7=>by
    obtain ⟨m',hm,w7⟩:=hN σ7 H7 n7;refine ⟨m',hm,i+1,σ7,H7,I7.unpinned,T.keep _ _ _ st5 fun b hb o e=>(I7.pin (b,o) (aaV _ (aaV _ (yx hb e)))).1,fun b hb=>?_,w7⟩;obtain ⟨o,e,d⟩:=T.obj _ _ st5 b hb;exact (I7.pin (b,o) (aaV _ (aaV _ (yx hb e)))).2.1
   cases f with
   |next=>obtain ⟨σ7,H7,I7,n7⟩:=q7;exact again I7 n7
   |cont=>obtain ⟨σ7,H7,I7,n7⟩:=q7;exact again I7 n7
   |brk=>obtain ⟨σ7,H7,I7,q7⟩:=q7;exact ⟨σ7,H7,I7.unpinned,q7⟩
   |ret v=>obtain ⟨x7,σ7,H7,I7,r7,q7⟩:=q7;exact ⟨x7,σ7,H7,I7.unpinned,r7,q7⟩
end
end L2
namespace L2
open PySem PySem.Spec PyProof.Rows
abbrev R2:=V->V->Hp->VK->Prop
def OpR (X:Cx) (f:Value->Value->Sem Value) (r:R2):Prop:=
 ∀(pins:List (Addr×Obj)) (s:aaj) (σ:St) (H:Hp) (x y:V) (v u:Value) (Q:VK),Inv X pins σ H s->RelV x v->RelV y u->r x y H Q->
  wpAny (model X.prog X.w) X.A (f v u) (EP X pins σ Q) X.xe s
def UnR (X:Cx) (f:Value->Sem Value) (r:V->Hp->VK->Prop):Prop:=
 ∀(pins:List (Addr×Obj)) (s:aaj) (σ:St) (H:Hp) (x:V) (v:Value) (Q:VK),Inv X pins σ H s->RelV x v->r x H Q->
  wpAny (model X.prog X.w) X.A (f v) (EP X pins σ Q) X.xe s
def CallR (X:Cx) (f:Value) (r:List V->Hp->VK->Prop):Prop:=
 ∀(pins:List (Addr×Obj)) (s:aaj) (σ:St) (H:Hp) (xs:List V) (us:List Value) (Q:VK),Inv X pins σ H s->Vals xs us->r xs H Q->
  wpAny (model X.prog X.w) X.A (call f us) (EP X pins σ Q) X.xe s
def TruR (X:Cx) (r:V->Hp->(Bool->Hp->Prop)->Prop):Prop:=
 ∀(pins:List (Addr×Obj)) (s:aaj) (σ:St) (H:Hp) (x:V) (v:Value) (Q:Bool->Hp->Prop),Inv X pins σ H s->RelV x v->r x H Q->
  wpAny (model X.prog X.w) X.A (truthy v) (TP X pins σ Q) X.xe s
def tOp (r:R2) (ta tb:TE):TE:=fun σ H Q=>ta σ H fun x H1=>tb σ H1 fun y H2=>r x y H2 Q
def tUn (r:V->Hp->VK->Prop) (ta:TE):TE:=fun σ H Q=>ta σ H fun x H1=>r x H1 Q
def rI (C:Int->Int->Prop) (g:Int->Int->V):R2:=fun x y H Q=> ∃i j,x= .int i/\y= .int j/\C i j/\Q (g i j) H
def rI0 (g:Int->Int->V):R2:=fun x y H Q=> ∃i j,x= .int i/\y= .int j/\Q (g i j) H
def rU (g:Int->V):V->Hp->VK->Prop:=fun x H Q=> ∃i,x= .int i/\Q (g i) H
section
variable {X:Cx} {a b c:Expr} {ta tb tc:TE} {pos:Pos}
theorem binT (ha:PE X a ta) (hb:PE X b tb) {pins:List (Addr×Obj)} {s:aaj} {σ:St} {H:Hp} {R:V->V->Hp->Prop} (I:Inv X pins σ H s)
  (h:ta σ H fun x H1=>tb σ H1 fun y H2=>R x y H2) {Q:Value->aaj->Prop} {f:Value->Value->Sem Value}
  (hf: ∀v u s2 x y H2,Inv X pins σ H2 s2->RelV x v->RelV y u->R x y H2->wpAny (model X.prog X.w) X.A (f v u) Q X.xe s2):
  wpAny (model X.prog X.w) X.A (eval a X.env) (fun v s₁=>wpAny (model X.prog X.w) X.A (eval b X.env) (fun u s₂=>wpAny (model X.prog X.w) X.A (f v u) Q X.xe s₂) X.xe s₁) X.xe s:=by
 refine thn (ha pins s σ H _ I h) fun v s1 ⟨x,H1,I1,r1,q1⟩=>?_
 refine thn (hb pins s1 σ H1 _ I1 q1) fun u s2 ⟨y,H2,I2,r2,q2⟩=>?_
 exact hf v u s2 x y H2 I2 r1 r2 q2
theorem jcP {op:ad2} {r:R2} (ho:OpR X (abG op) r) (ha:PE X a ta) (hb:PE X b tb):PE X (.BinOp a op b pos) (tOp r ta tb):=by
 intro pins s σ H Q I h;exact wpAny_BinOp (binT ha hb I h fun v u s2 x y H2 I2 rx ry q=>ho pins s2 σ H2 x y v u Q I2 rx ry q)
theorem jgx {op:UnaryOp} {r:V->Hp->VK->Prop} (ho:UnR X (unaryOp op) r) (ha:PE X a ta):PE X (.UnaryOp op a pos) (tUn r ta):=by
 intro pins s σ H Q I h;exact UnaryOp_ (thn (ha pins s σ H _ I h) fun v s1 ⟨x,H1,I1,r1,q1⟩=>ho pins s1 σ H1 x v Q I1 r1 q1)
theorem opI {f:Value->Value->Sem Value} {C:Int->Int->Prop} {g:Int->Int->Int}
  (rule: ∀(i j:Int) (t u:Tok) (s:aaj) (Q:Value->aaj->Prop) (E:Value->aaj->Prop),C i j->Q (.int (g i j) s.toks) {s with toks:=s.toks+1}->wpAny (model X.prog X.w) X.A (f (.int i t) (.int j u)) Q E s):
  OpR X f (rI C fun i j=> .int (g i j)):=by
 intro pins s σ H x y v u Q I rx ry h;obtain ⟨i,j,rfl,rfl,hc,q⟩:=h;obtain ⟨t,rfl⟩:=rx;obtain ⟨t',rfl⟩:=ry;exact rule i j t t' s _ _ hc ⟨.int (g i j),H,I.tok _,⟨_,rfl⟩,q⟩
theorem opI0 {f:Value->Value->Sem Value} {g:Int->Int->Int}
  (rule: ∀(i j:Int) (t u:Tok) (s:aaj) (Q:Value->aaj->Prop) (E:Value->aaj->Prop),Q (.int (g i j) s.toks) {s with toks:=s.toks+1}->wpAny (model X.prog X.w) X.A (f (.int i t) (.int j u)) Q E s):
  OpR X f (rI0 fun i j=> .int (g i j)):=by
 intro pins s σ H x y v u Q I rx ry h;obtain ⟨i,j,rfl,rfl,q⟩:=h;obtain ⟨t,rfl⟩:=rx;obtain ⟨t',rfl⟩:=ry;exact rule i j t t' s _ _ ⟨.int (g i j),H,I.tok _,⟨_,rfl⟩,q⟩
theorem opB0 {f:Value->Value->Sem Value} {g:Int->Int->Bool}
  (rule: ∀(i j:Int) (t u:Tok) (s:aaj) (Q:Value->aaj->Prop) (E:Value->aaj->Prop),Q (.bool (g i j)) s->wpAny (model X.prog X.w) X.A (f (.int i t) (.int j u)) Q E s):
  OpR X f (rI0 fun i j=> .bl (g i j)):=by
 intro pins s σ H x y v u Q I rx ry h;obtain ⟨i,j,rfl,rfl,q⟩:=h;obtain ⟨t,rfl⟩:=rx;obtain ⟨t',rfl⟩:=ry;exact rule i j t t' s _ _ ⟨.bl (g i j),H,I,rfl,q⟩
def CDiv (i j:Int):Prop:=0<j/\j<1073741824
def CPow (i j:Int):Prop:=0<=j/\j<=1000000/\i.natAbs<2^64
theorem op_add:OpR X (abG .Add) (rI0 fun i j=> .int (i+j)):=opI0 fun _ _ _ _ _ _ _ q=>add_int q
theorem vn:OpR X (abG .Sub) (rI0 fun i j=> .int (i-j)):=opI0 fun _ _ _ _ _ _ _ q=>sub_int q
theorem xT:OpR X (abG .Mod) (rI (fun _ j=>0<j) fun i j=> .int (i%j)):=opI fun i j _ _ _ _ _ hc q=>by
 have h1:(0:Int)<j:=hc;exact mod_int' (by omega) (by rw [Int.fmod_eq_emod_of_nonneg i (by omega)];exact q)
theorem K5:OpR X (abG .Pow) (rI CPow fun i j=> .int (i^j.toNat)):=opI fun _ _ _ _ _ _ _ hc q=>pow_int_small hc.1 hc.2.1 hc.2.2 q
theorem unI {f:Value->Sem Value} {g:Int->Int}
  (rule: ∀(i:Int) (t:Tok) (s:aaj) (Q:Value->aaj->Prop) (E:Value->aaj->Prop),Q (.int (g i) s.toks) {s with toks:=s.toks+1}->wpAny (model X.prog X.w) X.A (f (.int i t)) Q E s):
  UnR X f (rU fun i=> .int (g i)):=by
 intro pins s σ H x v Q I rx h;obtain ⟨i,rfl,q⟩:=h;obtain ⟨t,rfl⟩:=rx;exact rule i t s _ _ ⟨.int (g i),H,I.tok _,⟨_,rfl⟩,q⟩
theorem jd4:UnR X (unaryOp .USub) (rU fun i=> .int (-i)):=unI fun _ _ _ _ _ q=>neg_int q
end
section
variable {X:Cx} {a b c:Expr} {ta tb tc:TE} {pos:Pos}
theorem jcg {pins:List (Addr×Obj)} {σ:St} {H:Hp} {s:aaj} {Q:VK} {k k':Bool} (I:Inv X pins σ H s) (q:Q (.bl k) H) (e:k=k'):EP X pins σ Q (.bool k') s:=by
 subst e;exact ⟨.bl k,H,I,rfl,q⟩
theorem je8:OpR X (abv .Lt) (rI0 fun i j=> .bl (decide (i<j))):=opB0 fun _ _ _ _ _ _ _ q=>lt_int q
theorem Uw:OpR X (abv .LtE) (rI0 fun i j=> .bl (decide (i<=j))):=opB0 fun _ _ _ _ _ _ _ q=>le_int q
theorem jcX:OpR X (abv .Gt) (rI0 fun i j=> .bl (decide (j<i))):=opB0 fun _ _ _ _ _ _ _ q=>gt_int q
theorem vp:OpR X (abv .In) (fun x y H Q=> ∃i j,x= .str i/\y= .str j/\Q (.bl (!(acO j i 0 j.length 1).isEmpty)) H):=by
 intro pins s σ H x y v u Q I rx ry h;obtain ⟨i,j,rfl,rfl,q⟩:=h;obtain ⟨t,rfl⟩:=rx;obtain ⟨t',rfl⟩:=ry;exact in_str (jcg I q rfl)
theorem vo:OpR X (abv .IsNot) (fun x y H Q=>y= .non/\Q (.bl (!decide (x= .non))) H):=by
 intro pins s σ H x y v u Q I rx ry h;obtain ⟨rfl,q⟩:=h;cases ry;refine isnot_none_gen (jcg I q ?_)
 cases x<;>first
  | (cases rx;rfl)
  | (obtain ⟨t,rfl⟩:=rx;rfl)
theorem OpR.or {f:Value->Value->Sem Value} {r r':R2} (h:OpR X f r) (h':OpR X f r'):OpR X f (fun x y H Q=>r x y H Q\/r' x y H Q):=by
 intro pins s σ H x y v u Q I rx ry q;rcases q with q|q
 · exact h pins s σ H x y v u Q I rx ry q
 · exact h' pins s σ H x y v u Q I rx ry q
theorem K9 (b:Expr) {op:CmpOp} (h:op≠ .In:=by decide) (h2:op≠ .NotIn:=by decide):ab7 op b=false:=by
 have e1:(op==CmpOp.In)=false:=by cases op<;>first|rfl|exact absurd rfl h
 have e2:(op==CmpOp.NotIn)=false:=by cases op<;>first|rfl|exact absurd rfl h2
 cases b<;>simp [ab7,e1,e2]
theorem vf {op:CmpOp} {r:R2} (ho:OpR X (abv op) r) (ha:PE X a ta) (hb:PE X b tb) (hm:ab7 op b=false):PE X (.Compare a [op] [b] pos) (tOp r ta tb):=by
 intro pins s σ H Q I h;exact wpAny_Compare1 (binT ha hb I h fun v u s2 x y H2 I2 rx ry q=>ho pins s2 σ H2 x y v u Q I2 rx ry q) hm
def jcw (t:TE):TT:=fun σ H Q=>t σ H fun x H'=> ∃k,x= .bl k/\Q k H'
theorem kS {op:CmpOp} {r:R2} (ho:OpR X (abv op) r) (ha:PE X a ta) (hb:PE X b tb) (hm:ab7 op b=false):PT X (.Compare a [op] [b] pos) (jcw (tOp r ta tb)):=by
 intro pins s σ H Q I h
 refine wpAny_isTrue_Compare1 (thn (ha pins s σ H _ I h) fun v s1 ⟨x,H1,I1,r1,q1⟩=>thn (hb pins s1 σ H1 _ I1 q1) fun u s2 ⟨y,H2,I2,r2,q2⟩=>
  thn (ho pins s2 σ H2 x y v u _ I2 r1 r2 q2) fun c s3 ⟨z,H3,I3,r3,k,e,q3⟩=>?_) hm
 subst e;cases r3;exact abm ⟨H3,I3,q3⟩
def kj (r r':R2) (ta tb tc:TE):TE:=fun σ H Q=>ta σ H fun x H1=>tb σ H1 fun y H2=>r x y H2 fun z H3=> ∃k,z= .bl k/\
 (if k=true then tc σ H3 fun w' H4=>r' y w' H4 Q else Q (.bl false) H3)
theorem jaB {op op':CmpOp} {r r':R2} (ho:OpR X (abv op) r) (ho':OpR X (abv op') r') (ha:PE X a ta) (hb:PE X b tb) (hc:PE X c tc)
  (hm:lastMarks [op,op'] [b,c]=false:=by with_unfolding_all rfl):PE X (.Compare a [op,op'] [b,c] pos) (kj r r' ta tb tc):=by
 intro pins s σ H Q I h
 refine Compare_chain (thn (ha pins s σ H _ I h) fun v s1 ⟨x,H1,I1,r1,q1⟩=>chain_link (thn (hb pins s1 σ H1 _ I1 q1) fun u s2 ⟨y,H2,I2,r2,q2⟩=>
  thn (ho pins s2 σ H2 x y v u _ I2 r1 r2 q2) fun d s3 ⟨z,H3,I3,r3,k,e,q3⟩=>?_)) hm
 subst e;cases r3;refine abm ?_
 cases k with
 |false=>exact ite_ff ⟨.bl false,H3,I3,rfl,q3⟩
 |true=>exact ite_tt (chain_last (thn (hc pins s3 σ H3 _ I3 q3) fun w' s4 ⟨z',H4,I4,r4,q4⟩=>ho' pins s4 σ H4 y z' u w' Q I4 r2 r4 q4))
theorem jau {op op':CmpOp} {r r':R2} (ho:OpR X (abv op) r) (ho':OpR X (abv op') r') (ha:PE X a ta) (hb:PE X b tb) (hc:PE X c tc)
  (hm:lastMarks [op,op'] [b,c]=false:=by with_unfolding_all rfl):PT X (.Compare a [op,op'] [b,c] pos) (jcw (kj r r' ta tb tc)):=by
 intro pins s σ H Q I h
 refine isTrue_chain (thn (ha pins s σ H _ I h) fun v s1 ⟨x,H1,I1,r1,q1⟩=>test_link (thn (hb pins s1 σ H1 _ I1 q1) fun u s2 ⟨y,H2,I2,r2,q2⟩=>
  thn (ho pins s2 σ H2 x y v u _ I2 r1 r2 q2) fun d s3 ⟨z,H3,I3,r3,k,e,q3⟩=>?_)) hm
 subst e;cases r3;refine abm ?_
 cases k with
 |false=>
  obtain ⟨k',e',q'⟩:=q3;cases e';exact ite_ff ⟨H3,I3,q'⟩
 |true=>
  refine ite_tt (test_last (thn (hc pins s3 σ H3 _ I3 q3) fun w' s4 ⟨z',H4,I4,r4,q4⟩=>thn (ho' pins s4 σ H4 y z' u w' _ I4 r2 r4 q4) fun d' s5 ⟨z2,H5,I5,r5,k2,e2,q5⟩=>?_));subst e2;cases r5;exact abm ⟨H5,I5,q5⟩
def TruV (K:aaa) (x:V) (H:Hp) (k:Bool):Prop:=
 match x with
 | .non=>k=false
 | .bl b=>k=b
 | .int i=>k=(i !=0)
 | .str y=>y.length<=aae/\k=((y.length:Int) !=0)
 | .byt y=>y.size<=aae/\k=((y.size:Int) !=0)
 | .ref p=>(∃xs,SqL K H p xs/\k=!xs.isEmpty)\/(∃xs,SqT K H p xs/\k=!xs.isEmpty)\/ ∃kvs,H p=some (.dK kvs)/\k=!kvs.isEmpty
 |_=>False
theorem UK {κ:Type} {kvs:List (κ×V)} {vs:List (κ×Value)} (r:KV kvs vs):(!vs.isEmpty)=!kvs.isEmpty:=by
 cases r<;>rfl
theorem We {xs:List V} {its:List Value} (r:Vals xs its):(!its.toArray.isEmpty)=!xs.isEmpty:=by
 cases r<;>simp
theorem Wc:(aae:Nat)<2^63:=by rw [ack];decide
theorem jd6:TruR X (fun x H Q=> ∃k,TruV X.K x H k/\Q k H):=by
 intro pins s σ H x v Q I rx h;obtain ⟨k,e,q⟩:=h;have hl:=Wc;have hs:aae=16777216:=ack
 cases x with
 |non=>
  cases rx;have e':k=false:=e;subst e';exact truthy_none ⟨H,I,q⟩
 |bl b=>
  cases rx;have e':k=b:=e;subst e';exact abm ⟨H,I,q⟩
 |int i=>
  obtain ⟨t,rfl⟩:=rx;have e':k=(i !=0):=e;subst e';exact PySem.P.truthy_int ⟨H,I,q⟩
 |str y=>
  obtain ⟨t,rfl⟩:=rx;obtain ⟨hy,e'⟩:y.length<=aae/\k=((y.length:Int) !=0):=e;subst e';exact PySem.P.truthy_str (by omega) ⟨H,I.tok _,q⟩
 |byt y=>
  obtain ⟨t,rfl⟩:=rx;obtain ⟨hy,e'⟩:y.size<=aae/\k=((y.size:Int) !=0):=e;subst e';exact PySem.W.truthy_bytes (by omega) ⟨H,I.tok _,q⟩
 |ref p=>
  cases rx;have e':(∃xs,SqL X.K H p xs/\k=!xs.isEmpty)\/(∃xs,SqT X.K H p xs/\k=!xs.isEmpty)\/ ∃kvs,H p=some (.dK kvs)/\k=!kvs.isEmpty:=e;rcases e' with ⟨xs,hx,e'⟩| ⟨xs,hx,e'⟩| ⟨kvs,hx,e'⟩
  · subst e';obtain ⟨its,r,pl,hz⟩:=I.list hx;have hlen:=r.length;exact wpAny_truthy_list pl.isList (by simp only [aaf];omega) ⟨H,I.tok _,by rw [We r];exact q⟩
  · subst e';obtain ⟨its,r,pl,hz⟩:=I.tuple hx;have hlen:=r.length;exact truthy_tuple pl (by simp only [aaf];omega) ⟨H,I.tok _,by rw [We r];exact q⟩
  · subst e';obtain ⟨hz,hS,vs,r,m⟩:kvs.length<=aae/\(p==abR)=false/\ ∃vs,KV kvs vs/\s.heap.DictOf (qr X.prog X.w) p vs:=I.hok p _ hx;have hlen:kvs.length=vs.length:=ad1 r;exact wpAny_truthy_dict hS m (by omega) ⟨H,I.tok _,by rw [UK r];exact q⟩
 |_=>exact (show False from e).elim
theorem jat (ha:PE X a ta) (he: ∀whole,isTrue a X.env whole=(do let v←whole;adN a.pos;adq [v] (truthy v))):
  PT X a (fun σ H Q=>ta σ H fun x H'=> ∃k,TruV X.K x H' k/\Q k H'):=by
 intro pins s σ H Q I h;exact isTrue_plain (thn (ha pins s σ H _ I h) fun v s1 ⟨x,H1,I1,r1,q1⟩=>jd6 pins s1 σ H1 x v Q I1 r1 q1) (he _)
theorem op_add_str:OpR X (abG .Add) (fun x y H Q=> ∃i j,x= .str i/\y= .str j/\i.length+j.length<=aae/\Q (.str (i++j)) H):=by
 intro pins s σ H x y v u Q I rx ry h;obtain ⟨i,j,rfl,rfl,hz,q⟩:=h;obtain ⟨t,rfl⟩:=rx;obtain ⟨t',rfl⟩:=ry;exact add_str (fun t' tk=>⟨.str (i++j),H,I.tok _,⟨_,rfl⟩,q⟩) hz
theorem QQ {x:V} {us:List Value} (r:Vals [x] us): ∃u,us=[u]/\RelV x u:=by
 cases r with
 |cons r1 r2=>cases r2;exact ⟨_,rfl,r1⟩
theorem jae {x y:V} {us:List Value} (r:Vals [x,y] us): ∃u w',us=[u,w']/\RelV x u/\RelV y w':=by
 cases r with
 |cons r1 r2=>
  cases r2 with
  |cons r3 r4=>cases r4;exact ⟨_,_,rfl,r1,r3⟩
theorem zO:CallR X (.builtin "divmod") (fun xs H Q=> ∃i j,xs=[.int i,.int j]/\CDiv i j/\ ∀p,H p=none->Q (.ref p) (upd H p (.tup [.int (i/j),.int (i%j)]))):=by
 intro pins s σ H xs us Q I r h;obtain ⟨i,j,rfl,⟨h1,h2⟩,q⟩:=h;obtain ⟨u,w',rfl,⟨t,rfl⟩,⟨t',rfl⟩⟩:=jae r;refine divmod_int (by omega) ?_ (.inl (PyProof.noPylong_small (by omega)));rw [Int.fdiv_eq_ediv_of_nonneg i (by omega),Int.fmod_eq_emod_of_nonneg i (by omega)];have hn:H s.heap.objs.size=none:=I.hok.fresh (aai _);refine ⟨.ref s.heap.objs.size,_,?_,rfl,q _ hn⟩;refine I.laid (fun b o e=>aac _ e) (aai _) ⟨by simp only [aad,aas];rw [ack];decide,[.int (i/j) s.toks,.int (i%j) (s.toks+1)],.cons ⟨_,rfl⟩ (.cons ⟨_,rfl⟩ .nil),?_⟩;exact ⟨_,aam s.heap rfl,rfl,0,rfl⟩
end
end L2
namespace L2
open PySem PySem.Spec PyProof.Rows
structure ObjM (h:Heap) (x dx C:Addr) (mA:Str->Option Value):Prop where
 obj:h.get? x=some (abM C dx)
 ns:h.Ns1 dx mA
 ne:dx≠x
theorem vO {h:Heap} {dx:Addr} {mA:Str->Option Value} (n:h.Ns1 dx mA): ∃od,h.get? dx=some od/\ ∀name,adO name od=some (mA name):=by
 obtain ⟨o,es,ep,ho,hd,hk,_,hm⟩:=n;refine ⟨o,ho,fun name=>?_⟩;have e:=hm name;unfold nsFind findBy at e;rw [←Array.find?_toList] at e;unfold adO;rw [hd];dsimp only
 split
 · rename_i y q;rw [q] at e;exact congrArg some e
 · rename_i q;rw [q] at e
   have a:es.toList.any (·.refKey)=false:=by
    rw [List.any_eq_false];intro y hy;obtain ⟨z,t,hkey⟩:=hk y (Array.mem_toList_iff.mp hy);simp [DictEntry.refKey,hkey]
   have a': ¬es.toList.any (·.refKey)=true:=by rw [a];exact aaz
   rw [if_neg a'];exact congrArg some e
theorem ObjM.look {h:Heap} {x dx C:Addr} {mA:Str->Option Value} (I:ObjM h x dx C mA): ∃od,PySem.W.InstAt h x (abM C dx) C (some od)/\ ∀name,adO name od=some (mA name):=
 let ⟨od,ho,hl⟩:=vO I.ns
 ⟨od,⟨I.obj,rfl,rfl,ho⟩,hl⟩
section
variable {prog:aaD} {w:World} {A:aaX} {E:Value->aaj->Prop} {s:aaj} {K:aaa} {x dx C f:Addr} {mA:Str->Option Value} {name:Str} {v:Value}
theorem jdm {expr:Bool} {Q:Value->aaj->Prop} (X:K.In s.heap) (I:ObjM s.heap x dx C mA) (hg:acD K C name=true) (hh:ac6 K C=true)
  (ha:aa8 K (.ref C) name=some none) (hv:mA name=some v) (hv':PySem.W.handedIn v=true) (h:Q v {s with toks:=s.toks+1}):
  wpAny (model prog w) A (getAttr (.ref x) name expr) Q E s:=by
 obtain ⟨od,J,hl⟩:=I.look;exact PySem.W.get_value X J (adt hg).1 (PySem.W.findObj_own hh ha rfl (by rw [hl,hv])) hv' h
theorem jbg {pl:Sem Bool} {Q:Value×List Value->aaj->Prop} (X:K.In s.heap) (I:ObjM s.heap x dx C mA) (hg:acD K C name=true)
  (hf:aa8 K (.ref C) name=some (some (.ref f))) (ht:ad9 K (.ref f)=true) (hv:mA name=none) (h:Q (.ref f,[.ref x]) s):
  wpAny (model prog w) A (getMethod (.ref x) name pl) Q E s:=by
 obtain ⟨od,J,hl⟩:=I.look;exact PySem.W.method_fn X J (adt hg).1 (adt hg).2 hf (beq_iff_eq.mp ht) (by show (adO name od).map (·.isSome)=some false;rw [hl,hv];rfl) h
theorem jcC {ns:List Str} {Q:Unit->aaj->Prop} (X:K.In s.heap) (I:ObjM s.heap x dx C mA)
  (hs:aa8 K (.ref C) "__setattr__" =some (some (.builtin "object.__setattr__"))) (hp:adW K C=true) (ht:aea K C name=some none) (hh:ac6 K C=true)
  (hw:PySem.Within mA ns) (hsz:ns.length<=aae)
  (h: ∀h',ObjM h' x dx C (fun y=>if y=name then some v else mA y)->acK dx s.heap h'->Q () {s with heap:=h',toks:=s.toks+2}):
  wpAny (model prog w) A (setAttr (.ref x) name v) Q E s:=by
 obtain ⟨od,J,hl⟩:=I.look;refine PySem.W.set_plain X J hs (PySem.W.osa_open (s:={s with toks:=s.toks+1}) (r:=none) X J hp ht fun b=>?_);obtain ⟨cd,hc,hd'⟩:=PySem.W.any_some hh;have hx:s.heap.get? x=some ⟨.ref C,some dx,.plain, #[]⟩:=I.obj;refine aab (aak (aab (aab (wpAny_loadPart hx (aab (PySem.W.Looks.here (s:={s with toks:=s.toks+1}) (PySem.W.looks_clsIn X hc) ?_))))));rw [hd'];refine aak (a:=some dx) (aab (aak (aab ?_)));refine wpAny_nsSet1 (s:={s with toks:=s.toks+1}) I.ns fun h' hn2 hs2=>?_
 obtain ⟨oD,esD,epD,hoD,hdD,hcD⟩:=hn2.count (PySem.Within.cons name v hw);refine aab (wpAny_lookBehind hoD (by rw [hdD];exact pastItsLine_dict (aaC hcD (by rw [aad];omega))) ?_);exact aak (h _ ⟨(hs2.2 _ (acF I.ne)).trans I.obj,hn2,I.ne⟩ hs2)
theorem jaS {R:Result->aaj->Prop} {vs:List Value} {kw:List (Str×Value)} (X:K.In s.heap) (hm:acP K C=true)
  (hi:aa8 K (.ref C) "__init__" =some (some (.ref f))) (hf:PySem.W.typeIn K (.ref f)=some (.type "function"))
  (h:codeAny (model prog w) (A.under (.builtin "type.__call__" ⟨.ref C::vs,kw⟩)) (.call (.ref f) ⟨.ref (s.heap.objs.size+1)::vs,kw⟩) (PySem.W.InitBack (s.heap.objs.size+1) R)
   {s with heap:=(s.heap.push abn).push (abM C s.heap.objs.size)}):
  codeAny (model prog w) A (.call (.ref C) ⟨vs,kw⟩) R s:=by
 obtain ⟨hh,g,d,t,os⟩:=s;exact PySem.W.make_core (PySem.W.makes_of X hm) (PySem.W.looks_findIn X hi) (fun self=>PySem.W.bind_fn X self hf) (.inl rfl) h
end
def putF (f:Str) (v:V):List (Str×V)->List (Str×V)
 | []=>[(f,v)]
 | (g,x)::r=>if g=f then (g,v)::r else (g,x)::putF f v r
theorem Zi (f g:Str) (v:V): ∀fs:List (Str×V),(putF f v fs).lookup g=if g=f then some v else fs.lookup g
 | []=>by
  show abX g [(f,v)]=_
  by_cases h:g=f
  · have hb:(g==f)=true:=beq_iff_eq.mpr h;simp only [abX,hb,if_pos h]
  · have hb:(g==f)=false:=beq_eq_false_iff_ne.mpr h;simp only [abX,hb,if_neg h]
 | (k,x)::r=>by
  have ih:=Zi f g v r;rw [show putF f v ((k,x)::r)=(if k=f then (k,v)::r else (k,x)::putF f v r) from rfl]
  by_cases hk:k=f
  · rw [if_pos hk]
    by_cases h:g=k
    · have hb:(g==k)=true:=beq_iff_eq.mpr h;simp only [abX,hb,if_pos (h.trans hk)]
    · have hb:(g==k)=false:=beq_eq_false_iff_ne.mpr h;simp only [abX,hb,if_neg (fun e:g=f=>h (e.trans hk.symm))]
  · rw [if_neg hk]
    by_cases h:g=k
    · have hb:(g==k)=true:=beq_iff_eq.mpr h;simp only [abX,hb,if_neg (fun e:g=f=>hk (h.symm.trans e))]
    · have hb:(g==k)=false:=beq_eq_false_iff_ne.mpr h;simp only [abX,hb];exact ih
theorem Zl (f:Str) (v:V): ∀fs:List (Str×V),f∈(putF f v fs).map (·.1)/\ ∀g,g∈fs.map (·.1)->g∈(putF f v fs).map (·.1)
 | []=>⟨by simp [putF],fun g h=>by simp at h⟩
 | (k,x)::r=>by
  obtain ⟨i1,i2⟩:=Zl f v r;rw [show putF f v ((k,x)::r)=(if k=f then (k,v)::r else (k,x)::putF f v r) from rfl]
  by_cases hk:k=f
  · rw [if_pos hk];subst hk;exact ⟨by simp,fun g h=>by simpa using h⟩
  · rw [if_neg hk];refine ⟨?_,fun g h=>?_⟩
    · rw [aaw];exact aaI _ i1
    · rw [aaw] at h ⊢;rcases aah.mp h with e|e
      · exact aah.mpr (.inl e)
      · exact aaI _ (i2 g e)
theorem Zk (f:Str) (v:V): ∀fs:List (Str×V),(putF f v fs).length<=fs.length+1
 | []=>by simp [putF]
 | (k,x)::r=>by
  have ih:=Zk f v r;rw [show putF f v ((k,x)::r)=(if k=f then (k,v)::r else (k,x)::putF f v r) from rfl]
  by_cases hk:k=f
  · rw [if_pos hk,aad,aad];omega
  · rw [if_neg hk,aad,aad];omega
theorem RelO.some_of {v:V} {o:Option Value} (r:RelO (some v) o): ∃u,o=some u/\RelV v u:=by
 cases o with
 |none=>exact (show False from r).elim
 |some u=>exact ⟨u,rfl,r⟩
theorem RelO.none_of {o:Option Value} (r:RelO none o):o=none:=by
 cases o with
 |none=>rfl
 |some u=>exact (show False from r).elim
theorem ui {v:V} {u:Value} (r:RelV v u):PySem.W.handedIn u=true:=by
 cases v with
 |non=>cases (show u=abh from r);rfl
 |bl b=>cases (show u=acr b from r);rfl
 |int i=>obtain ⟨t,e⟩:=(show∃t,u=ad7 i t from r);cases e;rfl
 |str x=>obtain ⟨t,e⟩:=(show∃t,u=Value.str x t from r);cases e;rfl
 |byt b=>obtain ⟨t,e⟩:=(show∃t,u=Value.bytes b t from r);cases e;rfl
 |flt b=>obtain ⟨t,e⟩:=(show∃t,u=Value.float b t from r);cases e;rfl
 |ref a=>cases (show u=aaJ a from r);rfl
 |ty n=>cases (show u=ac5 n from r);rfl
section
variable {P:aaD} {w:World} {H H':Hp} {h h':Heap} {a C dx:Addr} {fs fs':List (Str×V)}
theorem WZ (hok:HOk P w H h) (e:H a=some (.ins C dx fs)): ∃mA,ObjM h a dx C mA/\(∀f,RelO (fs.lookup f) (mA f))/\PySem.Within mA (fs.map (·.1))/\fs.length<=1000/\H dx=some (.own a):=by
 obtain ⟨d,z,ne,ob,mA,n,r,q⟩:=(show ObjOk P w H h a (.ins C dx fs) from hok a _ e)
 exact ⟨mA,⟨ob,n,ne⟩,r,q,z,d⟩
end
structure Cls (K:aaa) (C:Addr):Prop where
 pg:acD K C Str.empty=true
 hd:ac6 K C=true
 po:adW K C=true
 sa:aa8 K (.ref C) "__setattr__" =some (some (.builtin "object.__setattr__"))
theorem Cls.get {K:aaa} {C:Addr} (c:Cls K C) (f:Str):acD K C f=true:=c.pg
def NoAttr (K:aaa) (C:Addr) (f:Str):Prop:=aa8 K (.ref C) f=some none
theorem NoAttr.taker {K:aaa} {C:Addr} {f:Str} (n:NoAttr K C f):aea K C f=some none:=by
 unfold aea;rw [show aa8 K (.ref C) f=some none from n];rfl
structure Meth (K:aaa) (C:Addr) (m:Str) (f:Addr):Prop where
 at_:aa8 K (.ref C) m=some (some (.ref f))
 fn:ad9 K (.ref f)=true
 kp:aaR K (.ref f)=true
section
variable {X:Cx} {pins:List (Addr×Obj)} {σ:St} {H:Hp} {s:aaj} {a C dx:Addr} {fs:List (Str×V)} {f:Str} {v:V} {A:aaX} {E:Value->aaj->Prop}
theorem UP {b:Bool} {Q:Value->aaj->Prop} (I:Inv X pins σ H s) (e:H a=some (.ins C dx fs)) (c:Cls X.K C) (n:NoAttr X.K C f) (l:fs.lookup f=some v)
  (h: ∀u s',Inv X pins σ H s'->RelV v u->Q u s'):wpAny (model X.prog X.w) A (getAttr (.ref a) f b) Q E s:=by
 obtain ⟨mA,O,r,_,_,_⟩:=WZ I.hok e;obtain ⟨u,hu,ru⟩:=RelO.some_of (v:=v) (o:=mA f) (by rw [←l];exact r f);exact jdm I.kIn O (c.get f) c.hd n hu (ui ru) (h u _ (I.tok _) ru)
theorem Wi {m:Str} {g:Addr} {pl:Sem Bool} {Q:Value×List Value->aaj->Prop} (I:Inv X pins σ H s) (e:H a=some (.ins C dx fs)) (c:Cls X.K C) (k:Meth X.K C m g) (l:fs.lookup m=none)
  (h:Q (.ref g,[.ref a]) s):wpAny (model X.prog X.w) A (getMethod (.ref a) m pl) Q E s:=by
 obtain ⟨mA,O,r,_,_,_⟩:=WZ I.hok e;have hn:mA m=none:=RelO.none_of (by rw [←l];exact r m);exact jbg I.kIn O (c.get m) k.at_ k.fn hn h
theorem Ul {y:V} {u:Value} {Q:Unit->aaj->Prop} (I:Inv X pins σ H s) (e:H a=some (.ins C dx fs)) (c:Cls X.K C) (n:NoAttr X.K C f) (hl:fs.length<1000) (ry:RelV y u)
   (h: ∀s',Inv X pins σ (upd H a (.ins C dx (putF f y fs))) s'->Q () s'):wpAny (model X.prog X.w) A (setAttr (.ref a) f u) Q E s:=by
 obtain ⟨mA,O,r,wi,_,ho⟩:=WZ I.hok e;have hz:(fs.map (·.1)).length<=aae:=by rw [aan,ack];omega
 refine jcC I.kIn O c.sa c.po n.taker c.hd wi hz fun h' O' sb=>h _ ?_
 have hd: ∃o,h'.get? dx=some o:=let ⟨o,_,_,e',_⟩:=O'.ns;⟨o,e'⟩
 refine I.write (x:=a) (e:=dx) (by rw [e];exact ab3) (.inr ho) (fun b q hb z=>(sb.2 b hb).trans z) hd ?_;refine ⟨by rw [jT O.ne];exact ho,?_,O.ne,O'.obj,_,O'.ns,fun g=>?_,fun g hg=>?_⟩
 · have:=Zk f y fs;omega
 · show RelO ((putF f y fs).lookup g) (if g=f then some u else mA g);rw [Zi]
   by_cases q:g=f
   · rw [if_pos q,if_pos q];exact ry
   · rw [if_neg q,if_neg q];exact r g
 · by_cases q:g=f
   · rw [q];exact (Zl f y fs).1
   · refine (Zl f y fs).2 g (wi g fun z=>hg ?_);show (if g=f then some u else mA g)=none;rw [if_neg q];exact z
theorem Inv.made (I:Inv X pins σ H s):Inv X pins σ (upd (upd H s.heap.objs.size (.own (s.heap.objs.size+1))) (s.heap.objs.size+1) (.ins C s.heap.objs.size []))
  {s with heap:=(s.heap.push abn).push (abM C s.heap.objs.size)}:=by
 have e1:(s.heap.push abn).get? s.heap.objs.size=some abn:=aam s.heap rfl
 have e2:((s.heap.push abn).push (abM C s.heap.objs.size)).get? (s.heap.objs.size+1)=some (abM C s.heap.objs.size):=by
  have:=aam (s.heap.push abn) (o:=abM C s.heap.objs.size) rfl
  rwa [abY] at this
 have e3:(s.heap.push abn).Ns s.heap.objs.size (fun _=>none):=⟨abn, #[],_,e1,rfl,(fun e he=>absurd he (by simp)),fun _=>rfl⟩
 have I1:=I.laid (a:=s.heap.objs.size) (o:= .own (s.heap.objs.size+1)) (h':=s.heap.push abn) (t':=s.toks) (fun b u q=>aac _ q) (aai _) ⟨_,e1⟩;refine I1.laid (a:=s.heap.objs.size+1) (o:= .ins C s.heap.objs.size []) (t':=s.toks) (fun b u q=>aac _ q) (Nat.le_of_eq (abY _ _)) ?_;have ne:s.heap.objs.size≠s.heap.objs.size+1:=aaG (Nat.lt_succ_self _);refine ⟨by rw [jT ne,jB],abp _,ne,e2,fun _=>none,(Heap.Ns1.of_empty e3).at fun o q=>aac _ q,fun _=>ab3,fun y hy=>absurd rfl hy⟩
theorem jdU {prog:aaD} {w:World} {env:Env} {e:Expr} {f:Str} {pos:Pos} {s:aaj} {Q:Value->aaj->Prop} (hb:abf e f env (eval e env)=eval e env)
  (h:wpAny (model prog w) A (eval e env) (fun o s₁=>wpAny (model prog w) A (getAttr o f true) Q E s₁) E s):wpAny (model prog w) A (eval (.Attribute e f pos) env) Q E s:=
 Attribute_any_ h (by rw [arm_eval_Attribute,hb])
end
def tFld (K:aaa) (ta:TE) (f:Str):TE:=fun σ H Q=>ta σ H fun x H1=> ∃a C dx fs v,x= .ref a/\H1 a=some (.ins C dx fs)/\Cls K C/\NoAttr K C f/\fs.lookup f=some v/\Q v H1
def sFld (K:aaa) (ta tv:TE) (f:Str):TS:=fun D σ H=>tv σ H fun y H1=>ta σ H1 fun x H2=> ∃a C dx fs,x= .ref a/\H2 a=some (.ins C dx fs)/\Cls K C/\NoAttr K C f/\fs.length<1000/\
 D.nx σ (upd H2 a (.ins C dx (putF f y fs)))
section
variable {X:Cx} {o e value:Expr} {f:Str} {pos pos' tpos:Pos} {ta tv:TE}
theorem jeE (he:PE X e ta) (hb:abf e f X.env (eval e X.env)=eval e X.env):PE X (.Attribute e f pos) (tFld X.K ta f):=by
 intro pins s σ H Q I h;refine jdU hb (thn (he pins s σ H _ I h) fun u s1 ⟨x,H1,I1,rx,a,C,dx,fs,v,ex,ea,c,n,l,q⟩=>?_);subst ex;obtain rfl:u=aaJ a:=rx;exact UP I1 ea c n l fun u' s2 I2 ru=>⟨v,H1,I2,ru,q⟩
theorem jeu (ha:PE X o ta) (hv:PE X value tv) (hs:ab1 value (some (.Attribute o f pos')) pos.line X.env=pure false):PS X (.Assign [.Attribute o f pos'] value pos) (sFld X.K ta tv f):=by
 intro pins s σ H D I h;refine plainObj_wpAny_Assign_Attribute (thn (hv pins s σ H _ I h) fun u s1 ⟨y,H1,I1,ry,q⟩=>thn (ha pins s1 σ H1 _ I1 q) fun ov s2 ⟨x,H2,I2,rx,a,C,dx,fs,ex,ea,c,n,l,q2⟩=>?_) hs;subst ex;obtain rfl:ov=aaJ a:=rx;exact Ul I2 ea c n l ry fun s3 I3=>⟨σ,_,I3,q2⟩
end
section
variable {X:Cx} {pins:List (Addr×Obj)} {σ:St} {H:Hp} {s:aaj} {A:aaX} {E:Value->aaj->Prop} {Q:Value->aaj->Prop} {c:Value} {b:Bool}
inductive TyOf (K:aaa) (H:Hp):V->Value->Prop where
 |non:TyOf K H .non (.type "NoneType")
 |bl (x:Bool):TyOf K H (.bl x) (.type "bool")
 |int (i:Int):TyOf K H (.int i) (.type "int")
 |str (x:Str):TyOf K H (.str x) (.type "str")
 |flt (x:UInt64):TyOf K H (.flt x) (.type "float")
 |lst {a:Addr} {xs:List V} (e:H a=some (.lst xs)):TyOf K H (.ref a) (.type "list")
 |frz {a:Addr} {o:Obj} {xs:List V} (e:H a=some (.frz o (.lst xs))):TyOf K H (.ref a) (.type "list")
 |tup {a:Addr} {xs:List V} (e:H a=some (.tup xs)):TyOf K H (.ref a) (.type "tuple")
 |dK {a:Addr} {kvs:List (Key×V)} (e:H a=some (.dK kvs)):TyOf K H (.ref a) (.type "dict")
 |dT {a:Addr} {kvs:List (List Key×V)} (e:H a=some (.dT kvs)):TyOf K H (.ref a) (.type "dict")
 |ins {a C dx:Addr} {fs:List (Str×V)} (e:H a=some (.ins C dx fs)) (cl:Cls K C) (ha:aa8 K (.ref C) "__class__" =some (some (.builtin "object.__class__")))
  (hn:PySem.W.specialIn K (.builtin "object.__class__") "__get__" =some (some (.builtin "getset_descriptor.__get__"))) (htk:PySem.W.takesIn K (.builtin "object.__class__")=some true)
  (hm:PySem.W.mroIn K C (.type "object")=some true):TyOf K H (.ref a) (.ref C)
theorem vW {x:V} {u t:Value} (I:Inv X pins σ H s) (rx:RelV x u) (ty:TyOf X.K H x t) (e:abK X.K t c=some b) (h: ∀tk,Q (.bool b) {s with toks:=tk}):
  wpAny (model X.prog X.w) A (call (.builtin "isinstance") [u,c]) Q E s:=by
 cases ty with
 |non=>cases (show u=abh from rx);exact abi PySem.W.kitx_none I.kIn ab3 e (fun z=>nomatch z) h
 |bl y=>cases (show u=acr y from rx);exact abi PySem.W.kitx_bool I.kIn ab3 e (fun z=>nomatch z) h
 |int i=>obtain ⟨t,q⟩:=(show∃t,u=ad7 i t from rx);cases q;exact abi PySem.W.kitx_int I.kIn ab3 e (fun z=>nomatch z) h
 |str y=>obtain ⟨t,q⟩:=(show∃t,u=Value.str y t from rx);cases q;exact abi PySem.W.kitx_str I.kIn ab3 e (fun z=>nomatch z) h
 |flt y=>obtain ⟨t,q⟩:=(show∃t,u=Value.float y t from rx);cases q;exact abi PySem.W.kitx_float I.kIn ab3 e (fun z=>nomatch z) h
 | @lst a xs ea=>
  cases (show u=aaJ a from rx);obtain ⟨_,_,n,_,h1⟩:=(show ObjOk X.prog X.w H s.heap a (.lst xs) from I.hok a _ ea)
  exact abi PySem.W.kitx_list I.kIn ⟨_,h1,rfl⟩ e (fun z=>nomatch z) h
 | @frz a ob xs ea=>
  cases (show u=aaJ a from rx);obtain ⟨_,_,_,n,_,h1⟩:=(show ObjOk X.prog X.w H s.heap a (.frz ob (.lst xs)) from I.hok a _ ea)
  exact abi PySem.W.kitx_list I.kIn ⟨_,h1,rfl⟩ e (fun z=>nomatch z) h
 | @tup a xs ea=>
  cases (show u=aaJ a from rx);obtain ⟨_,_,_,p⟩:=(show ObjOk X.prog X.w H s.heap a (.tup xs) from I.hok a _ ea)
  obtain ⟨o,h1,h2,_⟩:=p;exact abi PySem.W.kitx_tuple I.kIn ⟨o,h1,h2⟩ e (fun z=>nomatch z) h
 | @dK a kvs ea=>
  cases (show u=aaJ a from rx);obtain ⟨_,_,vs,_,p⟩:=(show ObjOk X.prog X.w H s.heap a (.dK kvs) from I.hok a _ ea)
  obtain ⟨o,es,ep,h1,h2,_⟩:=p;exact abi PySem.W.kitx_dict I.kIn ⟨o,h1,h2.1⟩ e (fun z=>nomatch z) h
 | @dT a kvs ea=>
  cases (show u=aaJ a from rx);obtain ⟨_,_,xs,_,o,es,ep,h1,h2,_⟩:=(show ObjOk X.prog X.w H s.heap a (.dT kvs) from I.hok a _ ea)
  exact abi PySem.W.kitx_dict I.kIn ⟨o,h1,h2.1⟩ e (fun z=>nomatch z) h
 | @ins a C dx fs ea cl ha hn htk hm=>
  cases (show u=aaJ a from rx);obtain ⟨mA,O,_⟩:=WZ I.hok ea;obtain ⟨od,J,_⟩:=O.look;exact abi (PySem.W.kitx_own (cl.get _) cl.hd ha hn htk hm) I.kIn J e (fun z=>nomatch z) h
end
end L2
namespace L2
open PySem PySem.Spec PyProof.Rows
structure Room (k:Nat) (A:aaX):Prop where
 hd:A.handled=none
 dp:A.depth+3*k+5<recursionLimit
 un:A.units+16*k+200<cLine
theorem Room.mono {j k:Nat} {A:aaX} (r:Room k A) (h:j<=k):Room j A:=⟨r.hd,by have:=r.dp;omega,by have:=r.un;omega⟩
theorem Room.deeper {k:Nat} {A:aaX} (r:Room (k+1) A) (env:Env):Room k (A.deeper env):=
 ⟨r.hd,by have:=r.dp;show A.depth+1+3*k+5<_;omega,by have:=r.un;show A.units+3+16*k+200<_;omega⟩
theorem UI {A:aaX} {C:Addr} {us:List Value} {kw:List (Str×Value)}:(A.under (.builtin "type.__call__" ⟨.ref C::us,kw⟩)).depth=A.depth+1:=by
 first|rfl|simp [Around.under,Code.weight,Code.isCreation,Code.isGuard,Code.isCaller,Code.frames,Code.isFrame,guardIds]
theorem UH {A:aaX} {C:Addr} {us:List Value} {kw:List (Str×Value)}:(A.under (.builtin "type.__call__" ⟨.ref C::us,kw⟩)).units=A.units+1:=by
 first|rfl|simp [Around.under,Code.cUnits,Code.frames,Code.isFrame]
theorem Room.make {k:Nat} {A:aaX} (r:Room (k+1) A) (C:Addr) (us:List Value) (kw:List (Str×Value)):Room k (A.under (.builtin "type.__call__" ⟨.ref C::us,kw⟩)):=
 ⟨r.hd,by have:=r.dp;rw [UI];omega,by have:=r.un;rw [UH];omega⟩
theorem Room.depth {k:Nat} {A:aaX} (r:Room k A):A.depth<recursionLimit:=by have:=r.dp;omega
theorem Room.units {k:Nat} {A:aaX} (r:Room k A):A.units+64<cLine:=by have:=r.un;omega
def tNil:TA:=fun _ H Q=>Q [] H
def jgn (ta:TE) (tr:TA):TA:=fun σ H Q=>ta σ H fun x H1=>tr σ H1 fun xs H2=>Q (x::xs) H2
section
variable {X:Cx} {e:Expr} {es:List Expr} {te:TE} {t:TA} {pos:Pos}
theorem wv:PA X [] tNil:=fun _ _ _ _ H Q I h=>Calls.spliced_nil ⟨[],H,I,.nil,h⟩
theorem j8 (ha:PE X e te) (hr:PA X es t) (hs:aal (e::es) X.env=(false,eval e X.env)::aal es X.env:=by rfl):PA X (e::es) (jgn te t):=by
 intro pos pins s σ H Q I h;rw [hs];show wpAny _ _ (spliced ((false,eval e X.env)::abd pos (aal es X.env))) _ _ s;refine Calls.spliced_cons (thn (ha pins s σ H _ I h) fun u s1 ⟨x,H1,I1,r1,q1⟩=>?_);exact thn (hr pos pins s1 σ H1 _ I1 q1) fun us s2 ⟨xs,H2,I2,r2,q2⟩=>⟨x::xs,H2,I2,.cons r1 r2,q2⟩
def tTup (t:TA):TE:=fun σ H Q=>t σ H fun xs H1=>xs.length<=aae/\ ∀p,H1 p=none->Q (.ref p) (upd H1 p (.tup xs))
def tLst (t:TA):TE:=fun σ H Q=>t σ H fun xs H1=>xs.length<=aae/\ ∀p,H1 p=none->Q (.ref p) (upd H1 p (.lst xs))
theorem jey {x1} (h:PA X es t):PE X (.Tuple es x1 pos) (tTup t):=by
 intro pins s σ H Q I hq;refine wpAny_Tuple_spliced (thn (h pos pins s σ H _ I hq) fun us s1 ⟨xs,H1,I1,r,z,q⟩=>⟨by rw [←r.length];exact z,?_⟩);have hf:H1 s1.heap.objs.size=none:=I1.hok.fresh (aai _);refine ⟨.ref s1.heap.objs.size,upd H1 s1.heap.objs.size (.tup xs),I1.laid (t':=s1.toks) (fun b u e=>aac _ e) (aai _) ?_,rfl,q _ hf⟩;exact ⟨z,us,r,⟨_,aam _ rfl,rfl,_,rfl⟩⟩
theorem jeC (h:PA X es t):PE X (.List es pos) (tLst t):=by
 intro pins s σ H Q I hq;refine wpAny_List_spliced (thn (h pos pins s σ H _ I hq) fun us s1 ⟨xs,H1,I1,r,z,q⟩=>⟨by rw [←r.length];exact z,?_⟩);have hf:H1 s1.heap.objs.size=none:=I1.hok.fresh (aai _);refine ⟨.ref s1.heap.objs.size,upd H1 s1.heap.objs.size (.lst xs),I1.laid (t':=s1.toks) (fun b u e=>aac _ e) (aai _) ?_,rfl,q _ hf⟩;exact ⟨z,us,0,r,aam _ rfl⟩
end
abbrev Sp:=List V->Hp->VK->XK->Prop
abbrev CXT:=List Env->Hp->aaj->XK->Value->aaj->Prop
structure Env0 (P:aaD) (w:World) (K:aaa) (mg:Str->Option Value) (base:Heap) (A:aaX) (outer:List Env) (s:aaj) (H:Hp):Prop where
 frames:A.frames=some outer
 mod:Mod K mg base
 bs: ∀b o,base.get? b=some o->s.heap.get? b=some o/\H b=none
 bsz:base.objs.size<=s.heap.objs.size
 funs:s.heap.FunFrames base outer
 frf: ∀b∈frs outer,H b=none
 hok:HOk P w H s.heap
 bare:ad8 s.gens
def CE (outer:List Env) (P:aaD) (w:World) (H:Hp) (s:aaj) (Q:VK) (u:Value) (s':aaj):Prop:=
 ∃v H',s'.os=s.os/\ad8 s'.gens/\Un (frs outer) [] H H' s.heap s'.heap/\HOk P w H' s'.heap/\RelV v u/\Q v H'
def CR (CX:CXT) (outer:List Env) (P:aaD) (w:World) (H:Hp) (s:aaj) (Q:VK) (E:XK) (r:Result) (s':aaj):Prop:=
 match r with
 | .ok (.ret u)=>CE outer P w H s Q u s'
 | .ok _=>False
 | .error e=>CX outer H s E e s'
structure FnOk (P:aaD) (w:World) (K:aaa) (mg:Str->Option Value) (base:Heap) (CX:CXT) (k:Nat) (f:Addr) (fd:abC) (ps:List Str) (sp:Sp):Prop where
 len: ∀vs H Q E,sp vs H Q E->vs.length=ps.length
 run: ∀(A:aaX) (outer:List Env) (s:aaj) (H:Hp) (args:Args) (us:List Value) (vs:List V) (Q:VK) (E:XK),Room k A->Env0 P w K mg base A outer s H->BindsTo s fd args (ps.zip us)->Vals vs us->sp vs H Q E->
  codeAny (model P w) A (.call (.ref f) args) (CR CX outer P w H s Q E) s
theorem FnOk.mono {P:aaD} {w:World} {K:aaa} {mg:Str->Option Value} {base:Heap} {CX:CXT} {j k:Nat} {f:Addr} {fd:abC} {ps:List Str} {sp:Sp} (F:FnOk P w K mg base CX j f fd ps sp) (h:j<=k):
 FnOk P w K mg base CX k f fd ps sp:=⟨F.len,fun A outer s H args us vs Q E hr=>F.run A outer s H args us vs Q E (hr.mono h)⟩
theorem Env0.make {P:aaD} {w:World} {K:aaa} {mg:Str->Option Value} {base:Heap} {A:aaX} {outer:List Env} {s:aaj} {H:Hp} (e:Env0 P w K mg base A outer s H) (C:Addr) (us:List Value) (kw:List (Str×Value)):
 Env0 P w K mg base (A.under (.builtin "type.__call__" ⟨.ref C::us,kw⟩)) outer s H:=⟨by first|exact e.frames| (simpa [Around.under,Code.envs,Code.isFrame,pushEnvs] using e.frames),e.mod,e.bs,e.bsz,e.funs,e.frf,e.hok,e.bare⟩
section
variable {X:Cx} {pins:List (Addr×Obj)} {σ:St} {H:Hp} {s s':aaj}
theorem Inv.env0 (I:Inv X pins σ H s):Env0 X.prog X.w X.K X.mg X.base X.A X.stack s H:=
 ⟨I.ok.frames,I.ok.mod,I.bs,aaC I.ok.bsz I.sz,I.stack,I.stkFree,I.hok,I.bare⟩
theorem Inv.after {Q:VK} {u:Value} (I:Inv X pins σ H s) (h:CE X.stack X.prog X.w H s Q u s'):EP X pins σ Q u s':=by
 obtain ⟨v,H',os,bare,un,hok,r,q⟩:=h;obtain ⟨hh,g,d,t,os'⟩:=s';obtain rfl:os'=s.os:=os;exact ⟨v,H',I.call (h':=hh) (g':=g) (d':=d) (t':=t) (ch:=[]) un hok bare (fun b z=>absurd z (by simp)),r,q⟩
end
def jgo (sp:Sp) (dvs:List V) (E:XK) (t:TA):TE:=fun σ H Q=>t σ H fun vs H1=>sp (vs++dvs) H1 Q E
def jec (C:Addr) (m:Str) (sp:Sp) (dvs:List V) (E:XK) (ta:TE) (t:TA):TE:=fun σ H Q=>ta σ H fun x H1=> ∃a dx fs,x= .ref a/\H1 a=some (.ins C dx fs)/\fs.lookup m=none/\
 t σ H1 fun vs H2=>sp (x::(vs++dvs)) H2 Q E
def jgl (C:Addr) (sp:Sp) (dvs:List V) (E:XK) (t:TA):TE:=fun σ H Q=>t σ H fun vs H1=> ∀x dx,H1 x=none->H1 dx=none->dx≠x->
 sp (.ref x::(vs++dvs)) (upd (upd H1 dx (.own x)) x (.ins C dx [])) (fun v H2=>v= .non/\Q (.ref x) H2) E
def Binds (K:aaa) (fd:abC) (ps:List Str) (ds:List Value):Prop:=
 ∀(s:aaj) (us:List Value),K.In s.heap->(us++ds).length=ps.length->BindsTo s fd ⟨us,[]⟩ (ps.zip (us++ds))
theorem Binds.all {K:aaa} {fd:abC} {ps:List Str} (h: ∀us:List Value,us.length=ps.length->bindArgs fd ⟨us,[]⟩=pure (ps.zip us)):Binds K fd ps []:=fun s us _ hl=>by
 rw [abj] at hl ⊢;exact .of_eq (h us hl)
def yJ (CX:CXT) (X:Cx) (E:XK):Prop:= ∀(pins:List (Addr×Obj)) (σ:St) (H:Hp) (s:aaj) (e:Value) (s':aaj),Inv X pins σ H s->CX X.stack H s E e s'->X.xe e s'
section
variable {X:Cx} {CX:CXT} {k:Nat} {f C:Addr} {fd:abC} {ps:List Str} {sp:Sp} {dvs:List V} {ds:List Value} {E:XK} {x m:Str} {p pos apos:Pos} {e o:Expr} {es:List Expr} {ta:TE} {t:TA}
theorem kL {pins:List (Addr×Obj)} {σ:St} {H:Hp} {s:aaj} {Q:VK} {us:List Value} {vs:List V} (F:FnOk X.prog X.w X.K X.mg X.base CX k f fd ps sp) (hr:Room k X.A) (hb:Binds X.K fd ps ds) (hd:Vals dvs ds) (hx:yJ CX X E)
  (I:Inv X pins σ H s) (r:Vals vs us) (h:sp (vs++dvs) H Q E):wpAny (model X.prog X.w) X.A (call (.ref f) us) (EP X pins σ Q) X.xe s:=by
 have r2:Vals (vs++dvs) (us++ds):=r.append hd;have hl:(us++ds).length=ps.length:=by rw [←r2.length];exact F.len _ _ _ _ h
 refine wpAny_call (codeAny_mono (F.run X.A X.stack s H ⟨us,[]⟩ (us++ds) (vs++dvs) Q E hr I.env0 (hb s us I.kIn hl) r2 h) fun r s' hq=>?_)
 cases r with
 |error e=>exact hx pins σ H s e s' I hq
 |ok fl=>
  cases fl with
  |ret u=>exact I.after hq
  |next=>exact abS hq
  |brk=>exact abS hq
  |cont=>exact abS hq
theorem WF (F:FnOk X.prog X.w X.K X.mg X.base CX k f fd ps sp) (hr:Room k X.A) (hg:Gl X x) (hm:X.mg x=some (.ref f)) (hk:aaR X.K (.ref f)=true) (hb:Binds X.K fd ps ds) (hd:Vals dvs ds) (hx:yJ CX X E)
  (ha:PA X (e::es) t) (hdb:(x==("__debug__" :Str))=false:=by decide) (he:aal (e::es) X.env=(false,eval e X.env)::aal es X.env:=by rfl) (hpl:(abd pos (aal es X.env)).any (·.1)=false:=by rfl):
  PE X (.Call (.Name x p) (e::es) [] pos) (jgo sp dvs E t):=by
 intro pins s σ H Q I h;refine acQ (Ke I hg hm ?_ hdb);refine adG (h₀:=X.base) I.ok.mod.kin hk (thn (ha pos pins s σ H _ I h) fun us s1 ⟨vs,H1,I1,r,q⟩=>⟨I1.kIn,?_⟩) he hpl;exact kL F hr hb hd hx I1 r q
theorem jcQ {pl:Sem Bool} (he:PE X o ta) (c:Cls X.K C) (hm:Meth X.K C m f) (F:FnOk X.prog X.w X.K X.mg X.base CX k f fd ps sp) (hr:Room k X.A) (hb:Binds X.K fd ps ds) (hd:Vals dvs ds) (hx:yJ CX X E) (ha:PA X (e::es) t)
  (hst:aal (e::es) X.env=(false,eval e X.env)::aal es X.env:=by rfl) (hpl:(abd pos (aal es X.env)).any (·.1)=false:=by rfl)
  (ht:eval (.Call (.Attribute o m apos) (e::es) [] pos) X.env=(do
   let ov←eval o X.env
   adN apos.atName
   let (f,first)←adq [ov] (getMethod ov m pl)
   callWith pos f first (abd pos (aal (e::es) X.env)) (acs pos (abz [] X.env))):=by rfl):
  PE X (.Call (.Attribute o m apos) (e::es) [] pos) (jec C m sp dvs E ta t):=by
 intro pins s σ H Q I h;refine PySem.W.methodCall_KW (pl:=pl) (thn (he pins s σ H _ I h) fun u s1 ⟨x,H1,I1,rx,a,dx,fs,ex,ea,l,q⟩=>?_) ht;subst ex;obtain rfl:u=aaJ a:=rx;refine Wi I1 ea c hm l ?_;refine adG (first:=[.ref a]) (h₀:=X.base) I.ok.mod.kin hm.kp (thn (ha pos pins s1 σ H1 _ I1 q) fun us s2 ⟨vs,H2,I2,r,q2⟩=>⟨I2.kIn,?_⟩) hst hpl;exact kL (us:= .ref a::us) (vs:= .ref a::vs) F hr hb hd hx I2 (.cons rfl r) q2
theorem jay {pl:Sem Bool} (he:PE X o ta) (c:Cls X.K C) (hm:Meth X.K C m f) (F:FnOk X.prog X.w X.K X.mg X.base CX k f fd ps sp) (hr:Room k X.A) (hb:Binds X.K fd ps ds) (hd:Vals dvs ds) (hx:yJ CX X E)
  (ht:eval (.Call (.Attribute o m apos) [] [] pos) X.env=(do
   let ov←eval o X.env
   adN apos.atName
   let (f,first)←adq [ov] (getMethod ov m pl)
   callWith pos f first (abd pos (aal [] X.env)) (acs pos (abz [] X.env))):=by rfl):
  PE X (.Call (.Attribute o m apos) [] [] pos) (jec C m sp dvs E ta tNil):=by
 intro pins s σ H Q I h;refine PySem.W.methodCall_KW (pl:=pl) (thn (he pins s σ H _ I h) fun u s1 ⟨x,H1,I1,rx,a,dx,fs,ex,ea,l,q⟩=>?_) ht;subst ex;obtain rfl:u=aaJ a:=rx;refine Wi I1 ea c hm l ?_;exact PySem.W.callWith_K0 (first:=[.ref a]) I1.kIn hm.kp (kL (us:=[.ref a]) (vs:=[.ref a]) F hr hb hd hx I1 (.cons rfl .nil) q)
structure Mk (K:aaa) (C f:Addr):Prop where
 makes:acP K C=true
 init:aa8 K (.ref C) "__init__" =some (some (.ref f))
 fn:ad9 K (.ref f)=true
 kp:aaR K (.ref C)=true
theorem jan {pins:List (Addr×Obj)} {σ:St} {H:Hp} {s:aaj} {Q:VK} {us:List Value} {vs:List V} (M:Mk X.K C f) (F:FnOk X.prog X.w X.K X.mg X.base CX k f fd ps sp) (hr:Room (k+1) X.A) (hb:Binds X.K fd ps ds) (hd:Vals dvs ds)
  (hx:yJ CX X E) (I:Inv X pins σ H s) (r:Vals vs us)
  (h: ∀x dx,H x=none->H dx=none->dx≠x->sp (.ref x::(vs++dvs)) (upd (upd H dx (.own x)) x (.ins C dx [])) (fun v H2=>v= .non/\Q (.ref x) H2) E):
  wpAny (model X.prog X.w) X.A (call (.ref C) us) (EP X pins σ Q) X.xe s:=by
 have hq:=h (s.heap.objs.size+1) s.heap.objs.size (I.hok.fresh (adu _)) (I.hok.fresh (aai _)) (aaG (Nat.lt_succ_self _));have I2:=Inv.made (C:=C) I;have r2:Vals (V.ref (s.heap.objs.size+1)::(vs++dvs)) (aaJ (s.heap.objs.size+1)::(us++ds)):= .cons rfl (r.append hd)
 have hl:(aaJ (s.heap.objs.size+1)::us++ds).length=ps.length:=by
  have e:=r2.length;rw [F.len _ _ _ _ hq] at e;exact e.symm
 refine wpAny_call (jaS (f:=f) I.kIn M.makes M.init (beq_iff_eq.mp M.fn) (codeAny_mono (F.run _ X.stack _ _ ⟨aaJ (s.heap.objs.size+1)::us,[]⟩ (aaJ (s.heap.objs.size+1)::(us++ds)) _ _ E (hr.make C us [])
  (I2.env0.make C us []) (hb _ (aaJ (s.heap.objs.size+1)::us) I2.kIn hl) r2 hq) fun r s' hq'=>?_))
 cases r with
 |error e=>exact hx pins σ _ _ e s' I2 hq'
 |ok fl=>
  cases fl with
  |ret u=>
   obtain ⟨v,H',I3,rv,ev,q3⟩:=I2.after hq';subst ev;exact ⟨rv,⟨V.ref (s.heap.objs.size+1),H',I3,rfl,q3⟩⟩
  |next=>exact abS hq'
  |brk=>exact abS hq'
  |cont=>exact abS hq'
theorem jcR (M:Mk X.K C f) (F:FnOk X.prog X.w X.K X.mg X.base CX k f fd ps sp) (hr:Room (k+1) X.A) (hg:Gl X x) (hm:X.mg x=some (.ref C)) (hb:Binds X.K fd ps ds) (hd:Vals dvs ds) (hx:yJ CX X E)
  (ha:PA X (e::es) t) (hdb:(x==("__debug__" :Str))=false:=by decide) (he:aal (e::es) X.env=(false,eval e X.env)::aal es X.env:=by rfl) (hpl:(abd pos (aal es X.env)).any (·.1)=false:=by rfl):
  PE X (.Call (.Name x p) (e::es) [] pos) (jgl C sp dvs E t):=by
 intro pins s σ H Q I h;refine acQ (Ke I hg hm ?_ hdb);refine adG (h₀:=X.base) I.ok.mod.kin M.kp (thn (ha pos pins s σ H _ I h) fun us s1 ⟨vs,H1,I1,r,q⟩=>⟨I1.kIn,?_⟩) he hpl;exact jan M F hr hb hd hx I1 r q
end
structure FnScope (N P:List Str) (sc:Scope):Prop where
 kind:sc.kind= .function
 co:sc.isCoroutine=false
 gen:sc.isGenerator=false
 nd:N.Nodup
 pre:N.take P.length=P
 par: ∀x∈P,sc.names.lookup x=some .local\/sc.names.lookup x=some .cell
 nofree: ∀y∈sc.names,y.2≠ .free
theorem Yj {kindOf:Str->Option NameKind} {x:Str}: ∀ {binds:List (Str×Value)} {m:Str->Option Value},(∀v,(x,v)∉binds)->bindL kindOf binds m x=m x
 | [],_,_=>rfl
 | (n,v)::r,m,h=>by
  unfold bindL;rw [Yj fun w hw=>h w (aaI _ hw)]
  split
  · have:x≠n:=by rintro rfl;exact h v aa1
    simp [this]
  · rfl
theorem Yl {kindOf:Str->Option NameKind} {x:Str}: ∀ {binds:List (Str×Value)} {m:Str->Option Value},(∀v,(x,v)∉binds)->bindC kindOf binds m x=m x
 | [],_,_=>rfl
 | (n,v)::r,m,h=>by
  unfold bindC;rw [Yl fun w hw=>h w (aaI _ hw)]
  split
  · rfl
  · have:x≠n:=by rintro rfl;exact h v aa1
    simp [this]
theorem Yk {kindOf:Str->Option NameKind} {x:Str} {v:Value}: ∀ {P:List Str} {vs:List Value} {i:Nat} {m:Str->Option Value},P.Nodup->P[i]?=some x->vs[i]?=some v->kindOf x=some .local->
  bindL kindOf (P.zip vs) m x=some v
 | [],_,_,_,_,h,_,_=>by simp at h
 |_::_,[],_,_,_,_,h,_=>by simp at h
 |p::P,w::vs,0,m,nd,h1,h2,hk=>by
  simp at h1 h2;subst h1;subst h2;show bindL kindOf ((p,w)::P.zip vs) m p=_;unfold bindL;rw [Yj fun v hv=>(abN.mp nd).1 (acl hv).1,if_pos hk];simp
 |p::P,w::vs,i+1,m,nd,h1,h2,hk=>by
  show bindL kindOf ((p,w)::P.zip vs) m x=_;unfold bindL;exact Yk (i:=i) (abN.mp nd).2 (by simpa using h1) (by simpa using h2) hk
theorem Ym {kindOf:Str->Option NameKind} {x:Str} {v:Value}: ∀ {P:List Str} {vs:List Value} {i:Nat} {m:Str->Option Value},P.Nodup->P[i]?=some x->vs[i]?=some v->kindOf x≠some .local->
  bindC kindOf (P.zip vs) m x=some v
 | [],_,_,_,_,h,_,_=>by simp at h
 |_::_,[],_,_,_,_,h,_=>by simp at h
 |p::P,w::vs,0,m,nd,h1,h2,hk=>by
  simp at h1 h2;subst h1;subst h2;show bindC kindOf ((p,w)::P.zip vs) m p=_;unfold bindC;rw [Yl fun v hv=>(abN.mp nd).1 (acl hv).1,if_neg hk];simp
 |p::P,w::vs,i+1,m,nd,h1,h2,hk=>by
  show bindC kindOf ((p,w)::P.zip vs) m x=_;unfold bindC;exact Ym (i:=i) (abN.mp nd).2 (by simpa using h1) (by simpa using h2) hk
def start (N:List Str) (vs:List V):St:=vs.map some++acw (N.length-vs.length) none
def cxOf (CX:CXT) (P:aaD) (w:World) (K:aaa) (mg:Str->Option Value) (base:Heap) (N:List Str) (qual:Str) (scope:Scope) (f:Addr) (cd:Value) (A:aaX) (outer:List Env) (s:aaj) (H:Hp) (E:XK):Cx where
 prog:=P
 w:=w
 K:=K
 mg:=mg
 base:=base
 A:=A.deeper (acR qual scope s.heap.objs.size f cd)
 N:=N
 s₀:=s
 H₀:=H
 env:=acR qual scope s.heap.objs.size f cd
 outer:=outer
 stack:=acR qual scope s.heap.objs.size f cd::outer
 ex:=[]
 calm:=true
 fn:=fun _=>true
 pn:=[]
 xe:=fun e s'=>wpAny (model P w) (A.deeper (acR qual scope s.heap.objs.size f cd)) (leaving (acR qual scope s.heap.objs.size f cd) e) (fun _ s''=>CX outer H s E e s'') (fun e' s''=>CX outer H s E e' s'') s'
theorem VV {sc:Scope} {n:Nat} {x:Str} (h:sc.names.lookup x=some .cell): ∃c,(cellsFrom n sc.names []).lookup x=some c:=by
 have q:=PySem.W.cellsFrom_some sc.names n [] (.inl h);exact Option.isSome_iff_exists.mp q
theorem vX {CX:CXT} {P:aaD} {w:World} {K:aaa} {mg:Str->Option Value} {base:Heap} {N ps:List Str} {qual:Str} {scope:Scope} {f:Addr} {cd:Value} {A:aaX} {outer:List Env} {s s1:aaj} {H:Hp} {E:XK} {us:List Value} {vs:List V}
   (S:FnScope N ps scope) (hd:A.handled=none) (e0:Env0 P w K mg base A outer s H) (hl:vs.length=ps.length) (r:Vals vs us)
   (x:InCallC s s.heap.objs.size (bindL (acR qual scope s.heap.objs.size f cd).kindOf (ps.zip us) fun _=>none) (cellsFrom (s.heap.objs.size+1) scope.names []) (bindC (acR qual scope s.heap.objs.size f cd).kindOf (ps.zip us) fun _=>none) s1):
   Inv (cxOf CX P w K mg base N qual scope f cd A outer s H E) [] (start N vs) H s1:=by
 have hpl:ps.length<=N.length:=by have:=congrArg List.length S.pre;rw [acE] at this;omega
 obtain ⟨h1,tk,rfl,hk⟩:=x.done;have noA: ∀b:Addr,b∉(cxOf CX P w K mg base N qual scope f cd A outer s H E).ex:=fun b z=>absurd (show b∈([]:List Addr) from z) (by simp)
 refine ⟨⟨e0.mod,S.kind,rfl,rfl,aai _,fun y z c h1 h2=>?_,fun y hy=>?_,fun y c _ h=>?_,fun _=>hd,Around.frames_deeper e0.frames,.inr ⟨rfl,rfl⟩,fun b z=>absurd z (noA b),e0.bs,e0.bsz,fun b _ _=>noA b,fun b z=>absurd z (noA b),e0.funs,e0.frf⟩,
   rfl,e0.bare,Un.kept hk,⟨_,x.toInCall.ns,fun i y v h1 h2 h3=>?_⟩,fun y c h=>⟨_,x.cell y c h⟩,e0.hok.fresh (aai _),fun y c h=>?_,fun p hp=>absurd (show p∈([]:List (Addr×Obj)) from hp) (by simp),e0.hok.kept hk,?_⟩
 · exact name_of_addr x.apart (abA h1) (abA h2)
 · have hy:scope.names.lookup y=some .cell\/scope.names.lookup y=some .free:=hy;rcases hy with hy|hy
   · exact VV hy
   · exact absurd rfl (S.nofree _ (abA hy))
 · exact Nat.le_of_lt (x.above y c (abA h))
 · have hi:i<vs.length:=by
     unfold start at h2
     by_cases hi:i<vs.length
     · exact hi
     · rw [aar (by simpa using hi)] at h2;rw [aaW] at h2
       split at h2<;>cases h2
   have ha:vs[i]?=some v:=by
     unfold start at h2;rw [aau (by simpa using hi),aaH] at h2
     cases e:vs[i]? with
     |none=>rw [e] at h2;cases h2
     |some a=>rw [e] at h2;cases h2;rfl
   obtain ⟨u,hu,rv⟩:=r.get ha
   have hp:ps[i]?=some y:=by
     rw [←S.pre,List.getElem?_take_of_lt (by omega)];exact h1
   have ndP:ps.Nodup:=by rw [←S.pre];exact S.nd.sublist (List.take_sublist _ _)
   refine ⟨u,rv,?_⟩;rcases S.par y (aaZ hp) with k|k
   · exact .inl ⟨k,Yk ndP hp hu k⟩
   · obtain ⟨c,e⟩:=VV (n:=s.heap.objs.size+1) k;refine .inr ⟨.inl k,c,e,?_⟩;have q:=x.cell y c e;rw [Ym ndP hp hu (by show scope.names.lookup y≠_;rw [k];decide)] at q;exact q
 · exact e0.hok.fresh (Nat.le_of_lt (x.above y c (abA h)))
 · unfold start;show _=N.length;rw [aao,aan,abF];omega
theorem jgU {CX:CXT} {P:aaD} {w:World} {K:aaa} {mg:Str->Option Value} {base:Heap} {k:Nat} {f:Addr} {name qual:Str} {params:Arguments} {body:List Stmt} {scope:Scope} {dV kV doc pm cdv ct oc:Value} {an od:Option Addr}
  {osl:Array (Option Value)} {N ps:List Str} {sp:Sp} (lk:K.lookup f=some ⟨oc,od,.func (abV name qual params body scope dV kV doc pm an cdv ct),osl⟩) (hcd:ac2 K cdv qual=true) (S:FnScope N ps scope)
  (len: ∀vs H Q E,sp vs H Q E->vs.length=ps.length)
  (hbody: ∀(A:aaX) (outer:List Env) (s:aaj) (H:Hp) (vs:List V) (Q:VK) (E:XK),Room k (A.deeper (acR qual scope s.heap.objs.size f cdv))->sp vs H Q E->
    ∃t,PSs (cxOf CX P w K mg base N qual scope f cdv A outer s H E) body t/\t {nx:=fun _ H'=>Q .non H',rt:=Q} (start N vs) H):
  FnOk P w K mg base CX (k+1) f (abV name qual params body scope dV kV doc pm an cdv ct) ps sp:=by
 refine ⟨len,fun A outer s H args us vs Q E hr e0 hb r hsp=>?_⟩;have hl:=len _ _ _ _ hsp;have KX:K.In s.heap:=e0.mod.kin.keeps fun b o e=>(e0.bs b o e).1
 have lim:s.heap.NoLimit:=e0.mod.nolimit.keeps fun b o e=>(e0.bs b o e).1
 have hkind: ∀y∈ps.zip us,scope.names.lookup y.1=some .local\/(scope.names.lookup y.1=some .cell/\((cellsFrom (s.heap.objs.size+1) scope.names []).lookup y.1).isSome=true):=fun ⟨n,v⟩ hy=>by
  rcases S.par n (acl hy).1 with q|q
  · exact .inl q
  · exact .inr ⟨q,PySem.W.cellsFrom_some _ _ _ (.inl q)⟩
 refine codeAny_call_function hr.depth (KX _ _ lk) rfl S.co S.gen rfl (PySem.W.codeRec_of KX hcd) (hb _ _ _ _ ?_);refine wpAny_newFunctionEnv_cells S.kind hkind fun env he s1 x=>?_
 subst he;refine ⟨lim.keeps x.toInCall.keep,codeAny_func ?_⟩;obtain ⟨t,ht,hq⟩:=hbody A outer s H vs Q E (hr.deeper _) hsp;have I:Inv (cxOf CX P w K mg base N qual scope f cdv A outer s H E) [] (start N vs) H s1:=vX S hr.hd e0 hl r x;refine acb (ht [] s1 (start N vs) H _ I hq) (fun fl s' hs=>?_) fun e s' hs=>hs
 have fin: ∀ {σ':St} {H':Hp} {v:V} {u:Value},Inv (cxOf CX P w K mg base N qual scope f cdv A outer s H E) [] σ' H' s'->RelV v u->Q v H'->CE outer P w H s Q u s':=
  fun {σ' H' v u} J rv q=>⟨v,H',J.os,J.bare,J.base,J.hok,rv,q⟩
 cases fl with
 |ret u=>
  obtain ⟨v,σ',H',J,rv,q⟩:=hs;exact fin J rv q
 |next=>
  obtain ⟨σ',H',J,q⟩:=hs;exact fin (v:=V.non) (u:=abh) J rfl q
 |brk=>
  obtain ⟨_,_,_,q⟩:=hs;exact abS q
 |cont=>
  obtain ⟨_,_,_,q⟩:=hs;exact abS q
end L2
namespace L2
open PySem PySem.Spec PyProof.Rows
section
variable {X:Cx} {x:Str} {p pos:Pos} {e:Expr} {es:List Expr} {t:TA} {id T:String} {r:List V->Hp->VK->Prop}
def tCB (r:List V->Hp->VK->Prop) (t:TA):TE:=fun σ H Q=>t σ H fun vs H1=>r vs H1 Q
theorem QB (hc:CallR X (.builtin id) r) (hg:Gl X x) (hm:X.mg x=none) (hv:abl x=some (.builtin id)) (ha:PA X (e::es) t) (hn:x≠ "__name__" :=by decide) (hdb:(x==("__debug__" :Str))=false:=by decide)
  (he:aal (e::es) X.env=(false,eval e X.env)::aal es X.env:=by rfl) (hpl:(abd pos (aal es X.env)).any (·.1)=false:=by rfl):PE X (.Call (.Name x p) (e::es) [] pos) (tCB r t):=by
 intro pins s σ H Q I h;refine acQ (Jq I hg hm hv ?_ hn hdb);exact PyProof.Rows.callWith_builtin1 (thn (ha pos pins s σ H _ I h) fun us s1 ⟨vs,H1,I1,r1,q1⟩=>hc pins s1 σ H1 vs us Q I1 r1 q1) he hpl
theorem Q5 (hc:CallR X (.type T) r) (hg:Gl X x) (hm:X.mg x=none) (hv:abl x=some (.type T)) (ha:PA X (e::es) t) (hn:x≠ "__name__" :=by decide) (hdb:(x==("__debug__" :Str))=false:=by decide)
  (he:aal (e::es) X.env=(false,eval e X.env)::aal es X.env:=by rfl) (hpl:(abd pos (aal es X.env)).any (·.1)=false:=by rfl):PE X (.Call (.Name x p) (e::es) [] pos) (tCB r t):=by
 intro pins s σ H Q I h;refine acQ (Jq I hg hm hv ?_ hn hdb);exact aa0 (thn (ha pos pins s σ H _ I h) fun us s1 ⟨vs,H1,I1,r1,q1⟩=>hc pins s1 σ H1 vs us Q I1 r1 q1) he hpl
end
end L2
namespace HT
open PySem PyProof.Rows
section
variable {prog:aaD} {w:World} {A:aaX} {E:Value->aaj->Prop} {s:aaj}
theorem cat_tup {t b:Addr} {vs ws:List Value} {Q:Value->aaj->Prop} (ht:IsTup s.heap t vs.toArray) (hb:IsTup s.heap b ws.toArray) (hv:vs≠[])
   (h1:ws=[]->Q (.ref t) s) (h2:ws≠[]->Q (.ref s.heap.objs.size) {s with heap:=s.heap.push {cls:= .type "tuple",data:= .seq (vs++ws).toArray}})
   (hsz:vs.length+ws.length<=aae):wpAny (model prog w) A (abG .Add (.ref t) (.ref b)) Q E s:=by
 obtain ⟨⟨cls,dd,data,sl⟩,ho,hc,n,hd⟩:=id ht;obtain ⟨⟨cls2,dd2,data2,sl2⟩,ho2,hc2,n2,hd2⟩:=id hb;simp only at hc hd hc2 hd2;subst hc hd hc2 hd2;have e:vs.toArray++ws.toArray=(vs++ws).toArray:=by simp
 by_cases hw:ws=[]
 · exact concat_meets ⟨_,ho,rfl⟩ ⟨_,ho2,rfl⟩ noFill_tuple_add seq_tuple_add ac3 acS (acL _ _)
    (tuple_addW1 t b vs.toArray ws.toArray n n2 dd dd2 sl sl2 (by simpa using hv) (by simp [hw])) ⟨ho,ho2,h1 hw⟩
 · refine concat_meets ⟨_,ho,rfl⟩ ⟨_,ho2,rfl⟩ noFill_tuple_add seq_tuple_add ac3 acS (acL _ _)
    (tuple_addW2 t b vs.toArray ws.toArray n n2 dd dd2 sl sl2 (by simpa using hv) (by simpa using hw) (by rw [aaf,aaf];exact hsz)) ⟨ho,ho2,?_⟩
   rw [e];exact h2 hw
def sIx (n d:Nat):Option Int->Nat
 |none=>d
 |some v=>if v<0 then (v+(n:Int)).toNat else min v.toNat n
theorem sIx_none (n d:Nat):sIx n d none=d:=rfl
theorem sIx_nat (n d k:Nat):sIx n d (some (k:Int))=min k n:=by
 show (if (k:Int)<0 then ((k:Int)+(n:Int)).toNat else min (k:Int).toNat n)=min k n;rw [if_neg (by omega),abo]
theorem jek (n d:Nat) (hd:d<=n) (o:Option Int):sIx n d o<=n:=by
 cases o with
 |none=>exact hd
 |some v=>
  show (if v<0 then (v+(n:Int)).toNat else min v.toNat n)<=n
  by_cases hv:v<0
  · rw [if_pos hv];omega
  · rw [if_neg hv];exact Nat.min_le_right _ _
theorem uU (v:Int) (n d:Nat):(if v<0 then max (v+(n:Int)) 0 else min v (n:Int))=((sIx n d (some v):Nat):Int):=by
 show (if v<0 then max (v+(n:Int)) 0 else min v (n:Int))=(((if v<0 then (v+(n:Int)).toNat else min v.toNat n):Nat):Int)
 by_cases hv:v<0
 · simp only [if_pos hv];omega
 · simp only [if_neg hv];omega
theorem U2 (lo hi:Option Int) (n:Nat):acx lo hi 1 (n:Int)=(((sIx n 0 lo:Nat):Int),((sIx n n hi:Nat):Int)):=by
 have h1: ¬((1:Int)<0):=by omega
 unfold acx;simp only [h1,if_false];refine Prod.ext ?_ ?_
 · cases lo with
   |none=>rfl
   |some v=>exact uU v n 0
 · cases hi with
   |none=>rfl
   |some v=>exact uU v n n
theorem Uv (i j:Nat):abZ (i:Int) (j:Int) 1=j-i:=by
 unfold abZ;have h1:(1:Int)>0:=by omega
 simp only [h1,if_true,Int.ediv_one]
 split<;>omega
theorem Z0 {v:Value} {o:Option Int} {Q:Option Int->aaj->Prop} (p:IsPart v o) (h:Q o s):wpAny (model prog w) A (Builtin.Slice.slicePartIndex v) Q E s:=by
 cases p with
 |none=>exact slicePart_none h
 |int i t=>exact slicePart_int h
theorem sliceApplied_gen {sl:Addr} {vl vu:Value} {lo hi:Option Int} {n:Nat} {Q:Int×Int×Nat->aaj->Prop} (hs:s.heap.IsSliceOf sl vl vu .none) (pl:IsPart vl lo) (pu:IsPart vu hi)
  (h:Q (((sIx n 0 lo:Nat):Int),1,sIx n n hi-sIx n 0 lo) s):wpAny (model prog w) A (adC (.ref sl) (pure (n:Int))) Q E s:=by
 obtain ⟨os,hos,hcs,hds⟩:=id hs;unfold adC Builtin.Slice.sliceFields;refine aab (aab (abq hos hds (x:=vl) rfl (aab (abq hos hds (x:=vu) rfl (aab (abq hos hds (x:= .none) rfl (aak ?_)))))));refine aab (slicePart_none ?_);show wpAny _ _ (if ((1:Int)==0)=true then _ else _) _ _ s;rw [if_neg (by decide)];refine aab (Z0 pl (aab (Z0 pu (aab (aak ?_)))));show wpAny _ _ (match acx lo hi 1 (n:Int) with| (lo,hi)=>pure (lo,(1:Int),abZ lo hi 1)) _ _ s;rw [U2 lo hi n];show wpAny _ _ (pure (((sIx n 0 lo:Nat):Int),(1:Int),abZ ((sIx n 0 lo:Nat):Int) ((sIx n n hi:Nat):Int) 1)) _ _ s;rw [Uv];exact aak h
theorem jax (xs:Array Value) (i k:Nat):((abx k).filterMap fun (m:Nat)=>xs[((i:Int)+(m:Int)*1).toNat]?).toArray=((xs.toList.drop i).take k).toArray:=by
 have e:(fun (m:Nat)=>xs[((i:Int)+(m:Int)*1).toNat]?)=fun m=>xs[i+m]?:=by
  funext m;have:((i:Int)+(m:Int)*1).toNat=i+m:=by omega
  rw [this]
 rw [e];have:=pick_run xs i k;rw [List.filterMap_map] at this;have e2:((fun x=>xs[x]?) ∘ fun x=>i+x)=fun m=>xs[i+m]?:=rfl
 rw [e2] at this;rw [this]
theorem getItem_tuple_cut {t sl:Addr} {items:Array Value} {vl vu:Value} {lo hi:Option Int} {Q:Value->aaj->Prop} (ht:IsTup s.heap t items) (hs:s.heap.IsSliceOf sl vl vu .none) (pl:IsPart vl lo) (pu:IsPart vu hi)
  (hw: ¬(sIx items.size 0 lo=0/\sIx items.size items.size hi=items.size))
  (h:Q (.ref s.heap.objs.size) {s with heap:=s.heap.push {cls:= .type "tuple",data:= .seq ((items.toList.drop (sIx items.size 0 lo)).take (sIx items.size items.size hi-sIx items.size 0 lo)).toArray}})
  (hsz:items.size<=aae):wpAny (model prog w) A (getItem (.ref t) (.ref sl)) Q E s:=by
 have htake:sizeOk (.seq ((items.toList.drop (sIx items.size 0 lo)).take (sIx items.size items.size hi-sIx items.size 0 lo)).toArray):=by
  show ((items.toList.drop (sIx items.size 0 lo)).take (sIx items.size items.size hi-sIx items.size 0 lo)).toArray.size<=aae;rw [aaf,acE,adc,aby];omega
 have hj:sIx items.size items.size hi<=items.size:=jek _ _ (aai _) hi;obtain ⟨os,hos,hcs,hds⟩:=id hs;have hTs:s.TypeIs (.ref sl) "slice" :=⟨os,hos,hcs⟩
 unfold getItem
 try with_reducible refine ab8 ?_
 first|refine aab (aak ?_)|skip
 refine aab (wpAny_sequenceKey ht.typeIs (by decide) ?_)
 refine aab (aa6 (name:=acm "__getitem__") ht.typeIs aaS
  (aba aaS ht.typeIs entry_tuple_getitem ?_ (args_tuple_getitem _ _)))
 show wpAny _ _ (adD (.ref t)>>=_) _ _ s;refine aab (tupleItemsOf_ ht ?_);refine aab (wpAny_typeOf hTs ?_);rw [if_pos (by decide)];refine aab (sliceApplied_gen hs pl pu ?_)
 have hno: ¬((((sIx items.size 0 lo:Nat):Int)==0&&(1:Int)==1&&(sIx items.size items.size hi-sIx items.size 0 lo)==items.size)=true):=by
  intro q;rw [aap,aap] at q;have q1:((sIx items.size 0 lo:Nat):Int)=0:=eq_of_beq q.1.1;have q2:sIx items.size items.size hi-sIx items.size 0 lo=items.size:=eq_of_beq q.2;exact hw ⟨by omega,by omega⟩
 show wpAny _ _ (if (((sIx items.size 0 lo:Nat):Int)==0&&(1:Int)==1&&(sIx items.size items.size hi-sIx items.size 0 lo)==items.size)=true then _ else _) _ _ s;rw [if_neg hno,jax]
 first
  |exact aab (m:=ab4 _) (abg (aak ⟨_,rfl,aak h⟩) htake)
  |exact aab (m:=ab4 _) (abg (aab (aak (aak ⟨_,rfl,aak h⟩))) htake)
  |exact aab (aab (m:=ab4 _) (abg (aak (aak ⟨_,rfl,aak h⟩)) htake))
  |exact aab (aab (m:=ab4 _) (abg (aak ⟨_,rfl,aak h⟩) htake))
end
end HT
namespace L2
open PySem PySem.Spec PyProof.Rows
abbrev TO:=St->Hp->(Option Int->Hp->Prop)->Prop
def PO (X:Cx) (e:Option Expr) (t:TO):Prop:=
 ∀(pins:List (Addr×Obj)) (s:aaj) (σ:St) (H:Hp) (Q:Option Int->Hp->Prop),Inv X pins σ H s->t σ H Q->
  wpAny (model X.prog X.w) X.A (evalPart e X.env) (fun u s'=> ∃o H',Inv X pins σ H' s'/\IsPart u o/\Q o H') X.xe s
def jcy:TO:=fun _ H Q=>Q none H
def jgh (t:TE):TO:=fun σ H Q=>t σ H fun x H1=> ∃i,x= .int i/\Q (some i) H1
section
variable {X:Cx} {e:Expr} {te:TE} {lo hi:Option Expr} {tl th:TO} {pos p2:Pos}
theorem jcO:PO X none jcy:=by
 intro pins s σ H Q I h;rw [evalPart_none];exact aak ⟨none,H,I,.none,h⟩
theorem jcN (h:PE X e te):PO X (some e) (jgh te):=by
 intro pins s σ H Q I hw;rw [evalPart_some];refine thn (h pins s σ H _ I hw) fun u s1 ⟨x,H1,I1,r1,q1⟩=>?_
 obtain ⟨i,rfl,q⟩:=q1;obtain ⟨t,rfl⟩:=r1;exact ⟨some i,H1,I1,.int i t,q⟩
def SlR (X:Cx) (r:V->Option Int->Option Int->Hp->VK->Prop):Prop:=
 ∀(pins:List (Addr×Obj)) (s:aaj) (σ:St) (H:Hp) (x:V) (v vl vu:Value) (lo hi:Option Int) (sl:Addr) (Q:VK),Inv X pins σ H s->RelV x v->s.heap.IsSliceOf sl vl vu .none->IsPart vl lo->IsPart vu hi->r x lo hi H Q->
  ∃T id,typeLookup (.type T) "__getitem__" =pure (some (.builtin id))/\s.TypeIs v T/\wpAny (model X.prog X.w) X.A (getItem v (.ref sl)) (EP X pins σ Q) X.xe s
theorem SlR.or {r r':V->Option Int->Option Int->Hp->VK->Prop} (h:SlR X r) (h':SlR X r'):SlR X (fun x lo hi H Q=>r x lo hi H Q\/r' x lo hi H Q):=by
 intro pins s σ H x v vl vu lo hi sl Q I rx hs pl pu q;rcases q with q|q
 · exact h pins s σ H x v vl vu lo hi sl Q I rx hs pl pu q
 · exact h' pins s σ H x v vl vu lo hi sl Q I rx hs pl pu q
def tSl (r:V->Option Int->Option Int->Hp->VK->Prop) (te:TE) (tl th:TO):TE:=fun σ H Q=>te σ H fun x H1=>tl σ H1 fun l H2=>th σ H2 fun u H3=>r x l u H3 Q
theorem K3 {r:V->Option Int->Option Int->Hp->VK->Prop} (hr:SlR X r) (he:PE X e te) (hl:PO X lo tl) (hu:PO X hi th):PE X (.Subscript e (.Slice lo hi none p2) pos) (tSl r te tl th):=by
 intro pins s σ H Q I h;refine Subscript_ (thn (he pins s σ H _ I h) fun v s1 ⟨x,H1,I1,r1,q1⟩=>?_);refine wpAny_Slice (thn (hl pins s1 σ H1 _ I1 q1) fun vl s2 ⟨l,H2,I2,pl,q2⟩=>thn (hu pins s2 σ H2 _ I2 q2) fun vu s3 ⟨u,H3,I3,pu,q3⟩=>?_);rw [evalPart_none];refine aak ?_;have I4:Inv X pins σ H3 {s3 with heap:=s3.heap.push {cls:= .type "slice",data:= .fields #[vl,vu,.none]}}:=I3.kept (t':=s3.toks) fun b ob q=>aac _ q
 obtain ⟨T,id,hT,ht,hg⟩:=hr pins {s3 with heap:=s3.heap.push {cls:= .type "slice",data:= .fields #[vl,vu,.none]}} σ H3 x v vl vu l u s3.heap.objs.size Q I4 r1 (Heap.IsSliceOf.new ..) pl pu q3;show wpAny (model X.prog X.w) X.A (subscriptTail e (.Slice lo hi none p2) v (.ref s3.heap.objs.size)) (EP X pins σ Q) X.xe {s3 with heap:=s3.heap.push {cls:= .type "slice",data:= .fields #[vl,vu,.none]}};exact tail_any (ops:=[.ref s3.heap.objs.size,v]) ht hT hg (by with_unfolding_all rfl)
def cutV (xs:List V) (lo hi:Option Int):List V:=(xs.drop (HT.sIx xs.length 0 lo)).take (HT.sIx xs.length xs.length hi-HT.sIx xs.length 0 lo)
theorem ZA (xs:List V) (lo hi:Option Int):(cutV xs lo hi).length<=xs.length:=by
 unfold cutV;rw [acE,adc];omega
def rSlT (K:aaa):V->Option Int->Option Int->Hp->VK->Prop:=fun x lo hi H Q=> ∃a xs,x= .ref a/\SqT K H a xs/\
 ¬(HT.sIx xs.length 0 lo=0/\HT.sIx xs.length xs.length hi=xs.length)/\ ∀p,H p=none->Q (.ref p) (upd H p (.tup (cutV xs lo hi)))
theorem sl_tup:SlR X (rSlT X.K):=by
 intro pins s σ H x v vl vu lo hi sl Q I rx hs pl pu h;obtain ⟨a,xs,rfl,hx,hw,q⟩:=h;cases rx;obtain ⟨its,r,ht,hz⟩:=I.tuple hx;have hlen:its.toArray.size=xs.length:=by rw [aaf];exact r.length.symm
 refine ⟨"tuple",_,aaS.lookup,ht.typeIs,?_⟩;refine HT.getItem_tuple_cut ht hs pl pu (by rw [hlen];exact hw) ?_ (by rw [hlen];exact hz);rw [hlen];refine ⟨.ref s.heap.objs.size,_,I.laid (t':=s.toks) (o:= .tup (cutV xs lo hi)) (fun b ob q=>aac _ q) (aai _) ?_,rfl,q _ (I.hok.fresh (aai _))⟩;exact ⟨aaC (ZA xs lo hi) hz,_,(r.drop (HT.sIx xs.length 0 lo)).take (HT.sIx xs.length xs.length hi-HT.sIx xs.length 0 lo),IsTup.new _ _⟩
def kQ (K:aaa):R2:=fun x y H Q=> ∃a b xs ys,x= .ref a/\y= .ref b/\SqT K H a xs/\SqT K H b ys/\xs≠[]/\xs.length+ys.length<=aae/\
 (ys=[]->Q (.ref a) H)/\(ys≠[]-> ∀p,H p=none->Q (.ref p) (upd H p (.tup (xs++ys))))
theorem Vals.nil_iff {xs:List V} {us:List Value} (r:Vals xs us):us=[]↔xs=[]:=by
 cases r with
 |nil=>simp
 |cons _ _=>simp
theorem jcY:OpR X (abG .Add) (kQ X.K):=by
 intro pins s σ H x y v u Q I rx ry h;obtain ⟨a,b,xs,ys,rfl,rfl,ha,hb,hx,hz,q1,q2⟩:=h;cases rx;cases ry;obtain ⟨its,r1,p1,_⟩:=I.tuple ha;obtain ⟨its2,r2,p2,_⟩:=I.tuple hb;refine HT.cat_tup p1 p2 (fun z=>hx (r1.nil_iff.mp z)) (fun z=>⟨.ref a,H,I,rfl,q1 (r2.nil_iff.mp z)⟩) (fun z=>?_) (by rw [←r1.length,←r2.length];exact hz);refine ⟨.ref s.heap.objs.size,_,I.laid (t':=s.toks) (o:= .tup (xs++ys)) (fun b ob q=>aac _ q) (aai _) ?_,rfl,q2 (fun w=>z (r2.nil_iff.mpr w)) _ (I.hok.fresh (aai _))⟩;exact ⟨by rw [aao];exact hz,_,r1.append r2,IsTup.new _ _⟩
end
end L2
namespace L2
open PySem PySem.Spec PyProof.Rows
def ixN (n:Nat) (i:Int):Option Nat:=if 0<=i then (if i<n then some i.toNat else none) else if-(n:Int)<=i then some (i+n).toNat else none
def atI {α:Type} (xs:List α) (i:Int):Option α:=(ixN xs.length i).bind fun j=>xs[j]?
theorem jdd {n:Nat} {i:Int} {j:Nat} (h:ixN n i=some j):seqIndex? i n=some j/\j<n/\ -(n:Int)<=i/\i<n:=by
 unfold ixN at h
 by_cases h0:0<=i
 · rw [if_pos h0] at h
   by_cases h1:i<n
   · rw [if_pos h1] at h;have e:i.toNat=j:=aaF h;exact ⟨by rw [seqIndex_of h0 h1,e],by omega,by omega,h1⟩
   · rw [if_neg h1] at h;cases h
 · rw [if_neg h0] at h
   by_cases h1: -(n:Int)<=i
   · rw [if_pos h1] at h;have e:(i+n).toNat=j:=aaF h;exact ⟨by rw [seqIndex_neg (by omega) h1,e],by omega,h1,by omega⟩
   · rw [if_neg h1] at h;cases h
theorem Ky {α:Type} {xs:List α} {i:Int} {v:α} (h:atI xs i=some v): ∃j,seqIndex? i xs.length=some j/\xs[j]?=some v/\j<xs.length/\ -(xs.length:Int)<=i/\i<xs.length:=by
 unfold atI at h
 cases e:ixN xs.length i with
 |none=>rw [e] at h;cases h
 |some j=>
  rw [e] at h;obtain ⟨h1,h2,h3,h4⟩:=jdd e;exact ⟨j,h1,h,h2,h3,h4⟩
theorem atI_nat {α:Type} {xs:List α} {j:Nat} {v:α} (h:xs[j]?=some v):atI xs (j:Int)=some v:=by
 have hj:j<xs.length:=(aay.mp h).1
 have e:ixN xs.length (j:Int)=some j:=by
  unfold ixN;rw [if_pos (by omega),if_pos (by omega)];simp
 unfold atI;rw [e];exact h
def u6 (b:Expr):Prop:= ∀o i,subscripted b false o i=operate [o,i] (getItem o i)
def IxR (X:Cx) (r:R2):Prop:=
 ∀(value slice:Expr) (pins:List (Addr×Obj)) (s:aaj) (σ:St) (H:Hp) (x y:V) (v u:Value) (Q:VK),Inv X pins σ H s->RelV x v->RelV y u->r x y H Q->
  subscripted slice false v u=operate [v,u] (getItem v u)->wpAny (model X.prog X.w) X.A (subscriptTail value slice v u) (EP X pins σ Q) X.xe s
def MtR (X:Cx) (id:String) (r:V->List V->Hp->VK->Prop):Prop:=
 ∀(pins:List (Addr×Obj)) (s:aaj) (σ:St) (H:Hp) (x:V) (xs:List V) (v:Value) (us:List Value) (Q:VK),Inv X pins σ H s->RelV x v->Vals xs us->r x xs H Q->
  wpAny (model X.prog X.w) X.A (call (.builtin id) (v::us)) (EP X pins σ Q) X.xe s
section
variable {X:Cx} {a b:Expr} {ta tb:TE} {pos:Pos}
theorem IxR.or {r r':R2} (h:IxR X r) (h':IxR X r'):IxR X (fun x y H Q=>r x y H Q\/r' x y H Q):=by
 intro value slice pins s σ H x y v u Q I rx ry q hs;rcases q with q|q
 · exact h value slice pins s σ H x y v u Q I rx ry q hs
 · exact h' value slice pins s σ H x y v u Q I rx ry q hs
theorem MtR.or {id:String} {r r':V->List V->Hp->VK->Prop} (h:MtR X id r) (h':MtR X id r'):MtR X id (fun x xs H Q=>r x xs H Q\/r' x xs H Q):=by
 intro pins s σ H x xs v us Q I rx rs q;rcases q with q|q
 · exact h pins s σ H x xs v us Q I rx rs q
 · exact h' pins s σ H x xs v us Q I rx rs q
theorem jgy {r:R2} (hr:IxR X r) (ha:PE X a ta) (hb:PE X b tb) (hs:u6 b):PE X (.Subscript a b pos) (tOp r ta tb):=by
 intro pins s σ H Q I h;exact Subscript_ (binT ha hb I h fun v u s2 x y H2 I2 rx ry q=>hr a b pins s2 σ H2 x y v u Q I2 rx ry q (hs _ _))
def rIxL (K:aaa):R2:=fun x y H Q=> ∃p xs i v,x= .ref p/\y= .int i/\SqL K H p xs/\atI xs i=some v/\Q v H
def rIxT (K:aaa):R2:=fun x y H Q=> ∃p xs i v,x= .ref p/\y= .int i/\SqT K H p xs/\atI xs i=some v/\Q v H
def rIxS:R2:=fun x y H Q=> ∃z i c,x= .str z/\y= .int i/\z.length<=aae/\atI z.cps.toList i=some c/\Q (.str ⟨#[c]⟩) H
theorem ix_list:IxR X (rIxL X.K):=by
 intro value slice pins s σ H x y v u Q I rx ry h hs;obtain ⟨p,xs,i,z,rfl,rfl,hq,he,q⟩:=h;cases rx;obtain ⟨t,rfl⟩:=ry;obtain ⟨its,r,pl,hz⟩:=I.list hq;obtain ⟨j,h1,h2,h3,h4,h5⟩:=Ky he;obtain ⟨w,ew,rw'⟩:=r.get h2;have hl:=r.length;have hn:=Wc;have fin:EP X pins σ Q w s:=⟨z,H,I,rw',q⟩
 by_cases h0:0<=i
 · have hj:i.toNat=j:=by
    rw [seqIndex_of h0 h5] at h1;exact aaF h1
   exact item_listR pl.isList h0 (by omega) (by rw [hj];simpa using ew) fin hs
 · have hj:(i+(its.toArray.size:Int)).toNat=j:=by
    rw [seqIndex_neg (by omega) h4] at h1;rw [aaf,←hl];exact aaF h1
   exact subscriptTail_builtinR (x:=w) pl.isList.typeIs slot_list_getitem.lookup
    (wpAny_getItem_list_neg (Q:=fun r s'=>r=w/\EP X pins σ Q r s') pl.isList (by omega) (by rw [aaf]<;>omega) (by omega) (by rw [hj];simpa using ew) ⟨rfl,fin⟩) hs
theorem ix_tup:IxR X (rIxT X.K):=by
 intro value slice pins s σ H x y v u Q I rx ry h hs;obtain ⟨p,xs,i,z,rfl,rfl,hq,he,q⟩:=h;cases rx;obtain ⟨t,rfl⟩:=ry;obtain ⟨its,r,pl,hz⟩:=I.tuple hq;obtain ⟨j,h1,h2,h3,h4,h5⟩:=Ky he;obtain ⟨w,ew,rw'⟩:=r.get h2;have hl:=r.length;have hn:=Wc;have fin:EP X pins σ Q w s:=⟨z,H,I,rw',q⟩
 exact subscriptTail_builtinR (x:=w) pl.typeIs aaS.lookup
  (getItem_tuple (j:=j) (Q:=fun r s'=>r=w/\EP X pins σ Q r s') pl (by omega) (by omega) (by rw [aaf,←hl];exact h1) (by simpa using ew) ⟨rfl,fin⟩) hs
theorem jfs:IxR X rIxS:=by
 intro value slice pins s σ H x y v u Q I rx ry h hs;obtain ⟨z,i,c,rfl,rfl,hz,he,q⟩:=h;obtain ⟨t,rfl⟩:=rx;obtain ⟨t',rfl⟩:=ry;obtain ⟨j,h1,h2,h3,h4,h5⟩:=Ky he;have hl:z.cps.toList.length=z.length:=by simp [Str.length]
 rw [hl] at h1 h4 h5;have hn:=Wc
 exact tail_any (typeIs_str s z t) slot_str_getitem.lookup (getItem_str (c:=c) (by
  have e1:decide (i< -(2^63:Int))=false:=decide_eq_false (by omega);have e2:decide (i>=2^63)=false:=decide_eq_false (by omega)
  rw [e1,e2,Bool.or_false]) (by rw [h1];simpa using h2) ⟨.str ⟨#[c]⟩,H,I.tok _,⟨_,rfl⟩,q⟩) hs
def rIx (K:aaa):R2:=fun x y H Q=>rIxL K x y H Q\/rIxT K x y H Q\/rIxS x y H Q
theorem jft:IxR X (rIx X.K):=ix_list.or (ix_tup.or jfs)
theorem Xt (lo hi:Option Int) (n:Nat):(ac7 lo hi none n).1=((HT.sIx n 0 lo:Nat):Int)/\(ac7 lo hi none n).2.1=((HT.sIx n n hi:Nat):Int)/\(ac7 lo hi none n).2.2=1:=by
 refine ⟨?_,?_,rfl⟩
 · cases lo with
   |none=>simp [ac7,HT.sIx]
   |some i=>
    simp only [ac7,HT.sIx,ade,show (1:Int)>0 by decide,if_true]
    by_cases h:i<0
    · simp only [h,if_true]<;>omega
    · simp only [h,if_false]<;>omega
 · cases hi with
   |none=>simp [ac7,HT.sIx]
   |some i=>
    simp only [ac7,HT.sIx,ade,show (1:Int)>0 by decide,if_true]
    by_cases h:i<0
    · simp only [h,if_true]<;>omega
    · simp only [h,if_false]<;>omega
theorem Ww (its:List Value) (lo hi:Option Int):slicePick its.toArray lo hi none=((its.drop (HT.sIx its.length 0 lo)).take (HT.sIx its.length its.length hi-HT.sIx its.length 0 lo)).toArray:=by
 obtain ⟨h1,h2,h3⟩:=Xt lo hi its.toArray.size;unfold slicePick;rw [h1,h2,h3];simp only [sliceRange_one,pick_run,aaf]<;>rfl
def rSlL (K:aaa):V->Option Int->Option Int->Hp->VK->Prop:=fun x lo hi H Q=> ∃a xs,x= .ref a/\SqL K H a xs/\ ∀p,H p=none->Q (.ref p) (upd H p (.lst (cutV xs lo hi)))
theorem sl_list:SlR X (rSlL X.K):=by
 intro pins s σ H x v vl vu lo hi sl Q I rx hs pl pu h;obtain ⟨a,xs,rfl,hx,q⟩:=h;cases rx;obtain ⟨its,r,ht,hz⟩:=I.list hx;have hlen:=r.length;refine ⟨"list",_,slot_list_getitem.lookup,ht.isList.typeIs,?_⟩;refine wpAny_getItem_list_slice ht.isList hs pl pu .none (by simp) ?_ (by rw [aaf]<;>omega);rw [Ww,←hlen];refine ⟨.ref s.heap.objs.size,_,I.laid (t':=s.toks) (o:= .lst (cutV xs lo hi)) (fun b ob q=>aac _ q) (aai _) ?_,rfl,q _ (I.hok.fresh (aai _))⟩;exact ⟨aaC (ZA xs lo hi) hz,_,0,(r.drop (HT.sIx xs.length 0 lo)).take (HT.sIx xs.length xs.length hi-HT.sIx xs.length 0 lo),aam _ rfl⟩
theorem call_len_seq:CallR X (.builtin "len") (fun xs H Q=> ∃p ys,xs=[.ref p]/\(SqL X.K H p ys\/SqT X.K H p ys)/\Q (.int ys.length) H):=by
 intro pins s σ H xs us Q I r h;obtain ⟨p,ys,rfl,hq,q⟩:=h;obtain ⟨u,rfl,rx⟩:=QQ r;cases rx;have hn:=Wc;rcases hq with hq|hq
 · obtain ⟨its,r',pl,hz⟩:=I.list hq;have hlen:=r'.length;exact Calls.call_len_list pl.isList (by simp only [aaf]<;>omega) ⟨.int ys.length,H,I.tok _,⟨s.toks+1,by rw [aaf,hlen]⟩,q⟩
 · obtain ⟨its,r',pl,hz⟩:=I.tuple hq;have hlen:=r'.length;exact len_tuple pl (by simp only [aaf]<;>omega) ⟨.int ys.length,H,I.tok _,⟨s.toks+1,by rw [aaf,hlen]⟩,q⟩
theorem Yf:CallR X (.builtin "len") (fun xs H Q=> ∃z,xs=[.str z]/\z.length<=aae/\Q (.int z.length) H):=by
 intro pins s σ H xs us Q I r h;obtain ⟨z,rfl,hz,q⟩:=h;obtain ⟨u,rfl,t,rfl⟩:=QQ r;have hn:=Wc;exact len_str (by omega) ⟨.int z.length,H,I.tok _,⟨_,rfl⟩,q⟩
theorem CallR.or {f:Value} {r r':List V->Hp->VK->Prop} (h:CallR X f r) (h':CallR X f r'):CallR X f (fun xs H Q=>r xs H Q\/r' xs H Q):=by
 intro pins s σ H xs us Q I rs q;rcases q with q|q
 · exact h pins s σ H xs us Q I rs q
 · exact h' pins s σ H xs us Q I rs q
theorem yh:CallR X (.type "list") (fun xs H Q=> ∃p ys,xs=[.ref p]/\(SqL X.K H p ys\/SqT X.K H p ys)/\ ∀l,H l=none->Q (.ref l) (upd H l (.lst ys))):=by
 intro pins s σ H xs us Q I r h;obtain ⟨p,ys,rfl,hq,q⟩:=h;obtain ⟨u,rfl,rx⟩:=QQ r;cases rx
 have fin: ∀(its:List Value),Vals ys its->ys.length<=aae-> ∀(h':Heap) (c':Nat),(∀b o',s.heap.get? b=some o'->h'.get? b=some o')->
    h'.get? s.heap.objs.size=some {cls:= .type "list",dict:=none,data:= .seq its.toArray c',slots:= #[]}->EP X pins σ Q (.ref s.heap.objs.size) {s with heap:=h'}:=fun its r' hz h' c' kp e=>
   ⟨.ref s.heap.objs.size,_,I.laid (t':=s.toks) kp (aai _) (show ObjOk X.prog X.w _ h' _ (.lst ys) from ⟨hz,its,c',r',e⟩),rfl,q _ (I.hok.fresh (aai _))⟩
 rcases hq with hq|hq
 · obtain ⟨its,r',pl,hz⟩:=I.list hq;have hlen:=r'.length;obtain ⟨o,ho,hc,n,hd⟩:=pl.isList;exact call_list_seq p (.inl rfl) ho hc hd (fun h' c' kp e=>fin its r' hz h' c' kp e) (by simp only [aaf]<;>omega)
 · obtain ⟨its,r',pl,hz⟩:=I.tuple hq;have hlen:=r'.length;obtain ⟨o,ho,hc,n,hd⟩:=pl;exact call_list_seq p (.inr rfl) ho hc hd (fun h' c' kp e=>fin its r' hz h' c' kp e) (by simp only [aaf]<;>omega)
theorem zq:CallR X (.type "tuple") (fun xs H Q=> ∃p ys,xs=[.ref p]/\((SqL X.K H p ys/\ ∀l,H l=none->Q (.ref l) (upd H l (.tup ys)))\/(SqT X.K H p ys/\Q (.ref p) H))):=by
 intro pins s σ H xs us Q I r h;obtain ⟨p,ys,rfl,h⟩:=h;obtain ⟨u,rfl,rx⟩:=QQ r;cases rx;rcases h with ⟨hq,q⟩| ⟨hq,q⟩
 · obtain ⟨its,r',pl,hz⟩:=I.list hq;have hlen:=r'.length;refine call_tuple_list pl.isList (fun h' kp=>?_) (by simp only [aaf]<;>omega);have I1:Inv X pins σ H {s with heap:=h'}:=I.kept (t':=s.toks) kp
   have I2:Inv X pins σ (upd H h'.objs.size (.tup ys)) {s with heap:=h'.push {cls:= .type "tuple",data:= .seq its.toArray}}:=
    I1.laid (t':=s.toks) (fun b o e=>aac _ e) (aai _) (show ObjOk X.prog X.w _ _ _ (.tup ys) from ⟨hz,its,r',IsTup.new _ _⟩)
   exact ⟨.ref h'.objs.size,_,I2,rfl,q _ (I1.hok.fresh (aai _))⟩
 · obtain ⟨its,r',pl,hz⟩:=I.tuple hq;exact call_tuple_same pl ⟨.ref p,H,I,rfl,q⟩
def tyV (K:aaa) (T:String) (x:V) (H:Hp):Prop:=match x with
 | .str _=>T= "str"
 | .int _=>T= "int"
 | .ref p=>(T= "list" /\ ∃xs,SqL K H p xs)\/(T= "tuple" /\ ∃o,K.lookup p=some o/\o.cls= .type "tuple" /\o.dict=none)\/
  (T= "dict" /\((∃kvs,H p=some (.dK kvs))\/ ∃kvs,H p=some (.dT kvs)))\/(T= "set" /\ ∃S n,H p=some (.set S n))
 |_=>False
theorem jbT {pins:List (Addr×Obj)} {σ:St} {H:Hp} {s:aaj} {T:String} {x:V} {v:Value} (I:Inv X pins σ H s) (r:RelV x v) (ty:tyV X.K T x H):
  s.TypeIs v T/\ ∀a,v= .ref a-> ∃ob,s.heap.get? a=some ob/\ob.dict=none:=by
 cases x with
 |str z=>
  obtain ⟨t,rfl⟩:=r;cases (show T= "str" from ty);exact ⟨typeIs_str s z t,fun _ e=>nomatch e⟩
 |int i=>
  obtain ⟨t,rfl⟩:=r;cases (show T= "int" from ty);exact ⟨typeIs_int s i t,fun _ e=>nomatch e⟩
 |ref p=>
  cases r;rcases ty with ⟨rfl,xs,hq⟩| ⟨rfl,o,hk,hc,hd⟩| ⟨rfl,hk⟩| ⟨rfl,S,n,hk⟩
  · obtain ⟨its,_,pl,_⟩:=I.list hq;refine ⟨pl.isList.typeIs,fun a e=>?_⟩;cases e;obtain ⟨o,n,e,c,hd,_⟩:=pl;exact ⟨o,e,hd⟩
  · refine ⟨⟨o,I.kIn p o hk,hc⟩,fun a e=>?_⟩;cases e;exact ⟨o,I.kIn _ o hk,hd⟩
  · have z: ∃o,s.heap.get? p=some o/\o.ExactDict:=by
     rcases hk with ⟨kvs,hk⟩| ⟨kvs,hk⟩
     · obtain ⟨_,_,_,_,o,_,_,e,ex,_⟩:=I.hok p _ hk;exact ⟨o,e,ex⟩
     · obtain ⟨_,_,_,_,o,_,_,e,ex,_⟩:=I.hok p _ hk;exact ⟨o,e,ex⟩
    obtain ⟨o,e,ex⟩:=z;refine ⟨⟨o,e,ex.1⟩,fun a e2=>?_⟩;cases e2;exact ⟨o,e,ex.2.1⟩
  · obtain ⟨o,_,_,_,e,ex,_⟩:=I.hok p _ hk;refine ⟨⟨o,e,ex.1⟩,fun a e2=>?_⟩;cases e2;exact ⟨o,e,ex.2.1⟩
 |_=>exact abS ty
def tBM0 (K:aaa) (T:String) (r:V->List V->Hp->VK->Prop) (to:TE):TE:=fun σ H Q=>to σ H fun x H1=>tyV K T x H1/\r x [] H1 Q
def tBM (K:aaa) (T:String) (r:V->List V->Hp->VK->Prop) (to:TE) (t:TA):TE:=fun σ H Q=>to σ H fun x H1=>tyV K T x H1/\t σ H1 fun xs H2=>r x xs H2 Q
variable {o e:Expr} {es:List Expr} {to:TE} {t:TA} {name:Str} {apos cpos:Pos} {T id:String} {r:V->List V->Hp->VK->Prop}
theorem jb5 (pa:PlainAttrs T) (slot:Slot T name id) (hty:typeOf (.builtin id)=pure (.type "method_descriptor")) (hm:MtR X id r) (ho:PE X o to)
  (hbase:abf o name X.env (eval o X.env)=eval o X.env:=by rfl) (hline:(apos.endLine==cpos.line)=true:=by rfl):PE X (.Call (.Attribute o name apos) [] [] cpos) (tBM0 X.K T r to):=by
 intro pins s σ H Q I h;refine wpAny_Call_method0_late hbase hline (thn (ho pins s σ H _ I h) fun v s1 ⟨x,H1,I1,r1,ty,q1⟩=>?_);obtain ⟨h1,h2⟩:=jbT I1 r1 ty;exact ⟨T,id,pa,slot,hty,h1,h2,Calls.callWith_builtin rfl (PySem.evalArgs_none (hm pins s1 σ H1 x [] v [] Q I1 r1 .nil q1))⟩
theorem vg (pa:PlainAttrs T) (slot:Slot T name id) (hty:typeOf (.builtin id)=pure (.type "method_descriptor")) (hm:MtR X id r) (ho:PE X o to) (ha:PA X (e::es) t)
  (hbase:abf o name X.env (eval o X.env)=eval o X.env:=by rfl)
  (hfew:((abd cpos (aal (e::es) X.env)).all (fun x=>!x.1)&&(acs cpos (abz [] X.env)).all (fun x=>x.1.isSome)
   &&decide ((e::es).length+([]:List acn).length+(if ([]:List acn).isEmpty then 0 else 1)<30))=true:=by rfl)
  (hline:(apos.endLine==cpos.line)=true:=by rfl) (hs:aal (e::es) X.env=(false,eval e X.env)::aal es X.env:=by rfl) (hplain:(abd cpos (aal es X.env)).any (·.1)=false:=by rfl):
  PE X (.Call (.Attribute o name apos) (e::es) [] cpos) (tBM X.K T r to t):=by
 intro pins s σ H Q I h;refine wpAny_Call_method_late hbase hfew hline rfl (thn (ho pins s σ H _ I h) fun v s1 ⟨x,H1,I1,r1,ty,q1⟩=>?_);obtain ⟨h1,h2⟩:=jbT I1 r1 ty;refine ⟨T,id,pa,slot,hty,h1,h2,?_⟩;have hA:=ha cpos pins s1 σ H1 _ I1 q1;rw [hs] at hA ⊢;refine Calls.callWith_builtin (by show (false|| (abd cpos (aal es X.env)).any (·.1))=false;rw [hplain]<;>rfl) (Calls.evalArgs_plain ?_);exact thn hA fun us s2 ⟨vs,H2,I2,r2,q2⟩=>hm pins s2 σ H2 x vs v us Q I2 r1 r2 q2
/-xs.append(e),list.index on a module's tuple .. are MtR facts of 06m-/
end
end L2
namespace L2
open PySem PySem.Spec PyProof.Rows
def MtM (X:Cx) (id:String) (r:V->List V->Hp->VK->Prop):Prop:=
 ∀(pins:List (Addr×Obj)) (s:aaj) (σ:St) (H:Hp) (x:V) (xs:List V) (v:Value) (us:List Value) (Q:VK),Inv X pins σ H s->RelV x v->Vals xs us->r x xs H Q->
  wpAny (model X.prog X.w) X.A (call (.builtin id) (v::us)) (EP X pins σ Q) X.xe s
theorem Vals.one: ∀ {x:V} {us:List Value},Vals [x] us-> ∃u,us=[u]/\RelV x u
 |_,_,.cons r .nil=>⟨_,rfl,r⟩
theorem Vals.zero: ∀ {us:List Value},Vals [] us->us=[]
 |_,.nil=>rfl
theorem Vals.dropLast {xs:List V} {us:List Value} (h:Vals xs us):Vals xs.dropLast us.dropLast:=by
 induction h with
 |nil=>exact .nil
 |cons r t ih=>
  cases t with
  |nil=>exact .nil
  |cons q t'=>exact .cons r ih
theorem UR {α:Type} (l:List α):l.eraseIdx (l.length-1)=l.dropLast:=by
 induction l with
 |nil=>rfl
 |cons a r ih=>
  cases r with
  |nil=>rfl
  |cons b r=>
   have e:(a::b::r).length-1=((b::r).length-1)+1:=by
    have h1:(a::b::r).length=r.length+2:=rfl;have h2:(b::r).length=r.length+1:=rfl;omega
   rw [e,List.eraseIdx_cons_succ,ih]
   all_goals rfl
section
variable {X:Cx} {pins:List (Addr×Obj)} {σ:St} {H:Hp} {s:aaj} {l b:Addr} {xs ys zs:List V}
theorem Inv.lset {its its':List Value} {n:Nat} {f:Array Value->Array Value} {t':Nat} (I:Inv X pins σ H s) (hH:H l=some (.lst xs))
  (e:s.heap.get? l=some {cls:= .type "list",data:= .seq its.toArray n}) (hf:f its.toArray=its'.toArray) (hv:Vals ys its') (hz:ys.length<=aae):
  Inv X pins σ (upd H l (.lst ys)) {s with heap:=s.heap.update l (ac8 f),toks:=t'}:=by
 have q:=PySem.IsL.update e f;rw [hf] at q;refine I.write (x:=l) (e:=l) (by rw [hH];exact trivial) (.inl rfl) (fun b' u hb hu=>(ace s.heap (ac8 f) (acF hb)).trans hu) ⟨_,q⟩ ?_;exact ⟨hz,its',_,hv,q⟩
theorem Inv.lnew {its:List Value} {t':Nat} (I:Inv X pins σ H s) (hv:Vals ys its) (hz:ys.length<=aae):
  Inv X pins σ (upd H s.heap.objs.size (.lst ys)) {s with heap:=s.heap.push {cls:= .type "list",data:= .seq its.toArray},toks:=t'}:=
 I.laid (fun _ _ q=>aac _ q) (aai _) ⟨hz,its,0,hv,aam _ rfl⟩
theorem Inv.fresh (I:Inv X pins σ H s):H s.heap.objs.size=none:=I.hok.fresh (aai _)
theorem Inv.lstM (I:Inv X pins σ H s) (hH:H l=some (.lst xs)):xs.length<=aae/\ ∃(its:List Value) (n:Nat),Vals xs its/\xs.length=its.length/\s.heap.get? l=some {cls:= .type "list",data:= .seq its.toArray n}:=by
 obtain ⟨z,its,n,r,e⟩:=I.hok l _ hH;exact ⟨z,its,n,r,r.length,e⟩
theorem K8 {n:Nat} (h:n<=aae):abH n=false:=by
 unfold abH;exact decide_eq_false (by omega)
end
section
variable {X:Cx}
def jcJ:V->List V->Hp->VK->Prop:=fun x vs H Q=> ∃l xs y,x= .ref l/\vs=[y]/\H l=some (.lst xs)/\xs.length<aae/\Q .non (upd H l (.lst (xs++[y])))
theorem XM:MtM X "list.append" jcJ:=by
 intro pins s σ H x vs v us Q I rx rv h;obtain ⟨l,xs,y,rfl,rfl,hH,hz,q⟩:=h;cases rx;obtain ⟨u,rfl,ru⟩:=rv.one;obtain ⟨z,its,n,r,hl,e⟩:=I.lstM hH;refine call_meets F.slot_list_append ⟨_,e,rfl⟩ F.entry_list_append (F.args_list_append_2 _ _) (PySem.list_append l its.toArray n u (by rw [aaf];omega)) ⟨e,?_⟩;refine ⟨.non,_,I.lset (its':=its++[u]) hH e (by simp) (r.append (.cons ru .nil)) ?_,rfl,q⟩;rw [aao,List.length_singleton];omega
def jcH:V->List V->Hp->VK->Prop:=fun x vs H Q=> ∃l b xs zs,x= .ref l/\vs=[.ref b]/\H l=some (.lst xs)/\H b=some (.lst zs)/\xs.length+zs.length<=aae/\Q .non (upd H l (.lst (xs++zs)))
theorem vH:MtM X "list.extend" jcH:=by
 intro pins s σ H x vs v us Q I rx rv h;obtain ⟨l,b,xs,zs,rfl,rfl,hH,hB,hz,q⟩:=h;cases rx;obtain ⟨u,rfl,ru⟩:=rv.one;cases ru;obtain ⟨z,its,n,r,hl,e⟩:=I.lstM hH;obtain ⟨z2,its2,n2,r2,hl2,e2⟩:=I.lstM hB;have hsz:its.toArray.size+its2.toArray.size<=aae:=by rw [aaf,aaf];omega
 have hlong: ¬(!its.toArray.isEmpty&&abH (its.toArray.size+its2.toArray.size))=true:=by
  rw [K8 hsz,Bool.and_false];exact aaz
 refine call_meets adj ⟨_,e,rfl⟩ F.entry_list_extend (F.args_list_extend_2 _ _)
  (AutoSeq1.list_extend_list_list_0 l its.toArray n b its2.toArray n2 hlong (by rw [aaf];omega) (by omega)) ⟨e,e2,?_⟩
 refine ⟨.non,_,I.lset (its':=its++its2) hH e (by simp) (r.append r2) ?_,rfl,q⟩;rw [aao];omega
def rPop:V->List V->Hp->VK->Prop:=fun x vs H Q=> ∃l xs y,x= .ref l/\vs=[]/\H l=some (.lst xs)/\xs[xs.length-1]?=some y/\Q y (upd H l (.lst xs.dropLast))
theorem jfk:MtM X "list.pop" rPop:=by
 intro pins s σ H x vs v us Q I rx rv h;obtain ⟨l,xs,y,rfl,rfl,hH,hy,q⟩:=h;cases rx;have hus:=rv.zero;subst hus;obtain ⟨z,its,n,r,hl,e⟩:=I.lstM hH;obtain ⟨u,hu,ru⟩:=r.get hy
 have hy':its.toArray[its.toArray.size-1]?=some u:=by
   show its.toArray[its.length-1]?=some u;rw [←aco,←hl];exact hu
 refine call_meets F.slot_list_pop ⟨_,e,rfl⟩ F.entry_list_pop (F.args_list_pop_1 _) (MeetsSeq.list_pop_last l its.toArray n u hy' (by rw [aaf];omega)) ⟨e,?_⟩;refine ⟨y,_,I.lset (its':=its.dropLast) hH e ?_ r.dropLast ?_,ru,q⟩
 · show its.toArray.eraseIdxIfInBounds (its.toArray.size-1)=its.dropLast.toArray;rw [aaf,List.eraseIdxIfInBounds_toArray,UR]
 · rw [List.length_dropLast];omega
def jen:V->List V->Hp->VK->Prop:=fun x vs H Q=> ∃l xs,x= .ref l/\vs=[]/\H l=some (.lst xs)/\Q .non (upd H l (.lst []))
theorem jaN:MtM X "list.clear" jen:=by
 intro pins s σ H x vs v us Q I rx rv h;obtain ⟨l,xs,rfl,rfl,hH,q⟩:=h;cases rx;have hus:=rv.zero;subst hus;obtain ⟨z,its,n,r,hl,e⟩:=I.lstM hH;refine call_meets F.slot_list_clear ⟨_,e,rfl⟩ F.entry_list_clear (F.args_list_clear_1 _) (AutoSeq1.list_clear_list_0 l its.toArray n (by rw [aaf];omega)) ⟨e,?_⟩;exact ⟨.non,_,I.lset (its':=[]) (ys:=[]) hH e rfl .nil (abp _),rfl,q⟩
def rCat:R2:=fun x y H Q=> ∃l b xs zs,x= .ref l/\y= .ref b/\H l=some (.lst xs)/\H b=some (.lst zs)/\xs.length+zs.length<=aae/\ ∀p,H p=none->Q (.ref p) (upd H p (.lst (xs++zs)))
theorem op_cat:OpR X (abG .Add) rCat:=by
 intro pins s σ H x y v u Q I rx ry h;obtain ⟨l,b,xs,zs,rfl,rfl,hH,hB,hz,q⟩:=h;cases rx;cases ry;obtain ⟨z,its,n,r,hl,e⟩:=I.lstM hH;obtain ⟨z2,its2,n2,r2,hl2,e2⟩:=I.lstM hB;refine PySem.P.add_list e e2 ?_ (by rw [aaf,aaf];omega);have ea:its.toArray++its2.toArray=(its++its2).toArray:=by simp
 rw [ea];exact ⟨.ref _,_,I.lnew (t':=s.toks) (r.append r2) (by rw [aao];omega),rfl,q _ I.fresh⟩
end
end L2
namespace L2
open PySem PySem.Spec PyProof.Rows
section
variable {κ:Type} [DecidableEq κ]
def valV (kvs:List (κ×V)) (k:κ):Option V:=(kvs.find? fun kv=>decide (kv.1=k)).map (·.2)
def putK (kvs:List (κ×V)) (k:κ) (v:V):List (κ×V):=
 if (kvs.any fun kv=>decide (kv.1=k))=true then kvs.map (fun kv=>if kv.1=k then (kv.1,v) else kv) else kvs++[(k,v)]
theorem Wr {p:κ×V} {r:List (κ×V)} {k:κ} (e:p.1=k):valV (p::r) k=some p.2:=by simp [valV,acp,e]
theorem Ws {p:κ×V} {r:List (κ×V)} {k:κ} (e: ¬p.1=k):valV (p::r) k=valV r k:=by simp [valV,acp,e]
theorem KI (k:κ): ∀kvs:List (κ×V),(kvs.any fun kv=>decide (kv.1=k))=(valV kvs k).isSome
 | []=>rfl
 |p::r=>by
  rw [acT]
  by_cases e:p.1=k
  · simp only [Wr e,decide_eq_true e,Bool.true_or,Option.isSome_some]
  · rw [Ws e,decide_eq_false e,Bool.false_or];exact KI k r
theorem yW (kvs:List (κ×V)) (k:κ) (v:V):(putK kvs k v).length<=kvs.length+1:=by
 unfold putK
 split
 · rw [aan];omega
 · rw [aao,aad,aas];omega
theorem RelO.isSome_eq {o:Option V} {u:Option Value} (r:RelO o u):o.isSome=u.isSome:=by
 cases o with
 |none=>cases u with
  |none=>rfl
  |some _=>exact (show False from r).elim
 |some _=>cases u with
  |none=>exact (show False from r).elim
  |some _=>rfl
theorem RelO.getD {o:Option V} {u:Option Value} {d:V} {d':Value} (r:RelO o u) (rd:RelV d d'):RelV (o.getD d) (u.getD d'):=by
 cases o with
 |none=>cases u with
  |none=>exact rd
  |some _=>exact (show False from r).elim
 |some _=>cases u with
  |none=>exact (show False from r).elim
  |some _=>exact r
theorem KV.val {kvs:List (κ×V)} {vs:List (κ×Value)} (r:KV kvs vs) (k:κ):RelO (valV kvs k) (valueAt vs k):=by
 unfold KV at r
 induction r with
 |nil=>exact ab3
 | @cons p q ps qs h t ih=>
  obtain ⟨h1,h2⟩:=h
  by_cases e:p.1=k
  · have e':q.1=k:=h1.symm.trans e;have b:valueAt (q::qs) k=some q.2:=by simp [valueAt,acp,e']
    rw [Wr e,b];exact h2
  · have e': ¬q.1=k:=fun z=>e (h1.trans z)
    have b:valueAt (q::qs) k=valueAt qs k:=by simp [valueAt,acp,e']
    rw [Ws e,b];exact ih
theorem KV.any {kvs:List (κ×V)} {vs:List (κ×Value)} (r:KV kvs vs) (k:κ):(kvs.any fun kv=>decide (kv.1=k))=vs.any fun kv=>decide (kv.1=k):=by
 unfold KV at r
 induction r with
 |nil=>rfl
 |cons h t ih=>rw [acT,acT,ih,h.1]
theorem KV.repl {kvs:List (κ×V)} {vs:List (κ×Value)} (r:KV kvs vs) (k:κ) {y:V} {u:Value} (ry:RelV y u):
  KV (kvs.map fun kv=>if kv.1=k then (kv.1,y) else kv) (vs.map fun kv=>if kv.1=k then (kv.1,u) else kv):=by
 unfold KV at r ⊢
 induction r with
 |nil=>exact .nil
 | @cons p q ps qs h t ih=>
  rw [aaw,aaw];refine .cons ?_ ih;obtain ⟨h1,h2⟩:=h
  by_cases e:p.1=k
  · rw [if_pos e,if_pos (h1.symm.trans e)];exact ⟨h1,ry⟩
  · rw [if_neg e,if_neg (fun z=>e (h1.trans z))];exact ⟨h1,h2⟩
theorem KV.put {kvs:List (κ×V)} {vs:List (κ×Value)} (r:KV kvs vs) (k:κ) {y:V} {u:Value} (ry:RelV y u):KV (putK kvs k y) (stored vs k u):=by
 unfold putK stored;rw [r.any k]
 by_cases e:(vs.any fun kv=>decide (kv.1=k))=true
 · rw [if_pos e,if_pos e];exact r.repl k ry
 · rw [if_neg e,if_neg e];exact Paired.snoc r ⟨rfl,ry⟩
theorem KV.keys {kvs:List (κ×V)} {vs:List (κ×Value)} (r:KV kvs vs):kvs.map (·.1)=vs.map (·.1):=by
 unfold KV at r
 induction r with
 |nil=>rfl
 |cons h t ih=>rw [aaw,aaw,ih,h.1]
theorem KV.length {kvs:List (κ×V)} {vs:List (κ×Value)} (r:KV kvs vs):kvs.length=vs.length:=ad1 r
end
theorem ja4 {P:aaD} {w:World} {k:Key} {u:Value} (r:RelV (kV k) u):(qr P w).is k u=true:=by
 cases k with
 |inl i=>obtain ⟨t,e⟩:=(show∃t,u=ad7 i t from r);subst e;exact Y8 P w i t
 |inr x=>obtain ⟨t,e⟩:=(show∃t,u=Value.str x t from r);subst e;exact Y7 P w x t
theorem XR {P:aaD} {w:World}: ∀ {ks:List Key} {us:List Value},Vals (ks.map kV) us->ItemsAre (qr P w) ks us
 | [],_,r=>by rw [adH] at r;cases r;exact .nil
 |k::ks,_,r=>by
  rw [aaw] at r
  cases r with
  |cons h t=>exact .cons (ja4 h) (XR t)
abbrev KT (H:Hp):List (List Key×V)->List (List Key×Addr×Value)->Prop:=Paired fun p q=>p.1=q.1/\H q.2.1=some (.tup (p.1.map kV))/\RelV p.2 q.2.2
theorem KT.val {H:Hp} {kvs:List (List Key×V)} {xs:List (List Key×Addr×Value)} (r:KT H kvs xs) (k:List Key):RelO (valV kvs k) ((atKey xs k).map (·.2)):=by
 induction r with
 |nil=>exact ab3
 | @cons p q ps qs h t ih=>
  obtain ⟨h1,_,h2⟩:=h
  by_cases e:p.1=k
  · have e':q.1=k:=h1.symm.trans e;have b:atKey (q::qs) k=some q.2:=by simp [atKey,acp,e']
    rw [Wr e,b];exact h2
  · have e': ¬q.1=k:=fun z=>e (h1.trans z)
    have b:atKey (q::qs) k=atKey qs k:=by simp [atKey,acp,e']
    rw [Ws e,b];exact ih
theorem KT.repl {H:Hp} {kvs:List (List Key×V)} {xs:List (List Key×Addr×Value)} (r:KT H kvs xs) (k:List Key) {y:V} {u:Value} (ry:RelV y u):
  KT H (kvs.map fun kv=>if kv.1=k then (kv.1,y) else kv) (xs.map (putAt k u)):=by
 induction r with
 |nil=>exact .nil
 | @cons p q ps qs h t ih=>
  rw [aaw,aaw];refine .cons ?_ ih;obtain ⟨h1,h2,h3⟩:=h;unfold putAt
  by_cases e:p.1=k
  · rw [if_pos e,if_pos (h1.symm.trans e)];exact ⟨h1,h2,ry⟩
  · rw [if_neg e,if_neg (fun z=>e (h1.trans z))];exact ⟨h1,h2,h3⟩
theorem KT.put {H:Hp} {kvs:List (List Key×V)} {xs:List (List Key×Addr×Value)} (r:KT H kvs xs) (k:List Key) {b:Addr} {y:V} {u:Value} (hb:H b=some (.tup (k.map kV))) (ry:RelV y u):
   KT H (putK kvs k y) (storedH xs k b u):=by
 have e:(kvs.any fun kv=>decide (kv.1=k))=(atKey xs k).isSome:=by
   rw [KI,(r.val k).isSome_eq,Option.isSome_map]
 unfold putK storedH;rw [e]
 by_cases q:(atKey xs k).isSome=true
 · rw [if_pos q,if_pos q];exact r.repl k ry
 · rw [if_neg q,if_neg q];exact Paired.snoc r ⟨rfl,hb,ry⟩
theorem KT.keeps {H H':Hp} {kvs:List (List Key×V)} {xs:List (List Key×Addr×Value)} (r:KT H kvs xs) (ht: ∀b ys,H b=some (.tup ys)->H' b=some (.tup ys)):KT H' kvs xs:=
 Paired.mapP r fun _ _ z=>⟨z.1,ht _ _ z.2.1,z.2.2⟩
section
variable {P:aaD} {w:World} {H:Hp} {h:Heap} {a:Addr}
theorem jel {u:HO} (ok:HOk P w H h) (e:Rd H a u):ObjOk P w H h a u:=e.ok ok
theorem jfS {kvs:List (Key×V)} (ok:HOk P w H h) (e:Rd H a (.dK kvs)):kvs.length<=aae/\(a==abR)=false/\ ∃vs,KV kvs vs/\h.DictOf (qr P w) a vs:=
 show ObjOk P w H h a (.dK kvs) from jel ok e
theorem jdF {kvs:List (Key×V)} (ok:HOk P w H h) (e:H a=some (.dK kvs)):kvs.length<=aae/\(a==abR)=false/\ ∃vs,KV kvs vs/\h.DictOf (qr P w) a vs:=jfS ok (.inl e)
theorem vR {ks:List Key} (ok:HOk P w H h) (e:H a=some (.tup (ks.map kV))):(tupleKind (qr P w)).is h ks a:=by
 obtain ⟨_,its,r,o,h1,h2,n,h3⟩:=(show ObjOk P w H h a (.tup (ks.map kV)) from ok a _ e)
 exact ⟨o,its.toArray,n,h1,h2,h3,by simpa using XR r⟩
theorem jfO {kvs:List (List Key×V)} (ok:HOk P w H h) (e:Rd H a (.dT kvs)):kvs.length<=aae/\(a==abR)=false/\
  ∃xs,KT H kvs xs/\h.DictOfH (tupleKind (qr P w)) a xs:=by
 obtain ⟨z,y,xs,r,o,es,ep,h1,h2,h3,h4,h5⟩:=(show ObjOk P w H h a (.dT kvs) from jel ok e)
 refine ⟨z,y,xs,r,o,es,ep,h1,h2,h3,h4,fun x hx=>?_,h5⟩
 have all: ∀ {l:List (List Key×V)} {m:List (List Key×Addr×Value)},KT H l m-> ∀x∈m,(tupleKind (qr P w)).is h x.1 x.2.1:=by
  intro l m q
  induction q with
  |nil=>intro x hx;exact nomatch hx
  | @cons p q ps qs hq t ih=>
   intro x hx;rcases aah.mp hx with e|hx
   · subst e;exact vR ok (by rw [←hq.1];exact hq.2.1)
   · exact ih x hx
 exact all r x hx
theorem jgV {kvs:List (List Key×V)} (ok:HOk P w H h) (e:H a=some (.dT kvs)):kvs.length<=aae/\(a==abR)=false/\
 ∃xs,KT H kvs xs/\h.DictOfH (tupleKind (qr P w)) a xs:=jfO ok (.inl e)
end
def DGet (H:Hp) (a:Addr) (y:V) (r:Option V):Prop:=
 (∃kvs k,Rd H a (.dK kvs)/\y=kV k/\r=valV kvs k)\/ ∃kvs k b,Rd H a (.dT kvs)/\y= .ref b/\H b=some (.tup (k.map kV))/\r=valV kvs k
def DPut (H:Hp) (a:Addr) (y v:V) (H':Hp):Prop:=
 (∃kvs k,H a=some (.dK kvs)/\y=kV k/\kvs.length<aae/\H'=upd H a (.dK (putK kvs k v)))\/
 ∃kvs k b,H a=some (.dT kvs)/\y= .ref b/\H b=some (.tup (k.map kV))/\kvs.length<aae/\H'=upd H a (.dT (putK kvs k v))
theorem DGet.k {H:Hp} {a:Addr} {kvs:List (Key×V)} {k:Key} (e:H a=some (.dK kvs)):DGet H a (kV k) (valV kvs k):= .inl ⟨kvs,k,.inl e,rfl,rfl⟩
theorem DPut.k {H:Hp} {a:Addr} {kvs:List (Key×V)} {k:Key} {v:V} (e:H a=some (.dK kvs)) (hl:kvs.length<aae):DPut H a (kV k) v (upd H a (.dK (putK kvs k v))):= .inl ⟨kvs,k,e,rfl,hl,rfl⟩
theorem DPut.t {H:Hp} {a b:Addr} {kvs:List (List Key×V)} {k:List Key} {v:V} (e:H a=some (.dT kvs)) (eb:H b=some (.tup (k.map kV))) (hl:kvs.length<aae):
 DPut H a (.ref b) v (upd H a (.dT (putK kvs k v))):= .inr ⟨kvs,k,b,e,rfl,eb,hl,rfl⟩
section
variable {X:Cx} {pins:List (Addr×Obj)} {σ:St} {H:Hp} {s:aaj} {a:Addr} {y v:V} {u r:Value} {o:Option V} {A:aaX} {E:Value->aaj->Prop}
theorem Inv.big (I:Inv X pins σ H s):abR<s.heap.objs.size:=by
 have h:aav<s.heap.objs.size:=(I.mod.glob.keeps I.bk).lt;exact Nat.lt_trans (by decide) h
theorem Kq {h':Heap} {t':Nat} {ob:HO} (I:Inv X pins σ H s) (mu:Mut (H a)) (hs:acK a s.heap h') (he: ∃q,h'.get? a=some q) (new:ObjOk X.prog X.w (upd H a ob) h' a ob):
  Inv X pins σ (upd H a ob) {s with heap:=h',toks:=t'}:=
 I.write (x:=a) (e:=a) mu (.inl rfl) (fun b q hb z=>(hs.2 b hb).trans z) he new
theorem jcl {P:aaD} {w:World} {H':Hp} {h':Heap} {kvs:List (Key×V)} {vs:List (Key×Value)} (z:kvs.length<=aae) (hd:(a==abR)=false) (rel:KV kvs vs) (dd:h'.DictOf (qr P w) a vs):
 ObjOk P w H' h' a (.dK kvs):=⟨z,hd,vs,rel,dd⟩
theorem uQ {H':Hp} {Q:Unit->aaj->Prop} (hu:A.units+1<cLine) (I:Inv X pins σ H s) (g:DPut H a y v H') (ry:RelV y u) (rv:RelV v r) (h: ∀s',Inv X pins σ H' s'->Q () s'):
   wpAny (model X.prog X.w) A (setItem (.ref a) u r) Q E s:=by
 rcases g with ⟨kvs,k,e,ey,l,eH⟩| ⟨kvs,k,b,e,ey,eb,l,eH⟩
 · subst ey eH;obtain ⟨z,hd,vs,rel,dd⟩:=jdF I.hok e;have hz:vs.length<=aae:=by rw [←rel.length];exact z
   have hl:(putK kvs k v).length<=aae:=by have:=yW kvs k v;omega
   refine wpAny_setItem_pairs (hsz:=hz) (ja4 ry) dd fun h' dd' hs=>h _ ?_
   have he: ∃q,h'.get? a=some q:=let ⟨q,_,_,hq,_⟩:=dd';⟨q,hq⟩
   exact Kq I (by rw [e];exact ab3) hs he (jcl hl hd (rel.put k rv) dd')
 · subst ey eH;cases (show u=aaJ b from ry);obtain ⟨z,hd,xs,rel,dd⟩:=jgV I.hok e;have hz:xs.length<=aae:=by rw [←ad1 rel];exact z
   have hl:(putK kvs k v).length<=aae:=by have:=yW kvs k v;omega
   refine wpAny_setItem_heap (hsz:=hz) (tupleKind_room_in1 hu) (vR I.hok eb) dd fun h' dd' hs=>h _ ?_
   obtain ⟨q,es,ep,hq,h2,h3,h4,_,h5⟩:=dd';refine Kq I (by rw [e];exact ab3) hs ⟨q,hq⟩ ⟨hl,hd,_,(rel.put k eb rv).keeps fun c ys ec=>?_,q,es,ep,hq,h2,h3,h4,h5⟩;rw [jT (jgK ec e (fun z=>nomatch z))];exact ec
end
def jgr (td ty tv:TE):TS:=fun D σ H=>tv σ H fun v H1=>td σ H1 fun x H2=>ty σ H2 fun y H3=> ∃a H4,x= .ref a/\DPut H3 a y v H4/\D.nx σ H4
section
variable {X:Cx} {o i e value:Expr} {pos pos' tpos:Pos} {td ty tv:TE}
theorem kW (hu:X.A.units+1<cLine) (ho:PE X o td) (hi:PE X i ty) (hv:PE X value tv) (hs:ab1 value (some (.Subscript o i pos')) pos.line X.env=pure false):
  PS X (.Assign [.Subscript o i pos'] value pos) (jgr td ty tv):=by
 intro pins s σ H D I h;refine wpAny_Assign_Subscript (thn (hv pins s σ H _ I h) fun r s1 ⟨v,H1,I1,rv,q1⟩=>thn (ho pins s1 σ H1 _ I1 q1) fun u s2 ⟨x,H2,I2,rx,q2⟩=>thn (hi pins s2 σ H2 _ I2 q2) fun iv s3 ⟨y,H3,I3,ry,a,H4,ex,g,q3⟩=>?_) hs;subst ex;obtain rfl:u=aaJ a:=rx;exact uQ hu I3 g ry rv fun s4 I4=>⟨σ,H4,I4,q3⟩
end
theorem jbz {P:aaD} {w:World} {H:Hp} (h:Heap) (hb:abR<h.objs.size):ObjOk P w H (h.push {cls:= .type "dict",data:= .dict #[]}) h.objs.size (.dK []):=
 ⟨abp _,beq_eq_false_iff_ne.mpr (acF (aaG hb)),[],.nil,Heap.DictOf.new h⟩
theorem jbr {P:aaD} {w:World} {H:Hp} (h:Heap) (hb:abR<h.objs.size):ObjOk P w H (h.push {cls:= .type "dict",data:= .dict #[]}) h.objs.size (.dT []):=
 ⟨abp _,beq_eq_false_iff_ne.mpr (acF (aaG hb)),[],.nil,_, #[],0,aam _ rfl,⟨rfl,rfl,rfl⟩,rfl,rfl,acd⟩
def jee:TE:=fun _ H Q=> ∀p,H p=none->Q (.ref p) (upd H p (.dK []))
def jed:TE:=fun _ H Q=> ∀p,H p=none->Q (.ref p) (upd H p (.dT []))
section
variable {X:Cx} {pos:Pos}
theorem jaA:PE X (.Dict [] [] pos) jee:=fun pins s σ H Q I h=>
 wpAny_Dict_empty ⟨.ref s.heap.objs.size,_,I.laid (a:=s.heap.objs.size) (o:= .dK []) (t':=s.toks) (fun _ _ q=>aac _ q) (aai _) (jbz s.heap I.big),rfl,h _ (I.hok.fresh (aai _))⟩
theorem jaz:PE X (.Dict [] [] pos) jed:=fun pins s σ H Q I h=>
 wpAny_Dict_empty ⟨.ref s.heap.objs.size,_,I.laid (a:=s.heap.objs.size) (o:= .dT []) (t':=s.toks) (fun _ _ q=>aac _ q) (aai _) (jbr s.heap I.big),rfl,h _ (I.hok.fresh (aai _))⟩
end
structure M1 (X:Cx) (o:Expr) (m:Str) (apos:Pos) (e:Expr) (cpos:Pos):Prop where
 base:abf o m X.env (eval o X.env)=eval o X.env
 few:((abd cpos (aal [e] X.env)).all (fun x=>!x.1)&&(acs cpos (abz [] X.env)).all (fun x=>x.1.isSome)
  &&decide (([e]:List Expr).length+([]:List acn).length+(if ([]:List acn).isEmpty then 0 else 1)<30))=true
 line:(apos.endLine==cpos.line)=true
 trees:abd cpos (aal [e] X.env)=[(false,eval e X.env)]
structure M2 (X:Cx) (o:Expr) (m:Str) (apos:Pos) (e f:Expr) (cpos:Pos):Prop where
 base:abf o m X.env (eval o X.env)=eval o X.env
 few:((abd cpos (aal [e,f] X.env)).all (fun x=>!x.1)&&(acs cpos (abz [] X.env)).all (fun x=>x.1.isSome)
  &&decide (([e,f]:List Expr).length+([]:List acn).length+(if ([]:List acn).isEmpty then 0 else 1)<30))=true
 line:(apos.endLine==cpos.line)=true
 trees:abd cpos (aal [e,f] X.env)=[(false,eval e X.env),(false,eval f X.env)]
section
variable {X:Cx} {pins:List (Addr×Obj)} {σ:St} {H:Hp} {s:aaj} {a:Addr} {y d:V} {u r:Value} {o:Option V} {A:aaX} {E:Value->aaj->Prop}
theorem jfX {Q:Value->aaj->Prop} (hu:A.units+1<cLine) (I:Inv X pins σ H s) (g:DGet H a y o) (ry:RelV y u) (rd:RelV d r) (h: ∀w' s',Inv X pins σ H s'->RelV (o.getD d) w'->Q w' s'):
   wpAny (model X.prog X.w) A (call (.builtin "dict.get") [.ref a,u,r]) Q E s:=by
 rcases g with ⟨kvs,k,e,ey,l⟩| ⟨kvs,k,b,e,ey,eb,l⟩
 · subst ey;obtain ⟨z,hd,vs,rel,dd⟩:=jfS I.hok e;refine call_meetsIn ada dd.typeIs PySem.F.entry_dict_get (PySem.F.args_dict_get_3 _ _ _) (meets_dict_get_default (qr X.prog X.w) a (ja4 ry) hd r) ⟨_,dd.mapOf,h _ _ (I.tok _) ?_⟩;rw [l];exact (rel.val k).getD rd
 · subst ey;cases (show u=aaJ b from ry);obtain ⟨z,hd,xs,rel,dd⟩:=jfO I.hok e;refine call_meetsIn ada dd.typeIs PySem.F.entry_dict_get (PySem.F.args_dict_get_3 _ _ _) (meetsH_dict_get_default (tupleKind (qr X.prog X.w)) a b hd r) ⟨tupleKind_room_in1 hu,k,xs,vR I.hok eb,dd,h _ _ (I.tok _) ?_⟩;rw [l];exact (rel.val k).getD rd
end
end L2
namespace Att
open PySem PySem.W PySem.Calls PyProof.Rows
theorem Zo {P:Params} {h:Heap}: ∀(ns:List Int) (vs:List Value),WellAll P h vs (ns.map WData.int)->IntsAre vs ns:=by
 intro ns
 induction ns with
 |nil=>
  intro vs w;rw [adH] at w;cases w;exact .nil
 |cons n ns ih=>
  intro vs w;rw [aaw] at w
  cases w with
  |cons a b=>
   cases a;exact .cons _ _ (ih _ b)
theorem kH {l:aeb} {n:Nat} (hn:l.most=some n) {P:Params} {h:Heap} {args:List WData} {vals:List Value}
  (hpre:l.row.toRowW.claim.pre args=true) (hwl:WellAll P h vals args):
  ∃a vs ns,vals=[aaJ a]/\args=[WData.list (ns.map WData.int)]/\h.get? a=some {cls:= .type "list",data:= .seq vs.toArray}/\IntsAre vs ns/\ns.length<=n:=by
 have hsh:WShape.hasAll [] args [.list .int]=true:=(pre_splitW hpre).1;have hc:l.pre.holds [] {args:=args}=true:=(pre_splitW hpre).2;obtain ⟨d,r,rfl,h1,h2⟩:=hasAllW_cons hsh;obtain rfl:=hasAllW_nil h2;obtain ⟨xs,rfl,h3⟩:=hasW_list h1;obtain ⟨ns,rfl⟩:=items_int h3
 have hlen:ns.length<=n:=by
  unfold OpenLaw.pre at hc
  have h4:(WTm.not (.lt (.lit (.int (n:Int))) (.len (.arg 0)))).holds [] {args:=[.list (ns.map .int)]}=true:=by
   have h4:=(holds_andW hc).1;rw [hn] at h4;exact h4
  have h5:=condW_of h4 (w_not (w_lt w_lit (w_len_list (w_arg rfl))));rw [aan] at h5;refine Nat.le_of_not_lt fun q=>?_
  have q':(n:Int)< ((ns.length:Nat):Int):=by omega
  first
   | (rw [decide_eq_true q'] at h5;exact absurd h5 (by decide))
   | (simp at h5;omega)
 cases hwl with
 |cons w1 w2=>
  cases w2
  cases w1 with
  |list ho hall=>exact ⟨_,_,ns,rfl,rfl,ho,Zo ns _ hall,hlen⟩
theorem kX (l:aeb) (args:List WData):l.row.toRowW.claim.post args (.bool true) args=true:=
 postW_of (r:=l.row.toRowW) (X:=(true==true))
  (show WShape.has [] (.bool true) .bool=true by first|rfl|decide|simp [WShape.has,WShape.arms,WShape.armsAll])
  (show (WTm.eq .res (.lit (.bool true))).value [] {args:=args,res:=some (.bool true),after:=args}=some (.bool (true==true)) from w_eq_bool (w_res rfl) w_lit) rfl
end Att
namespace L2
open PySem PySem.Spec PyProof.Rows
theorem Xm: ∀ {vs:List Value} {ns:List Int},IntsAre vs ns->Vals (ns.map V.int) vs
 |_,_,.nil=> .nil
 |_,_,.cons n t h=> .cons ⟨t,rfl⟩ (Xm h)
def Only (H:Hp):Prop:= ∀b,H b=none\/ ∃o xs,H b=some (.frz o (.lst xs))
theorem jaZ {P:aaD} {w:World} {K:aaa} {mg mb:Str->Option Value} {CX:CXT} {k:Nat} {fa a:Addr} {fd:abC} {x:Str} {sp:Sp} {s₁:aaj} {vs:List Value} {ns:List Int}
  (KX:K.In s₁.heap) (hns:s₁.heap.Ns aav mg) (hb:s₁.heap.Ns builtinsNs mb) (hbb: ∀x:Str,x≠ "__name__" ->mb x=abl x) (hlim:s₁.heap.NoLimit) (hg:s₁.gens= #[])
  (ha:s₁.heap.get? a=some {cls:= .type "list",data:= .seq vs.toArray}) (hi:IntsAre vs ns) (hl:ns.length<=aae) (hr:Room k callerA)
  (F: ∀base:Heap,K.In base->base.Ns aav mg->FnOk P w K mg base CX k fa fd [x] sp) (hbind: ∀(s:aaj) (u:Value),BindsTo s fd ⟨[u],[]⟩ [(x,u)])
  (hsp: ∀H:Hp,Only H->SqL K H a (ns.map V.int)->sp [.ref a] H (fun v _=>v= .bl true) fun _ _ _=>False)
  (hCX: ∀H e s',CX [] H s₁ (fun _ _ _=>False) e s'->False):
  codeAny (model P w) callerA (.call (.ref fa) ⟨[.ref a],[]⟩) (fun r s'=>r= .ok (.ret (.bool true))/\OldK s₁.heap s'.heap/\s'.os=s₁.os/\ad8 s'.gens) s₁:=by
 have rv:=Xm hi;have lenV:=hi.length
 have core: ∀H:Hp,Only H->SqL K H a (ns.map V.int)->HOk P w H s₁.heap->(∀b,H b≠none->b=a)->(H a≠none->K.lookup a=none)->
    codeAny (model P w) callerA (.call (.ref fa) ⟨[.ref a],[]⟩) (fun r s'=>r= .ok (.ret (.bool true))/\OldK s₁.heap s'.heap/\s'.os=s₁.os/\ad8 s'.gens) s₁:=by
  intro H hO hS hok hA hK;have base_of: ∀ {b:Addr} {o:Obj},s₁.heap.get? b=some o->H b=none->(hidT s₁.heap H).get? b=some o:=fun e n=>jbb e n
  have noA: ∀ {b:Addr} {o:Obj} {es:Array DictEntry} {ep:Nat},s₁.heap.get? b=some o->o.data= .dict es ep->H b=none:=fun {b o es ep} e d=>by
    cases q:H b with
    |none=>rfl
    |some u=>
      have e':b=a:=hA b (by rw [q];simp);subst e';rw [ha] at e;cases e;have d':Data.seq vs.toArray _=Data.dict es ep:=d;cases d'
  have nsK: ∀ {b:Addr} {m:Str->Option Value},s₁.heap.Ns b m->(hidT s₁.heap H).Ns b m:=fun {b m} ⟨o,es,ep,e,d,r⟩=>⟨o,es,ep,base_of e (noA e d),d,r⟩
  have hKb:K.In (hidT s₁.heap H):=fun b o e=>base_of (KX b o e) (by
    cases q:H b with
    |none=>rfl
    |some u=>
      have e':b=a:=hA b (by rw [q];simp);subst e'
      rw [hK (by rw [q];simp)] at e;cases e)
  have hM:Mod K mg (hidT s₁.heap H):=⟨hKb,nsK hns,⟨mb,nsK hb,hbb⟩,let ⟨mc,h1,h2⟩:=hlim;⟨mc,nsK h1,h2⟩⟩
  have e0:Env0 P w K mg (hidT s₁.heap H) callerA [] s₁ H:=⟨rfl,hM,fun b o e=>jc2 e,Nat.le_of_eq (uc _ _),trivial,fun b hb=>absurd (show b∈([]:List Addr) from hb) (by simp),hok,.of_eq hg⟩
  refine codeAny_mono ((F _ hKb (nsK hns)).run callerA [] s₁ H ⟨[.ref a],[]⟩ [.ref a] [.ref a] _ _ hr e0 (hbind s₁ (.ref a)) (.cons rfl .nil) (hsp H hO hS)) fun r s' h=>?_
  cases r with
  |error e=>exact (hCX H e s' h).elim
  |ok fl=>
    cases fl with
    |next=>exact abS h
    |brk=>exact abS h
    |cont=>exact abS h
    |ret u=>
      obtain ⟨v,H',os,bare,un,hok',r',q⟩:=h;have q':v= .bl true:=q;subst q';obtain rfl:u=acr true:=r';refine ⟨rfl,OldK.of_keep fun b o e=>?_,os,bare⟩
      cases q:H b with
      |none=>exact un.keep b o e q (by intro z;exact absurd (show b∈([]:List Addr) from z) (by simp)) (by simp)
      |some u=>
       rcases hO b with z| ⟨ob,xs,z⟩
       · rw [q] at z;cases z
       · have z2:=un.frzs b ob _ z;obtain ⟨e1,_⟩:=hok b _ z;obtain ⟨e2,_⟩:=hok' b _ z2;rw [e] at e1;cases e1;exact e2
 cases hk:K.lookup a with
 |some o=>
  have e:=KX a o hk;rw [ha] at e;cases e;refine core (fun _=>none) (fun _=> .inl rfl) (.inr ⟨_,vs.toArray,_,hk,rfl,rfl,rfl,by rw [aaf,lenV];exact hl,by simpa using rv⟩) (fun b u z=>by have z':(none:Option HO)=some u:=z;cases z') (fun b z=>absurd rfl z) fun z=>absurd rfl z
 |none=>
  refine core (fun b=>if b=a then some (.frz {cls:= .type "list",data:= .seq vs.toArray} (.lst (ns.map V.int))) else none) (fun b=>?_) (.inl (.inr ⟨{cls:= .type "list",data:= .seq vs.toArray},if_pos rfl⟩)) (fun b u z=>?_) (fun b z=>?_) fun _=>hk
  · by_cases hb:b=a
    · exact .inr ⟨_,_,if_pos hb⟩
    · exact .inl (if_neg hb)
  · by_cases hb:b=a
    · have z':=(if_pos hb).symm.trans z;cases z';subst hb;exact ⟨ha,by rw [aan];exact hl,vs,_,rv,ha⟩
    · have z':=(if_neg hb).symm.trans z;cases z'
  · by_cases hb:b=a
    · exact hb
    · exact absurd (if_neg hb) z
end L2
/-THE LAST THEOREM (shape;LID,My.*are yours):
 My.Adr:a structure of the addresses that your layer names (classes,functions);My.Txt K t:a structure (Prop) of the equations over K;
 My.txt_mk:{K} {implicit addresses ..} (e1:nsIn K aav "law" =some (some (.ref f))) (e2:K.lookup f=some ⟨oc,od,.func (fnOf "law" "law" params body scope dV kV doc pm an cdv ct),sl⟩) (e3:ac2 K cdv "law" =true) .. : ∃t,My.Txt K t
set_option maxRecDepth 100000 in
set_option maxHeartbeats 0 in
theorem PySem.Challenge.cw_LID_holds:PySem.Challenge.rw_LID.Holds:=by
 w_on;o_law;k_head;(case hw=>w_witness2)
 k_fill
 refine L2.walk_of (l:=PySem.Challenge.rw_LID) (n:=63) (k:=40) (x:= "script") (CX:=fun w=> ..) (sp:=fun _=>My.sp_law) rfl (by decide) rfl ⟨rfl,by decide,by decide⟩ (fun w h Y=>PySem.W.kIn_of Y) ?F ?S ?C
 case F=>
  intro w mg fa h KX G hmg
  have T: ∃t,My.Txt (L2.KOf KX) t:=by
   dsimp only [L2.KOf]                          --K must stand as «<heap const>w.params» for k_is;refine' My.txt_mk ?e1 ?e2 ?e3 ..
   (case e1=>PySem.W.k_is)                    --in the order:a name->its address->its object->its parts
   (case e2=>PySem.W.k_is)
   ..
  obtain ⟨t,T⟩:=T;have e0:=hmg.symm.trans (abD KX G T.law);cases e0                                       --fa is the law's own address;exact ⟨_,fun s u=> .of_eq rfl,fun base kb nb=>My.law_fn T kb nb⟩     --if «.of_eq rfl» comes too early:refine' ⟨_,?b,fun base kb nb=>My.law_fn T kb nb⟩;exact fun s u=> .of_eq rfl
 case S=>exact fun w H a ns hl hO hS=> ..
 case C=>exact ..
(the tactic k_is has no namespace:write k_is)-/
namespace L2
open PySem PySem.Spec PyProof.Rows
def Kf (s:Stmt) (j:Nat):Stmt:=match s with
 | .ClassDef _ _ _ body _ _ _ _ _ _ _=>body.getD j (.Pass ⟨0,0,0,0⟩)
 |_=> .Pass ⟨0,0,0,0⟩
def yg (s:Stmt):Arguments:=match s with
 | .FunctionDef _ a _ _ _ _ _ _ _ _=>a
 |_=> {posonlyargs:=[],args:=[],vararg:=none,kwonlyargs:=[],kw_defaults:=[],kwarg:=none,defaults:=[]}
def ql (s:Stmt):List Stmt:=match s with
 | .FunctionDef _ _ b _ _ _ _ _ _ _=>b
 |_=>[]
def jf (s:Stmt):Scope:=match s with
 | .FunctionDef _ _ _ _ _ _ sc _ _ _=>sc
 |_=> {kind:= .function,names:=[],isGenerator:=false,isCoroutine:=false}
abbrev CX0:CXT:=fun _ _ _ _ _ _=>False
abbrev E0:XK:=fun _ _ _=>False
theorem YQ {X:Cx}:yJ CX0 X E0:=fun _ _ _ _ _ _ _ h=>h.elim
structure Fun (K:aaa) (x qual:Str) (st:Stmt) (f:Addr) (fd:abC):Prop where
 ex: ∃(oc:Value) (od:Option Addr) (kV doc pm:Value) (an:Option Addr) (cdv ct:Value) (osl:Array (Option Value)),
  fd=abV x qual (yg st) (ql st) (jf st) .none kV doc pm an cdv ct/\K.lookup f=some ⟨oc,od,.func fd,osl⟩/\ac2 K cdv qual=true
 kp:aaR K (.ref f)=true
section
variable {P:aaD} {w:World} {K:aaa} {mg:Str->Option Value} {base:Heap}
theorem Fun.ok {x qual:Str} {st:Stmt} {f:Addr} {fd:abC} {N ps:List Str} {k:Nat} {sp:Sp} (F:Fun K x qual st f fd) (S:FnScope N ps (jf st)) (len: ∀vs H Q E,sp vs H Q E->vs.length=ps.length)
  (hbody: ∀(cdv:Value) (A:aaX) (outer:List Env) (s:aaj) (H:Hp) (vs:List V) (Q:VK) (E:XK),Room k (A.deeper (acR qual (jf st) s.heap.objs.size f cdv))->sp vs H Q E->
   ∃t,PSs (cxOf CX0 P w K mg base N qual (jf st) f cdv A outer s H E).nox (ql st) t/\t {nx:=fun _ H'=>Q .non H',rt:=Q} (start N vs) H):FnOk P w K mg base CX0 (k+1) f fd ps sp:=by
 obtain ⟨oc,od,kV,doc,pm,an,cdv,ct,osl,rfl,lk,hcd⟩:=F.ex;refine jgU lk hcd S len fun A outer s H vs Q E hr hsp=>?_
 obtain ⟨t,h,q⟩:=hbody cdv A outer s H vs Q E hr hsp;exact ⟨t,h.nox,q⟩
theorem Fun.binds {x qual:Str} {st:Stmt} {f:Addr} {fd:abC} {ps:List Str} (F:Fun K x qual st f fd)
  (h: ∀(kV doc pm:Value) (an:Option Addr) (cdv ct:Value) (us:List Value),us.length=ps.length->bindArgs (abV x qual (yg st) (ql st) (jf st) .none kV doc pm an cdv ct) ⟨us,[]⟩=pure (ps.zip us)):Binds K fd ps []:=by
 obtain ⟨oc,od,kV,doc,pm,an,cdv,ct,osl,rfl,lk,hcd⟩:=F.ex;exact .all (h kV doc pm an cdv ct)
theorem jcf {x qual:Str} {st:Stmt} {f:Addr} {oc:Value} {od an:Option Addr} {osl:Array (Option Value)} {kV doc pm cdv ct:Value} (l:K.lookup f=some ⟨oc,od,.func (abV x qual (yg st) (ql st) (jf st) .none kV doc pm an cdv ct),osl⟩)
 (c:ac2 K cdv qual=true) (k:aaR K (.ref f)=true):Fun K x qual st f (abV x qual (yg st) (ql st) (jf st) .none kV doc pm an cdv ct):=⟨⟨oc,od,kV,doc,pm,an,cdv,ct,osl,rfl,l,c⟩,k⟩
end
theorem ua {A:aaX} {k:Nat} (hr:Room k A):A.units+1<cLine:=adI (Nat.add_le_add_left (by decide:1<=64) _) hr.units
def Same (H H':Hp):Prop:= ∀b o,H b=some o->H' b=some o
theorem Same.refl (H:Hp):Same H H:=fun _ _ h=>h
theorem Same.trans {H H1 H2:Hp} (a:Same H H1) (b:Same H1 H2):Same H H2:=fun c o h=>b c o (a c o h)
theorem Same.free {H H':Hp} (e:Same H H') {l:Addr} (h:H' l=Option.none):H l=Option.none:=by
 cases q:H l with
 |none=>rfl
 |some o=>
  rw [e l o q] at h;cases h
end L2
set_option maxHeartbeats 4000000
namespace M
open PySem PySem.Spec L2
open PyProof.Rows hiding St
inductive D where
 |non|bl (b:Bool)|int (i:Int)|str (x:Str)
 |tup (ds:List D)|lst (ds:List D)|scr (ds:List D)|dic (ks:List Key) (vs:List D)|dit (ks:List (List Key)) (vs:List D)|exn (c:Str)|fdc (ks:List Key) (vs:List D)|hdc (ks:List Key) (vs:List D)|obj (c:Str) (ns:List Str) (vs:List D)
mutual
def D.imm:D->Bool
 | .non=>true
 | .bl _=>true
 | .int _=>true
 | .str _=>true
 | .tup ds=>D.imms ds
 | .lst _=>false
 | .scr _=>false
 | .dic _ _=>false
 | .dit _ _=>false
 | .exn _=>true
 | .fdc _ _=>false
 | .hdc _ _=>false
 | .obj _ _ _=>false
def D.imms:List D->Bool
 | []=>true
 |d::ds=>D.imm d&&D.imms ds
end
inductive Res (α:Type) where
 |ok (a:α)
 |exc (c:Str)
 |stuck
noncomputable def Res.bind {α β:Type} (r:Res α) (f:α->Res β):Res β:=
 match r with
 | .ok a=>f a
 | .exc c=> .exc c
 | .stuck=> .stuck
instance:Monad Res where
 pure:=Res.ok
 bind:=Res.bind
theorem y8 {α β:Type} {a:α} {f:α->Res β}:(Res.ok a>>=f)=f a:=rfl
theorem jc {α β:Type} {r:Res α} {f:α->Res β} {b:β} (h:(r>>=f)= .ok b): ∃a,r= .ok a/\f a= .ok b:=by
 cases r with
 |ok a=>exact ⟨a,rfl,h⟩
 |exc c=>cases h
 |stuck=>cases h
noncomputable def must {α:Type} (c:Prop) [Decidable c] (r:Res α):Res α:=if c then r else .stuck
theorem jp {α:Type} {c:Prop} [Decidable c] {r:Res α} {a:α} (h:must c r= .ok a):c/\r= .ok a:=by
 unfold must at h
 by_cases hc:c
 · rw [if_pos hc] at h;exact ⟨hc,h⟩
 · rw [if_neg hc] at h;cases h
theorem jk {α:Type} {c:Prop} [Decidable c] {r:Res α} (h:c):must c r=r:=if_pos h
def LsK (K:aaa) (H:Hp) (a:Addr) (xs:List V):Prop:=
 (∃o,H a=some (.frz o (.lst xs)))\/
  ∃(o:Obj) (its:Array Value) (n:Nat),K.lookup a=some o/\o.cls= .type "list" /\o.dict=none/\o.data= .seq its n/\its.size<=aae/\Vals xs its.toList
theorem LsK.sql {K:aaa} {H:Hp} {a:Addr} {xs:List V} (h:LsK K H a xs):SqL K H a xs:=by
 rcases h with h|h
 · exact .inl (.inr h)
 · exact .inr h
mutual
inductive Rep (K:aaa):(Addr->Prop)->Hp->V->D->Prop where
 |non {A H}:Rep K A H .non .non
 |bl {A H} (b:Bool):Rep K A H (.bl b) (.bl b)
 |int {A H} (i:Int):Rep K A H (.int i) (.int i)
 |str {A H} (x:Str):x.length<=aae->Rep K A H (.str x) (.str x)
 |tup {A H} {a:Addr} {xs:List V} {ds:List D}:H a=some (.tup xs)->Reps K A H xs ds->Rep K A H (.ref a) (.tup ds)
 |lst {A H} {a:Addr} {xs:List V} {ds:List D}:H a=some (.lst xs)->A a->Reps K (fun c=>A c/\c≠a) H xs ds->Rep K A H (.ref a) (.lst ds)
 |lsk {A H} {a:Addr} {xs:List V} {ds:List D}:LsK K H a xs->Reps K A H xs ds->Rep K A H (.ref a) (.scr ds)
 |dic {A H} {a:Addr} {kvs:List (Key×V)} {vs:List V} {ks:List Key} {ds:List D}:H a=some (.dK kvs)->A a->kvs.map (·.1)=ks->kvs.map (·.2)=vs->Reps K (fun c=>A c/\c≠a) H vs ds->Rep K A H (.ref a) (.dic ks ds)
 |dit {A H} {a:Addr} {kvs:List ((List Key)×V)} {vs:List V} {ks:List (List Key)} {ds:List D}:H a=some (.dT kvs)->A a->kvs.map (·.1)=ks->kvs.map (·.2)=vs->Reps K (fun c=>A c/\c≠a) H vs ds->Rep K A H (.ref a) (.dit ks ds)
 |exn {A H} {a b C:Addr} {o:Obj} {c:Str}:H a=some (.frz o (.own b))->o.cls= .ref C->aax K aav c=some (some (.ref C))->Rep K A H (.ref a) (.exn c)
 |fdc {A H} {a:Addr} {kvs:List (Key×V)} {vs:List V} {ks:List Key} {ds:List D}:((H a=some (.dK kvs)/\A a)\/ ∃o,H a=some (.frz o (.dK kvs)))->kvs.map (·.1)=ks->kvs.map (·.2)=vs->Reps K (fun c=>A c/\c≠a) H vs ds->Rep K A H (.ref a) (.fdc ks ds)
 |hdc {A H} {a:Addr} {kvs:List (Key×V)} {vs:List V} {ks:List Key} {ds:List D}:(∃o,H a=some (.frz o (.dK kvs)))->kvs.map (·.1)=ks->kvs.map (·.2)=vs->Reps K (fun c=>A c/\c≠a) H vs ds->Rep K A H (.ref a) (.hdc ks ds)
 |obj {A H} {a C dx:Addr} {fs:List (Str×V)} {vs:List V} {c:Str} {ns:List Str} {ds:List D}:H a=some (.ins C dx fs)->A a->(aax K aav c=some (some (.ref C))/\fs.map (·.1)=ns)->fs.map (·.2)=vs->Reps K (fun c=>A c/\c≠a) H vs ds->Rep K A H (.ref a) (.obj c ns ds)
inductive Reps (K:aaa):(Addr->Prop)->Hp->List V->List D->Prop where
 |nil {A H}:Reps K A H [] []
 |cons {A H} {v:V} {d:D} {vs:List V} {ds:List D}:Rep K A H v d->Reps K A H vs ds->Reps K A H (v::vs) (d::ds)
end
def Stay (A:Addr->Prop) (H H':Hp):Prop:= ∀a o,H a=some o->(Mut (some o)->A a)->H' a=some o
theorem Stay.mono {A B:Addr->Prop} {H H':Hp} (h:Stay A H H') (w: ∀a,B a->A a):Stay B H H':=fun a o e m=>h a o e fun z=>w a (m z)
section
variable {K:aaa}
theorem LsK.stay {A:Addr->Prop} {H H':Hp} {a:Addr} {xs:List V} (h:LsK K H a xs) (st:Stay A H H'):LsK K H' a xs:=by
 rcases h with ⟨o,e⟩|h
 · exact .inl ⟨o,st a _ e (fun z=>z.elim)⟩
 · exact .inr h
mutual
theorem Rep.stay: ∀ {A A':Addr->Prop} {H H':Hp} {v:V} {d:D},Rep K A H v d->Stay A H H'->(∀a,A a->A' a)->Rep K A' H' v d
 |_,_,_,_,_,_,.non,_,_=> .non
 |_,_,_,_,_,_,.bl b,_,_=> .bl b
 |_,_,_,_,_,_,.int i,_,_=> .int i
 |_,_,_,_,_,_,.str x h,_,_=> .str x h
 |_,_,_,_,_,_,.tup e r,st,w=> .tup (st _ _ e (fun z=>z.elim)) (Reps.stay r st w)
 |_,_,_,_,_,_,.lst e a r,st,w=> .lst (st _ _ e (fun _=>a)) (w _ a) (Reps.stay r (st.mono fun _ z=>z.1) fun _ z=>⟨w _ z.1,z.2⟩)
 |_,_,_,_,_,_,.lsk e r,st,w=> .lsk (e.stay st) (Reps.stay r st w)
 |_,_,_,_,_,_,.dic e a k1 k2 r,st,w=> .dic (st _ _ e (fun _=>a)) (w _ a) k1 k2 (Reps.stay r (st.mono fun _ z=>z.1) fun _ z=>⟨w _ z.1,z.2⟩)
 |_,_,_,_,_,_,.dit e a k1 k2 r,st,w=> .dit (st _ _ e (fun _=>a)) (w _ a) k1 k2 (Reps.stay r (st.mono fun _ z=>z.1) fun _ z=>⟨w _ z.1,z.2⟩)
 |_,_,_,_,_,_,.obj e a k1 k2 r,st,w=> .obj (st _ _ e (fun _=>a)) (w _ a) k1 k2 (Reps.stay r (st.mono fun _ z=>z.1) fun _ z=>⟨w _ z.1,z.2⟩)
 |_,_,_,_,_,_,.exn e h1 h2,st,w=> .exn (st _ _ e (fun z=>z.elim)) h1 h2
 |_,_,_,_,_,_,.fdc e k1 k2 r,st,w=> .fdc (e.elim (fun z=> .inl ⟨st _ _ z.1 (fun _=>z.2),w _ z.2⟩) (fun ⟨o,z⟩=> .inr ⟨o,st _ _ z (fun z=>z.elim)⟩)) k1 k2 (Reps.stay r (st.mono fun _ z=>z.1) fun _ z=>⟨w _ z.1,z.2⟩)
 |_,_,_,_,_,_,.hdc e k1 k2 r,st,w=> .hdc (let ⟨o,z⟩:=e;⟨o,st _ _ z (fun z=>z.elim)⟩) k1 k2 (Reps.stay r (st.mono fun _ z=>z.1) fun _ z=>⟨w _ z.1,z.2⟩)
theorem Reps.stay: ∀ {A A':Addr->Prop} {H H':Hp} {vs:List V} {ds:List D},Reps K A H vs ds->Stay A H H'->(∀a,A a->A' a)->Reps K A' H' vs ds
 |_,_,_,_,_,_,.nil,_,_=> .nil
 |_,_,_,_,_,_,.cons h t,st,w=> .cons (Rep.stay h st w) (Reps.stay t st w)
end
theorem Same.stay {A:Addr->Prop} {H H':Hp} (h:Same H H'):Stay A H H':=fun a o e _=>h a o e
variable {A A':Addr->Prop} {H H':Hp}
theorem Rep.grow {v:V} {d:D} (r:Rep K A H v d) (h:Same H H'):Rep K A H' v d:=r.stay (Same.stay h) fun _ z=>z
theorem Reps.grow {v:List V} {d:List D} (r:Reps K A H v d) (h:Same H H'):Reps K A H' v d:=r.stay (Same.stay h) fun _ z=>z
theorem Rep.weak {v:V} {d:D} (r:Rep K A H v d) (w: ∀a,A a->A' a):Rep K A' H v d:=r.stay (fun _ _ e _=>e) w
theorem Reps.weak {v:List V} {d:List D} (r:Reps K A H v d) (w: ∀a,A a->A' a):Reps K A' H v d:=r.stay (fun _ _ e _=>e) w
mutual
theorem Rep.imm: ∀ {A A':Addr->Prop} {H:Hp} {v:V} {d:D},Rep K A H v d->d.imm=true->Rep K A' H v d
 |_,_,_,_,_,.non,_=> .non
 |_,_,_,_,_,.bl b,_=> .bl b
 |_,_,_,_,_,.int i,_=> .int i
 |_,_,_,_,_,.str x h,_=> .str x h
 |_,_,_,_,_,.tup e r,i=> .tup e (Reps.imm r (by simpa only [D.imm] using i))
 |_,_,_,_,_,.lst _ _ _,i=>by simp [D.imm] at i
 |_,_,_,_,_,.lsk _ _,i=>by simp [D.imm] at i
 |_,_,_,_,_,.dic _ _ _ _ _,i=>by simp [D.imm] at i
 |_,_,_,_,_,.dit _ _ _ _ _,i=>by simp [D.imm] at i
 |_,_,_,_,_,.obj _ _ _ _ _,i=>by simp [D.imm] at i
 |_,_,_,_,_,.exn e h1 h2,_=> .exn e h1 h2
 |_,_,_,_,_,.fdc _ _ _ _,i=>by simp [D.imm] at i
 |_,_,_,_,_,.hdc _ _ _ _,i=>by simp [D.imm] at i
theorem Reps.imm: ∀ {A A':Addr->Prop} {H:Hp} {vs:List V} {ds:List D},Reps K A H vs ds->D.imms ds=true->Reps K A' H vs ds
 |_,_,_,_,_,.nil,_=> .nil
 |_,_,_,_,_,.cons h t,i=>by
  simp only [D.imms,aap] at i;exact .cons (Rep.imm h i.1) (Reps.imm t i.2)
end
theorem Reps.length: ∀ {A:Addr->Prop} {H:Hp} {vs:List V} {ds:List D},Reps K A H vs ds->vs.length=ds.length
 |_,_,_,_,.nil=>rfl
 |_,_,_,_,.cons _ t=>by simp [Reps.length t]
theorem Reps.get: ∀ {A:Addr->Prop} {H:Hp} {vs:List V} {ds:List D} {i:Nat} {d:D},Reps K A H vs ds->ds[i]?=some d-> ∃v,vs[i]?=some v/\Rep K A H v d
 |_,_,_,_,_,_,.nil,e=>by simp at e
 |_,_,_,_,0,_,.cons r _,e=>by simp at e;subst e;exact ⟨_,rfl,r⟩
 |_,_,_,_,i+1,d,.cons _ t,e=>by
  obtain ⟨v,h1,h2⟩:=Reps.get (i:=i) (d:=d) t (by simpa using e);exact ⟨v,by simpa using h1,h2⟩
theorem Reps.get': ∀ {A:Addr->Prop} {H:Hp} {vs:List V} {ds:List D} {i:Nat} {v:V},Reps K A H vs ds->vs[i]?=some v-> ∃d,ds[i]?=some d/\Rep K A H v d
 |_,_,_,_,_,_,.nil,e=>by simp at e
 |_,_,_,_,0,_,.cons r _,e=>by simp at e;subst e;exact ⟨_,rfl,r⟩
 |_,_,_,_,i+1,d,.cons _ t,e=>by
  obtain ⟨v,h1,h2⟩:=Reps.get' (i:=i) t (by simpa using e);exact ⟨v,by simpa using h1,h2⟩
theorem Reps.append: ∀ {A:Addr->Prop} {H:Hp} {vs ws:List V} {ds es:List D},Reps K A H vs ds->Reps K A H ws es->Reps K A H (vs++ws) (ds++es)
 |_,_,_,_,_,_,.nil,s=>s
 |_,_,_,_,_,_,.cons r t,s=> .cons r (Reps.append t s)
theorem Reps.take: ∀ {A:Addr->Prop} {H:Hp} {vs:List V} {ds:List D} (n:Nat),Reps K A H vs ds->Reps K A H (vs.take n) (ds.take n)
 |_,_,_,_,0,_=> .nil
 |_,_,_,_,_+1,.nil=> .nil
 |_,_,_,_,n+1,.cons r t=> .cons r (Reps.take n t)
theorem Reps.drop: ∀ {A:Addr->Prop} {H:Hp} {vs:List V} {ds:List D} (n:Nat),Reps K A H vs ds->Reps K A H (vs.drop n) (ds.drop n)
 |_,_,_,_,0,r=>r
 |_,_,_,_,_+1,.nil=> .nil
 |_,_,_,_,n+1,.cons _ t=>Reps.drop n t
theorem Reps.dropLast {vs:List V} {ds:List D} (r:Reps K A H vs ds):Reps K A H vs.dropLast ds.dropLast:=by
 rw [List.dropLast_eq_take,List.dropLast_eq_take,r.length];exact r.take _
theorem Reps.isEmpty {xs:List V} {ds:List D} (r:Reps K A H xs ds):ds.isEmpty=xs.isEmpty:=by cases r<;>rfl
theorem Rep.lstE {v:V} {ds:List D} (r:Rep K A H v (.lst ds)): ∃a xs,v= .ref a/\H a=some (.lst xs)/\A a/\Reps K (fun c=>A c/\c≠a) H xs ds:=by
 cases r with
 |lst e h r=>exact ⟨_,_,rfl,e,h,r⟩
theorem Rep.scrE {v:V} {ds:List D} (r:Rep K A H v (.scr ds)): ∃a xs,v= .ref a/\LsK K H a xs/\Reps K A H xs ds:=by
 cases r with
 |lsk e r=>exact ⟨_,_,rfl,e,r⟩
theorem Rep.tupE {v:V} {ds:List D} (r:Rep K A H v (.tup ds)): ∃a xs,v= .ref a/\H a=some (.tup xs)/\Reps K A H xs ds:=by
 cases r with
 |tup e r=>exact ⟨_,_,rfl,e,r⟩
theorem Rep.intE {v:V} {i:Int} (r:Rep K A H v (.int i)):v= .int i:=by cases r;rfl
theorem Rep.blE {v:V} {b:Bool} (r:Rep K A H v (.bl b)):v= .bl b:=by cases r;rfl
theorem Rep.strE {v:V} {x:Str} (r:Rep K A H v (.str x)):v= .str x/\x.length<=aae:=by cases r;exact ⟨rfl,by assumption⟩
theorem Rep.nonE {v:V} (r:Rep K A H v .non):v= .non:=by cases r;rfl
theorem Reps.low {a:Addr} {vs:List V} {ds:List D} (r:Reps K (fun c=>A c/\c≠a) H vs ds):Reps K A H vs ds:=r.weak fun _ z=>z.1
mutual
theorem Rep.inDom: ∀ {A:Addr->Prop} {H:Hp} {v:V} {d:D},Rep K A H v d->Rep K (fun c=>A c/\H c≠none) H v d
 |_,_,_,_,.non=> .non
 |_,_,_,_,.bl b=> .bl b
 |_,_,_,_,.int i=> .int i
 |_,_,_,_,.str x h=> .str x h
 |_,_,_,_,.tup e r=> .tup e (Reps.inDom r)
 |_,_,_,_,.lst e a r=> .lst e ⟨a,by rw [e];simp⟩ ((Reps.inDom r).weak fun _ z=>⟨⟨z.1.1,z.2⟩,z.1.2⟩)
 |_,_,_,_,.lsk e r=> .lsk e (Reps.inDom r)
 |_,_,_,_,.dic e a k1 k2 r=> .dic e ⟨a,by rw [e];simp⟩ k1 k2 ((Reps.inDom r).weak fun _ z=>⟨⟨z.1.1,z.2⟩,z.1.2⟩)
 |_,_,_,_,.dit e a k1 k2 r=> .dit e ⟨a,by rw [e];simp⟩ k1 k2 ((Reps.inDom r).weak fun _ z=>⟨⟨z.1.1,z.2⟩,z.1.2⟩)
 |_,_,_,_,.obj e a k1 k2 r=> .obj e ⟨a,by rw [e];simp⟩ k1 k2 ((Reps.inDom r).weak fun _ z=>⟨⟨z.1.1,z.2⟩,z.1.2⟩)
 |_,_,_,_,.exn e h1 h2=> .exn e h1 h2
 |_,_,_,_,.fdc e k1 k2 r=> .fdc (e.elim (fun z=> .inl ⟨z.1,z.2,by rw [z.1];simp⟩) .inr) k1 k2 ((Reps.inDom r).weak fun _ z=>⟨⟨z.1.1,z.2⟩,z.1.2⟩)
 |_,_,_,_,.hdc e k1 k2 r=> .hdc e k1 k2 ((Reps.inDom r).weak fun _ z=>⟨⟨z.1.1,z.2⟩,z.1.2⟩)
theorem Reps.inDom: ∀ {A:Addr->Prop} {H:Hp} {vs:List V} {ds:List D},Reps K A H vs ds->Reps K (fun c=>A c/\H c≠none) H vs ds
 |_,_,_,_,.nil=> .nil
 |_,_,_,_,.cons h t=> .cons (Rep.inDom h) (Reps.inDom t)
end
theorem Same.upd {H:Hp} {p:Addr} {o:HO} (h:H p=none):Same H (L2.upd H p o):=fun b u e=>by rw [jT (qL e h)];exact e
theorem Reps.laid {p:Addr} {o:HO} {vs:List V} {ds:List D} (r:Reps K A H vs ds) (hp:H p=none):Reps K (fun c=>A c/\c≠p) (L2.upd H p o) vs ds:=
 (r.inDom.grow (Same.upd hp)).weak fun c z=>⟨z.1,fun e=>z.2 (by rw [e];exact hp)⟩
end
inductive Slot where
 |un
 |own (d:D)
 |shr (d:D)
abbrev Sl:=List Slot
def zC (env:Sl) (σ:St) (a:Addr):Prop:= ∃(i:Nat) (d:D),env[i]?=some (.own d)/\σ[i]?=some (some (.ref a))
abbrev NotO (env:Sl) (σ:St):Addr->Prop:=fun a=> ¬zC env σ a
abbrev Sf (G:Addr->Prop) (env:Sl) (σ:St):Addr->Prop:=fun a=> ¬zC env σ a/\G a
inductive Top (K:aaa) (A:Addr->Prop) (H:Hp) (a:Addr):D->Prop where
 |lst {xs:List V} {ds:List D}:H a=some (.lst xs)->Reps K A H xs ds->Top K A H a (.lst ds)
 |dic {kvs:List (Key×V)} {vs:List V} {ks:List Key} {ds:List D}:H a=some (.dK kvs)->kvs.map (·.1)=ks->kvs.map (·.2)=vs->Reps K A H vs ds->Top K A H a (.dic ks ds)
 |dit {kvs:List ((List Key)×V)} {vs:List V} {ks:List (List Key)} {ds:List D}:H a=some (.dT kvs)->kvs.map (·.1)=ks->kvs.map (·.2)=vs->Reps K A H vs ds->Top K A H a (.dit ks ds)
 |obj {C dx:Addr} {fs:List (Str×V)} {vs:List V} {c:Str} {ns:List Str} {ds:List D}:H a=some (.ins C dx fs)->(aax K aav c=some (some (.ref C))/\fs.map (·.1)=ns)->fs.map (·.2)=vs->Reps K A H vs ds->Top K A H a (.obj c ns ds)
theorem Top.rep {K:aaa} {A A':Addr->Prop} {H:Hp} {a:Addr} {d:D} (t:Top K A H a d) (w: ∀b,A b->A' b/\b≠a) (ha:A' a):Rep K A' H (.ref a) d:=by
 cases t with
 |lst e r=>exact .lst e ha (r.weak w)
 |dic e k1 k2 r=>exact .dic e ha k1 k2 (r.weak w)
 |dit e k1 k2 r=>exact .dit e ha k1 k2 (r.weak w)
 |obj e k1 k2 r=>exact .obj e ha k1 k2 (r.weak w)
theorem Top.stay {K:aaa} {A A':Addr->Prop} {H H':Hp} {a:Addr} {d:D} (t:Top K A H a d) (st:Stay A H H') (w: ∀b,A b->A' b) (ha: ∀o,H a=some o->H' a=some o):Top K A' H' a d:=by
 cases t with
 |lst e r=>exact .lst (ha _ e) (r.stay st w)
 |dic e k1 k2 r=>exact .dic (ha _ e) k1 k2 (r.stay st w)
 |dit e k1 k2 r=>exact .dit (ha _ e) k1 k2 (r.stay st w)
 |obj e k1 k2 r=>exact .obj (ha _ e) k1 k2 (r.stay st w)
theorem Top.there {K:aaa} {A:Addr->Prop} {H:Hp} {a:Addr} {d:D} (t:Top K A H a d): ∃o,H a=some o/\Mut (some o):=by
 cases t with
 |lst e r=>exact ⟨_,e,trivial⟩
 |dic e _ _ r=>exact ⟨_,e,trivial⟩
 |dit e _ _ r=>exact ⟨_,e,trivial⟩
 |obj e _ _ r=>exact ⟨_,e,trivial⟩
structure EnvOk (K:aaa) (G:Addr->Prop) (H0:Hp) (env:Sl) (σ:St) (H:Hp):Prop where
 len:σ.length=env.length
 base:Same H0 H
 g0: ∀a,H0 a=none->G a
 shr: ∀(i:Nat) (d:D),env[i]?=some (.shr d)-> ∃v,σ[i]?=some (some v)/\Rep K (Sf G env σ) H v d
 own: ∀(i:Nat) (d:D),env[i]?=some (.own d)-> ∃a,σ[i]?=some (some (.ref a))/\H0 a=none/\Top K (Sf G env σ) H a d
 dis: ∀(i j:Nat) (d e:D) (a:Addr),env[i]?=some (.own d)->env[j]?=some (.own e)->σ[i]?=some (some (.ref a))->σ[j]?=some (some (.ref a))->i=j
section
variable {K:aaa} {G:Addr->Prop} {H0 H H':Hp} {env:Sl} {σ:St}
theorem EnvOk.grow (e:EnvOk K G H0 env σ H) (h:Same H H'):EnvOk K G H0 env σ H' where
 len:=e.len
 base:=e.base.trans h
 g0:=e.g0
 shr:=fun i d z=>let ⟨v,h1,h2⟩:=e.shr i d z;⟨v,h1,h2.grow h⟩
 own:=fun i d z=>let ⟨a,h1,h2,h3⟩:=e.own i d z;⟨a,h1,h2,h3.stay (Same.stay h) (fun _ z=>z) (fun o q=>h _ o q)⟩
 dis:=e.dis
theorem EnvOk.there (e:EnvOk K G H0 env σ H) {a:Addr} (o:zC env σ a): ∃u,H a=some u:=by
 obtain ⟨i,d,h1,h2⟩:=o;obtain ⟨b,h3,_,h4⟩:=e.own i d h1;rw [h2] at h3;cases h3;obtain ⟨u,h5,_⟩:=h4.there;exact ⟨u,h5⟩
theorem EnvOk.mutO (k:EnvOk K G H0 env σ H) {a:Addr} (o:zC env σ a) {u:HO} (e:H a=some u):Mut (some u):=by
 obtain ⟨i,d,h1,h2⟩:=o;obtain ⟨b,h3,_,h4⟩:=k.own i d h1;rw [h2] at h3;cases h3;obtain ⟨u',h5,m⟩:=h4.there;rw [e] at h5;cases h5;exact m
theorem EnvOk.new (k:EnvOk K G H0 env σ H): ∀a,H a=none->Sf G env σ a:=fun a z=>⟨fun o=>(by
 obtain ⟨u,q⟩:=k.there o
 rw [z] at q;cases q),k.g0 a (Same.free k.base z)⟩
end
inductive Lv where
 |b|s|t
abbrev Any:Addr->Prop:=fun _=>True
def Lv.A (l:Lv) (G:Addr->Prop) (env:Sl) (σ:St):Addr->Prop:=
 match l with
 | .b=>Any
 | .s=>Sf G env σ
 | .t=>Sf G env σ
def NewTop (H:Hp) (v:V):Prop:= ∀a,v= .ref a-> ∀o,H a=some o-> ¬Mut (some o)
def Lv.T (l:Lv) (H:Hp) (v:V):Prop:=
 match l with
 | .t=>NewTop H v
 |_=>True
theorem NewTop.grow {H H':Hp} {v:V} (h:Same H H') (n:NewTop H' v):NewTop H v:=fun a e o q=>n a e o (h a o q)
theorem Lv.Tgrow {l:Lv} {H H':Hp} {v:V} (h:Same H H') (n:l.T H' v):l.T H v:=by
 cases l with
 |t=>exact NewTop.grow h n
 |b=>trivial
 |s=>trivial
def tE (K:aaa) (l:Lv) (f:Sl->Res D):TE:=fun σ H Q=> ∃G H0 env d,EnvOk K G H0 env σ H/\f env= .ok d/\ ∀v H',Same H H'->Rep K (l.A G env σ) H' v d->l.T H v->Q v H'
def tT (K:aaa) (f:Sl->Res Bool):TT:=fun σ H Q=> ∃G H0 env b,EnvOk K G H0 env σ H/\f env= .ok b/\ ∀H',Same H H'->Q b H'
def tA (K:aaa) (l:Lv) (f:Sl->Res (List D)):TA:=fun σ H Q=> ∃G H0 env ds,EnvOk K G H0 env σ H/\f env= .ok ds/\ ∀vs H',Same H H'->Reps K (l.A G env σ) H' vs ds->Q vs H'
@[irreducible] def DE (X:Cx) (l:Lv) (e:Expr) (f:Sl->Res D):Prop:=PE X e (tE X.K l f)
@[irreducible] def DT (X:Cx) (e:Expr) (f:Sl->Res Bool):Prop:=PT X e (tT X.K f)
@[irreducible] def DA (X:Cx) (l:Lv) (es:List Expr) (f:Sl->Res (List D)):Prop:=PA X es (tA X.K l f)
inductive Out where
 |nx (env:Sl)|rt (fr:Bool) (d:D)|bk (env:Sl)|ct (env:Sl)
structure Frm (env:Sl) (σ:St) (H:Hp) (env':Sl) (σ':St) (H':Hp):Prop where
 keep: ∀b o,H b=some o-> ¬zC env σ b->H' b=some o
 more: ∀b,zC env' σ' b->zC env σ b\/H b=none
 size: ∀b,H' b=none->H b=none
def Post (K:aaa) (G:Addr->Prop) (H0:Hp) (env:Sl) (σ:St) (H:Hp) (E:Ends) (o:Out):Prop:=
 match o with
 | .nx env'=> ∀σ' H',EnvOk K G H0 env' σ' H'->Frm env σ H env' σ' H'->E.nx σ' H'
 | .bk env'=> ∀σ' H',EnvOk K G H0 env' σ' H'->Frm env σ H env' σ' H'->E.bk σ' H'
 | .ct env'=> ∀σ' H',EnvOk K G H0 env' σ' H'->Frm env σ H env' σ' H'->E.ct σ' H'
 | .rt fr d=> ∀v H',Same H0 H'->Rep K G H' v d->(fr=true->NewTop H0 v)->E.rt v H'
def tS (K:aaa) (g:Sl->Res Out):TS:=fun E σ H=> ∃G H0 env o,EnvOk K G H0 env σ H/\g env= .ok o/\Post K G H0 env σ H E o
@[irreducible] def DS (X:Cx) (st:Stmt) (g:Sl->Res Out):Prop:=PS X st (tS X.K g)
@[irreducible] def DSs (X:Cx) (st:List Stmt) (g:Sl->Res Out):Prop:=PSs X st (tS X.K g)
section
variable {X:Cx} {e:Expr} {es:List Expr} {st:Stmt} {sts:List Stmt}
theorem PE.imp {t t':TE} (h:PE X e t) (w: ∀σ H Q,t' σ H Q->t σ H Q):PE X e t':=fun pins s σ H Q I q=>h pins s σ H Q I (w σ H Q q)
theorem PT.imp {t t':TT} (h:PT X e t) (w: ∀σ H Q,t' σ H Q->t σ H Q):PT X e t':=fun pins s σ H Q I q=>h pins s σ H Q I (w σ H Q q)
theorem PA.imp {t t':TA} (h:PA X es t) (w: ∀σ H Q,t' σ H Q->t σ H Q):PA X es t':=fun pos pins s σ H Q I q=>h pos pins s σ H Q I (w σ H Q q)
theorem PS.imp {t t':TS} (h:PS X st t) (w: ∀E σ H,t' E σ H->t E σ H):PS X st t':=fun pins s σ H E I q=>h pins s σ H E I (w E σ H q)
theorem PSs.imp {t t':TS} (h:PSs X sts t) (w: ∀E σ H,t' E σ H->t E σ H):PSs X sts t':=fun pins s σ H E I q=>h pins s σ H E I (w E σ H q)
end
theorem Frm.refl {env:Sl} {σ:St} {H H':Hp} (h:Same H H'):Frm env σ H env σ H':=⟨fun b o e _=>h b o e,fun b o=> .inl o,fun b e=>Same.free h e⟩
theorem Frm.trans {env env1 env2:Sl} {σ σ1 σ2:St} {H H1 H2:Hp} (a:Frm env σ H env1 σ1 H1) (b:Frm env1 σ1 H1 env2 σ2 H2):Frm env σ H env2 σ2 H2 where
 keep:=fun c o e n=>b.keep c o (a.keep c o e n) fun z=>by
  rcases a.more c z with z|z
  · exact n z
  · rw [e] at z;cases z
 more:=fun c o=>by
  rcases b.more c o with z|z
  · exact a.more c z
  · exact .inr (a.size c z)
 size:=fun c e=>a.size c (b.size c e)
theorem Frm.grow {env env1:Sl} {σ σ1:St} {H Hm H1:Hp} (h:Same H Hm) (b:Frm env σ Hm env1 σ1 H1):Frm env σ H env1 σ1 H1:=(Frm.refl h).trans b
section
variable {X:Cx} {e:Expr} {f:Sl->Res D}
theorem Lv.weak_b {l:Lv} {G:Addr->Prop} {env:Sl} {σ:St}: ∀a,l.A G env σ a->Any a:=fun _ _=>trivial
theorem DE.b {l:Lv} (h:DE X l e f):DE X .b e f:=by
 with_unfolding_all exact (PE.imp h fun σ H Q ⟨G,H0,env,d,k,ef,q⟩=>⟨G,H0,env,d,k,ef,fun v H' s r _=>q v H' s (r.weak Lv.weak_b) trivial⟩)
theorem DE.s (h:DE X .t e f):DE X .s e f:=by
 with_unfolding_all exact (PE.imp h fun σ H Q ⟨G,H0,env,d,k,ef,q⟩=>⟨G,H0,env,d,k,ef,fun v H' s r _=>q v H' s r trivial⟩)
theorem v0 {K:aaa} {A:Addr->Prop} {H H':Hp} {v:V} {d:D} (s:Same H H') (r:Rep K A H' v d) (i:d.imm=true):NewTop H v:=fun a e o q m=>by
 subst e
 cases r with
 |tup e _=>rw [s _ _ q] at e;cases e;exact m
 |lst _ _ _=>simp [D.imm] at i
 |lsk _ _=>simp [D.imm] at i
 |dic _ _ _ _ _=>simp [D.imm] at i
 |dit _ _ _ _ _=>simp [D.imm] at i
 |obj _ _ _ _ _=>simp [D.imm] at i
 |fdc _ _ _ _=>simp [D.imm] at i
 |hdc _ _ _ _=>simp [D.imm] at i
 |exn e _ _=>rw [s _ _ q] at e;cases e;exact m
def chk (f:Sl->Res D):Sl->Res D:=fun env=>f env>>=fun d=>must (d.imm=true) (.ok d)
theorem DE.chk {l l':Lv} (h:DE X l e f):DE X l' e (chk f):=by
 with_unfolding_all exact (PE.imp h fun σ H Q ⟨G,H0,env,d,k,ef,q⟩=>by
  obtain ⟨d',e1,e2⟩:=jc ef;obtain ⟨i,e3⟩:=jp e2;cases e3;refine ⟨G,H0,env,d,k,e1,fun v H' s r _=>q v H' s (r.imm i) ?_⟩
  cases l' with
  |t=>exact v0 s r i
  |b=>trivial
  |s=>trivial)
end
end M
namespace M
open PySem PySem.Spec L2
open PyProof.Rows hiding St
def WP:Expr->Bool
 | .Starred _ _=>false
 |_=>true
theorem jl {e:Expr} {es:List Expr} {env:Env} (h:WP e=true):aal (e::es) env=(false,eval e env)::aal es env:=by
 cases e<;>first|rfl|cases h
theorem KN {es:List Expr} {env:Env} (h:es.all WP=true):(aal es env).all (fun x=>!x.1)=true:=by
 induction es with
 |nil=>rfl
 |cons e r ih=>
  rw [adl,aap] at h;rw [jl h.1,adl,ih h.2];rfl
theorem VX {pos:Pos} {l:List (Bool×Sem Value)} (h:l.all (fun x=>!x.1)=true):(abd pos l).all (fun x=>!x.1)=true:=by
 induction l with
 |nil=>rfl
 |cons p r ih=>
  obtain ⟨s,t⟩:=p;rw [adl,aap] at h;show ((!s)&&(abd pos r).all (fun x=>!x.1))=true;rw [ih h.2,Bool.and_true];exact h.1
theorem jK {pos:Pos} {es:List Expr} {env:Env} (h:es.all WP=true):(abd pos (aal es env)).any (·.1)=false:=by
 have:=VX (pos:=pos) (KN (env:=env) h);rw [abb] at this;rw [List.any_eq_false];intro x hx z;have q:=this x hx;rw [z] at q;cases q
theorem x0 {cpos:Pos} {e:Expr} {es:List Expr} {env:Env} (h:(e::es).all WP=true) (hl:decide ((e::es).length<30)=true):
  ((abd cpos (aal (e::es) env)).all (fun x=>!x.1)&&(acs cpos (abz [] env)).all (fun x=>x.1.isSome)
   &&decide ((e::es).length+([]:List acn).length+(if ([]:List acn).isEmpty then 0 else 1)<30))=true:=by
 have hk:(acs cpos (abz [] env)).all (fun x=>x.1.isSome)=true:=rfl;rw [VX (KN h),hk];simpa using hl
section
variable {X:Cx} {e a b c o:Expr} {es:List Expr} {pos:Pos} {l l1 l2 l':Lv} {f f1 f2 f3:Sl->Res D}
def cI (i:Int):Sl->Res D:=fun _=> .ok (.int i)
def cB (b:Bool):Sl->Res D:=fun _=> .ok (.bl b)
def cN:Sl->Res D:=fun _=> .ok .non
def cS (x:Str):Sl->Res D:=fun _=> .ok (.str x)
def rdS (i:Nat):Sl->Res D:=fun env=>match env[i]? with
 |some (.shr d)=> .ok d
 |_=> .stuck
def rdB (i:Nat):Sl->Res D:=fun env=>match env[i]? with
 |some (.shr d)=> .ok d
 |some (.own d)=> .ok d
 |_=> .stuck
theorem kO {i:Nat} {env:Sl} {d:D} (h:rdS i env= .ok d):env[i]?=some (.shr d):=by
 unfold rdS at h
 split at h
 · cases h;assumption
 · cases h
theorem kP {i:Nat} {env:Sl} {d:D} (h:rdB i env= .ok d):env[i]?=some (.shr d)\/env[i]?=some (.own d):=by
 unfold rdB at h
 split at h
 · cases h;left;assumption
 · cases h;right;assumption
 · cases h
theorem Z8 {K:aaa} {G:Addr->Prop} {H0 H:Hp} {env:Sl} {σ:L2.St} {i:Nat} {d:D} {a:Addr} (k:EnvOk K G H0 env σ H) (h1:env[i]?=some (.own d)) (h2:σ[i]?=some (some (.ref a))): ∀c,Sf G env σ c->c≠a:=fun c z e=>z.1 (by rw [e];exact ⟨i,d,h1,h2⟩)
theorem dv (i:Nat) {x:Str} (hN:X.N[i]?=some x:=by rfl) (hv:Vis X.env.scope x:=by first|exact abw rfl|exact aa4 (abw rfl)|exact aa4 (aa4 rfl)) (hd:(x==("__debug__" :Str))=false:=by decide)
   (hcd:(x==("__classdict__" :Str))=false:=by decide):DE X .s (.Name x pos) (rdS i):=by
 with_unfolding_all exact (
  PE.imp (wu hN hv hd hcd) fun σ H Q ⟨G,H0,env,d,k,ef,q⟩=>by
   obtain ⟨v,h1,h2⟩:=k.shr i d (kO ef)
   exact ⟨v,h1,q v H (Same.refl H) h2 trivial⟩)
theorem db (i:Nat) {x:Str} (hN:X.N[i]?=some x:=by rfl) (hv:Vis X.env.scope x:=by first|exact abw rfl|exact aa4 (abw rfl)|exact aa4 (aa4 rfl)) (hd:(x==("__debug__" :Str))=false:=by decide)
   (hcd:(x==("__classdict__" :Str))=false:=by decide):DE X .b (.Name x pos) (rdB i):=by
 with_unfolding_all exact (
  PE.imp (wu hN hv hd hcd) fun σ H Q ⟨G,H0,env,d,k,ef,q⟩=>by
   rcases kP ef with z|z
   · obtain ⟨v,h1,h2⟩:=k.shr i d z;exact ⟨v,h1,q v H (Same.refl H) (h2.weak fun _ _=>trivial) trivial⟩
   · obtain ⟨v,h1,_,h2⟩:=k.own i d z
     exact ⟨_,h1,q _ H (Same.refl H) (h2.rep (fun c y=>⟨trivial,Z8 k z h1 c y⟩) trivial) trivial⟩)
def Sc (K:aaa) (v:V) (d:D):Prop:=(∀A H,Rep K A H v d)/\ ∀a,v≠ .ref a
theorem Sc.T {K:aaa} {v:V} {d:D} {H:Hp} (h:Sc K v d):l.T H v:=by
 cases l with
 |t=>exact fun a e=>absurd e (h.2 a)
 |b=>trivial
 |s=>trivial
theorem jhv {K:aaa} (i:Int):Sc K (.int i) (.int i):=⟨fun _ _=> .int i,fun a e=>by cases e⟩
theorem jho {K:aaa} (i:Bool):Sc K (.bl i) (.bl i):=⟨fun _ _=> .bl i,fun a e=>by cases e⟩
theorem jhF {K:aaa}:Sc K .non .non:=⟨fun _ _=> .non,fun a e=>by cases e⟩
theorem jhL {K:aaa} (x:Str) (h:x.length<=aae):Sc K (.str x) (.str x):=⟨fun _ _=> .str x h,fun a e=>by cases e⟩
theorem de_c {v:V} {d:D} (h:PE X e (tC v)) (r:Sc X.K v d):DE X l e (fun _=> .ok d):=by
 with_unfolding_all exact (
  PE.imp h fun σ H Q ⟨G,H0,env,d',k,ef,q⟩=>by
   cases ef
   exact q v H (Same.refl H) (r.1 _ H) r.T)
theorem jco {i:Int} {j}:DE X l (.Constant (.int i) j pos) (cI i):=de_c jeD (jhv i)
theorem xJ {i:Bool} {j}:DE X l (.Constant (.bool i) j pos) (cB i):=de_c jgz (jho i)
theorem X7 {j}:DE X l (.Constant .none j pos) cN:=de_c jb4 jhF
theorem jcn {x:Str} {j} (h:x.length<=aae:=by decide):DE X l (.Constant (.str x) j pos) (cS x):=de_c jez (jhL x h)
theorem uM {x:Str} {i:Int} {t:Tok} (hg:Gl X x) (hm:X.mg x=some (.int i t)) (hd:(x==("__debug__" :Str))=false:=by decide):DE X l (.Name x pos) (cI i):=
 de_c (ve (v:= .int i) hg hm ⟨t,rfl⟩ hd) (jhv i)
theorem jdJ {x y:Str} {t:Tok} (hg:Gl X x) (hm:X.mg x=some (.str y t)) (hl:y.length<=aae:=by decide) (hd:(x==("__debug__" :Str))=false:=by decide):DE X l (.Name x pos) (cS y):=
 de_c (ve (v:= .str y) hg hm ⟨t,rfl⟩ hd) (jhL y hl)
def OpS (K:aaa) (r:R2) (g:D->D->Res D):Prop:= ∀(x y:V) (H:Hp) (a b d:D) (Q:VK),Rep K Any H x a->Rep K Any H y b->g a b= .ok d->(∀v,Sc K v d->Q v H)->r x y H Q
def OpD (K:aaa) (r:R2) (g:D->D->Res D):Prop:= ∀(A:Addr->Prop) (x y:V) (H:Hp) (a b d:D) (Q:VK),Rep K A H x a->Rep K A H y b->g a b= .ok d->(∀v H',Same H H'->Rep K (fun c=>H c=none\/A c) H' v d->NewTop H v->Q v H')->r x y H Q
def two (f1 f2:Sl->Res D) (g:D->D->Res D):Sl->Res D:=fun env=>f1 env>>=fun x=>f2 env>>=fun y=>g x y
theorem jcx {K:aaa} {r:R2} {g:D->D->Res D} (hr:OpS K r g) {σ:L2.St} {H:Hp} {Q:VK} (h:tE K l (two f1 f2 g) σ H Q):tOp r (tE K l1 f1) (tE K l2 f2) σ H Q:=by
 obtain ⟨G,H0,env,d,k,ef,q⟩:=h;obtain ⟨a,e1,ef⟩:=jc ef;obtain ⟨b,e2,e3⟩:=jc ef;refine ⟨G,H0,env,a,k,e1,fun x H1 s1 r1 _=>⟨G,H0,env,b,k.grow s1,e2,fun y H2 s2 r2 _=>?_⟩⟩;exact hr x y H2 a b d Q ((r1.grow s2).weak Lv.weak_b) (r2.weak Lv.weak_b) e3 fun v sc=>q v H2 (s1.trans s2) (sc.1 _ _) sc.T
theorem jgi {K:aaa} {r:R2} {g:D->D->Res D} (hr:OpD K r g) {σ:L2.St} {H:Hp} {Q:VK} (h:tE K .t (two f1 f2 g) σ H Q):tOp r (tE K .s f1) (tE K .s f2) σ H Q:=by
 obtain ⟨G,H0,env,d,k,ef,q⟩:=h;obtain ⟨a,e1,ef⟩:=jc ef;obtain ⟨b,e2,e3⟩:=jc ef;refine ⟨G,H0,env,a,k,e1,fun x H1 s1 r1 _=>⟨G,H0,env,b,k.grow s1,e2,fun y H2 s2 r2 _=>?_⟩⟩;have sm:=s1.trans s2;exact hr _ x y H2 a b d Q (r1.grow s2) r2 e3 fun v H3 s3 r3 nt=>q v H3 (sm.trans s3) (r3.weak fun c z=>z.elim (fun z=>k.new c (Same.free sm z)) fun z=>z) (nt.grow sm)
theorem Kp {op:ad2} {r:R2} {g:D->D->Res D} (ho:OpR X (abG op) r) (hr:OpS X.K r g) (ha:DE X l1 a f1) (hb:DE X l2 b f2):DE X l (.BinOp a op b pos) (two f1 f2 g):=by
 with_unfolding_all exact (
  PE.imp (jcP ho ha hb) fun _ _ _ h=>jcx hr h)
theorem jI {op:ad2} {r:R2} {g:D->D->Res D} (ho:OpR X (abG op) r) (hr:OpD X.K r g) (ha:DE X .s a f1) (hb:DE X .s b f2):DE X .t (.BinOp a op b pos) (two f1 f2 g):=by
 with_unfolding_all exact (
  PE.imp (jcP ho ha hb) fun _ _ _ h=>jgi hr h)
theorem VL {op:CmpOp} {r:R2} {g:D->D->Res D} (ho:OpR X (abv op) r) (hr:OpS X.K r g) (ha:DE X l1 a f1) (hb:DE X l2 b f2) (hm:ab7 op b=false:=by first|exact K9 _| (with_unfolding_all rfl)):DE X l (.Compare a [op] [b] pos) (two f1 f2 g):=by
 with_unfolding_all exact (
  PE.imp (vf ho ha hb hm) fun _ _ _ h=>jcx hr h)
def asB (f:Sl->Res D):Sl->Res Bool:=fun env=>f env>>=fun d=>match d with
 | .bl b=> .ok b
 |_=> .stuck
theorem jdW {env:Sl} {b:Bool} (h:asB f env= .ok b):f env= .ok (.bl b):=by
 obtain ⟨d,e1,e2⟩:=jc h
 cases d with
 |bl c=>cases e2;exact e1
 |_=>cases e2
theorem Yu {K:aaa} {t:TE} (ht: ∀σ H Q,tE K l f σ H Q->t σ H Q) {σ:L2.St} {H:Hp} {Q:Bool->Hp->Prop} (h:tT K (asB f) σ H Q):jcw t σ H Q:=by
 obtain ⟨G,H0,env,b,k,ef,q⟩:=h;refine ht σ H _ ⟨G,H0,env,.bl b,k,jdW ef,fun v H' s r _=>⟨b,r.blE,q H' s⟩⟩
theorem qh {op:CmpOp} {r:R2} {g:D->D->Res D} (ho:OpR X (abv op) r) (hr:OpS X.K r g) (ha:DE X l1 a f1) (hb:DE X l2 b f2) (hm:ab7 op b=false:=by first|exact K9 _| (with_unfolding_all rfl)):DT X (.Compare a [op] [b] pos) (asB (two f1 f2 g)):=by
 with_unfolding_all exact (
  PT.imp (kS ho ha hb hm) fun _ _ _ h=>Yu (l:= .b) (fun _ _ _ h=>jcx hr h) h)
def Ks (f1 f2 f3:Sl->Res D) (g g':D->D->Res D):Sl->Res D:=fun env=>f1 env>>=fun x=>f2 env>>=fun y=>g x y>>=fun z=>match z with
 | .bl true=>f3 env>>=fun w=>g' y w
 | .bl false=> .ok (.bl false)
 |_=> .stuck
theorem KJ {K:aaa} {l3:Lv} {r r':R2} {g g':D->D->Res D} (hr:OpS K r g) (hr':OpS K r' g') {σ:L2.St} {H:Hp} {Q:VK} (h:tE K l (Ks f1 f2 f3 g g') σ H Q):kj r r' (tE K l1 f1) (tE K l2 f2) (tE K l3 f3) σ H Q:=by
 obtain ⟨G,H0,env,d,k,ef,q⟩:=h;obtain ⟨a,e1,ef⟩:=jc ef;obtain ⟨b,e2,ef⟩:=jc ef;obtain ⟨z,e3,e4⟩:=jc ef;refine ⟨G,H0,env,a,k,e1,fun x H1 s1 r1 _=>⟨G,H0,env,b,k.grow s1,e2,fun y H2 s2 r2 _=>?_⟩⟩;refine hr x y H2 a b z _ ((r1.grow s2).weak Lv.weak_b) (r2.weak Lv.weak_b) e3 fun v sc=>?_
 cases z with
 |bl t=>
  refine ⟨t,(sc.1 Any H2).blE,?_⟩
  cases t with
  |false=>
   cases e4;rw [if_neg aaz];exact q _ H2 (s1.trans s2) (.bl false) (jho (K:=K) false).T
  |true=>
   obtain ⟨w,e5,e6⟩:=jc e4;rw [if_pos rfl];refine ⟨G,H0,env,w,(k.grow s1).grow s2,e5,fun y' H4 s4 r4 _=>?_⟩;refine hr' y y' H4 b w d Q ((r2.grow s4).weak Lv.weak_b) (r4.weak Lv.weak_b) e6 fun v sc=>q v H4 (s1.trans (s2.trans s4)) (sc.1 _ _) sc.T
 |_=>cases e4
theorem VM {op op':CmpOp} {l3:Lv} {r r':R2} {g g':D->D->Res D} (ho:OpR X (abv op) r) (hr:OpS X.K r g) (ho':OpR X (abv op') r') (hr':OpS X.K r' g') (ha:DE X l1 a f1) (hb:DE X l2 b f2) (hc:DE X l3 c f3)
   (hm:lastMarks [op,op'] [b,c]=false:=by with_unfolding_all rfl):DE X l (.Compare a [op,op'] [b,c] pos) (Ks f1 f2 f3 g g'):=by
 with_unfolding_all exact (
  PE.imp (jaB ho ho' ha hb hc hm) fun _ _ _ h=>KJ hr hr' h)
theorem jbs {op op':CmpOp} {l3:Lv} {r r':R2} {g g':D->D->Res D} (ho:OpR X (abv op) r) (hr:OpS X.K r g) (ho':OpR X (abv op') r') (hr':OpS X.K r' g') (ha:DE X l1 a f1) (hb:DE X l2 b f2) (hc:DE X l3 c f3)
   (hm:lastMarks [op,op'] [b,c]=false:=by with_unfolding_all rfl):DT X (.Compare a [op,op'] [b,c] pos) (asB (Ks f1 f2 f3 g g')):=by
 with_unfolding_all exact (
  PT.imp (jau ho ho' ha hb hc hm) fun _ _ _ h=>Yu (l:= .b) (fun _ _ _ h=>KJ hr hr' h) h)
theorem qk (h:DE X l e f) (he: ∀whole,isTrue e X.env whole=(do let v←whole;adN e.pos;adq [v] (truthy v)):=by intro _;rfl):DT X e (asB f):=by
 with_unfolding_all exact (
  PT.imp (kR h he) fun _ _ _ h=>Yu (l:=l) (fun _ _ _ h=>h) h)
def tru:D->Res Bool
 | .non=> .ok false
 | .bl b=> .ok b
 | .int i=> .ok (i !=0)
 | .str x=> .ok ((x.length:Int) !=0)
 | .tup ds=> .ok (!ds.isEmpty)
 | .lst ds=> .ok (!ds.isEmpty)
 | .scr ds=> .ok (!ds.isEmpty)
 | .dic _ _=> .stuck
 | .dit _ _=> .stuck
 | .exn _=> .stuck
 | .fdc _ _=> .stuck
 | .hdc _ _=> .stuck
 | .obj _ _ _=> .stuck
theorem jge {K:aaa} {A:Addr->Prop} {H:Hp} {v:V} {d:D} {b:Bool} (r:Rep K A H v d) (h:tru d= .ok b):TruV K v H b:=by
 cases r with
 |non=>cases h;rfl
 |bl c=>cases h;rfl
 |int i=>cases h;rfl
 |str x hx=>cases h;exact ⟨hx,rfl⟩
 |tup e r=>cases h;exact .inr (.inl ⟨_,.of e,by rw [r.isEmpty]⟩)
 |lst e _ r=>cases h;exact .inl ⟨_,.of e,by rw [r.isEmpty]⟩
 |lsk e r=>cases h;exact .inl ⟨_,e.sql,by rw [r.isEmpty]⟩
 |dic _ _ _ _ _=>cases h
 |dit _ _ _ _ _=>cases h
 |exn _ _ _=>cases h
 |fdc _ _ _ _=>cases h
 |hdc _ _ _ _=>cases h
 |obj _ _ _ _ _=>cases h
def truF (f:Sl->Res D):Sl->Res Bool:=fun env=>f env>>=tru
theorem jfN (h:DE X l e f) (he: ∀whole,isTrue e X.env whole=(do let v←whole;adN e.pos;adq [v] (truthy v)):=by intro _;rfl):DT X e (truF f):=by
 with_unfolding_all exact (
  PT.imp (jat h he) fun σ H Q ⟨G,H0,env,b,k,ef,q⟩=>by
   obtain ⟨d,e1,e2⟩:=jc ef
   exact ⟨G,H0,env,d,k,e1,fun v H' s r _=>⟨b,jge r e2,q H' s⟩⟩)
section
variable {g g1 g2:Sl->Res Bool} {rest:List Expr}
def notB (g:Sl->Res Bool):Sl->Res Bool:=fun env=>g env>>=fun b=> .ok (!b)
theorem zD (h:DT X a g):DT X (.UnaryOp .Not a pos) (notB g):=by
 with_unfolding_all exact (
  PT.imp (jbZ h) fun σ H Q ⟨G,H0,env,b,k,ef,q⟩=>by
   obtain ⟨d,e1,e2⟩:=jc ef;cases e2
   exact ⟨G,H0,env,d,k,e1,q⟩)
@[irreducible] def DW (X:Cx) (e:Expr) (f:Sl->Res Bool):Prop:=PW X e (tT X.K f)
theorem PW.imp {t t':TT} (h:PW X e t) (w: ∀σ H Q,t' σ H Q->t σ H Q):PW X e t':=fun wh pins s σ H Q I q=>h wh pins s σ H Q I (w σ H Q q)
theorem DW.dt (h:DW X e g):DT X e g:=by
 with_unfolding_all exact (PW.pt h)
theorem Xa (h:DT X a g):DW X (.BoolOp .And [a] pos) g:=by
 with_unfolding_all exact (jcK h)
theorem yd (h:DT X a g):DW X (.BoolOp .Or [a] pos) g:=by
 with_unfolding_all exact (jep h)
def andB (g1 g2:Sl->Res Bool):Sl->Res Bool:=fun env=>g1 env>>=fun b=>if b=true then g2 env else .ok false
def orB (g1 g2:Sl->Res Bool):Sl->Res Bool:=fun env=>g1 env>>=fun b=>if b=true then .ok true else g2 env
theorem VD (h1:DT X a g1) (h2:DW X (.BoolOp .And (b::rest) pos) g2):DW X (.BoolOp .And (a::b::rest) pos) (andB g1 g2):=by
 with_unfolding_all exact (
  PW.imp (jeq h1 h2) fun σ H Q ⟨G,H0,env,r,k,ef,q⟩=>by
   obtain ⟨d,e1,e2⟩:=jc ef;refine ⟨G,H0,env,d,k,e1,fun H' s=>?_⟩
   cases d with
   |true=>rw [if_pos rfl] at e2 ⊢;exact ⟨G,H0,env,r,k.grow s,e2,fun H2 s2=>q H2 (s.trans s2)⟩
   |false=>rw [if_neg aaz] at e2 ⊢;cases e2;exact q H' s)
theorem y6 (h1:DT X a g1) (h2:DW X (.BoolOp .Or (b::rest) pos) g2):DW X (.BoolOp .Or (a::b::rest) pos) (orB g1 g2):=by
 with_unfolding_all exact (
  PW.imp (jgw h1 h2) fun σ H Q ⟨G,H0,env,r,k,ef,q⟩=>by
   obtain ⟨d,e1,e2⟩:=jc ef;refine ⟨G,H0,env,d,k,e1,fun H' s=>?_⟩
   cases d with
   |false=>rw [if_neg aaz] at e2 ⊢;exact ⟨G,H0,env,r,k.grow s,e2,fun H2 s2=>q H2 (s.trans s2)⟩
   |true=>rw [if_pos rfl] at e2 ⊢;cases e2;exact q H' s)
def toB (f:Sl->Res D) (g:Sl->Res D) (w:Bool):Sl->Res D:=fun env=>f env>>=fun d=>match d with
 | .bl b=>if b=w then g env else .ok (.bl b)
 |_=> .stuck
theorem Wo {op} (h:DE X l a f):DE X l (.BoolOp op [a] pos) f:=by
 with_unfolding_all exact (jeA h)
theorem Wp (h1:DE X l1 a f1) (h2:DE X l (.BoolOp .And (b::rest) pos) f2):DE X l (.BoolOp .And (a::b::rest) pos) (toB f1 f2 true):=by
 with_unfolding_all exact (
  PE.imp (jeF h1 h2) fun σ H Q ⟨G,H0,env,r,k,ef,q⟩=>by
   obtain ⟨d,e1,e2⟩:=jc ef;refine ⟨G,H0,env,d,k,e1,fun v H' s rr _=>?_⟩
   cases d with
   |bl t=>
    refine ⟨t,rr.blE,?_⟩
    cases t with
    |true=>exact ⟨G,H0,env,r,k.grow s,e2,fun v H2 s2 r2 nt=>q v H2 (s.trans s2) r2 (Lv.Tgrow s nt)⟩
    |false=>cases e2;exact q _ H' s (.bl false) (jho (K:=X.K) false).T
   |_=>cases e2)
def notD:D->Res D
 | .bl b=> .ok (.bl (!b))
 |_=> .stuck
def notF (f:Sl->Res D):Sl->Res D:=fun env=>f env>>=notD
theorem uK (h:DE X l1 a f):DE X l (.UnaryOp .Not a pos) (notF f):=by
 with_unfolding_all exact (
  PE.imp (jeB h) fun σ H Q ⟨G,H0,env,r,k,ef,q⟩=>by
   obtain ⟨d,e1,e2⟩:=jc ef;refine ⟨G,H0,env,d,k,e1,fun v H' s rr _=>?_⟩
   cases d with
   |bl t=>cases e2;exact ⟨t,rr.blE,q _ H' s (.bl _) (jho (K:=X.K) _).T⟩
   |_=>cases e2)
def ifD (g:Sl->Res Bool) (f1 f2:Sl->Res D):Sl->Res D:=fun env=>g env>>=fun b=>if b=true then f1 env else f2 env
theorem jcp (hc:DT X c g) (h1:DE X l a f1) (h2:DE X l b f2):DE X l (.IfExp c a b pos) (ifD g f1 f2):=by
 with_unfolding_all exact (
  PE.imp (K4 hc h1 h2) fun σ H Q ⟨G,H0,env,r,k,ef,q⟩=>by
   obtain ⟨d,e1,e2⟩:=jc ef;refine ⟨G,H0,env,d,k,e1,fun H' s=>?_⟩
   cases d with
   |true=>rw [if_pos rfl] at e2 ⊢;exact ⟨G,H0,env,r,k.grow s,e2,fun v H2 s2 r2 nt=>q v H2 (s.trans s2) r2 (Lv.Tgrow s nt)⟩
   |false=>rw [if_neg aaz] at e2 ⊢;exact ⟨G,H0,env,r,k.grow s,e2,fun v H2 s2 r2 nt=>q v H2 (s.trans s2) r2 (Lv.Tgrow s nt)⟩)
end
def jb (f:Sl->Res D) (g:Sl->Res (List D)):Sl->Res (List D):=fun env=>f env>>=fun d=>g env>>=fun ds=> .ok (d::ds)
def nil1:Sl->Res (List D):=fun _=> .ok []
theorem jd:DA X l [] nil1:=by
 with_unfolding_all exact (PA.imp wv fun σ H Q ⟨G,H0,env,d,k,ef,q⟩=>by cases ef;exact q [] H (Same.refl H) .nil)
theorem ja {g:Sl->Res (List D)} (ha:DE X l e f) (hr:DA X l es g) (hs:aal (e::es) X.env=(false,eval e X.env)::aal es X.env:=by exact jl rfl):DA X l (e::es) (jb f g):=by
 with_unfolding_all exact (
  PA.imp (j8 ha hr hs) fun σ H Q ⟨G,H0,env,ds,k,ef,q⟩=>by
   obtain ⟨d,e1,e2⟩:=jc ef;obtain ⟨ds',e3,e4⟩:=jc e2;cases e4
   exact ⟨G,H0,env,d,k,e1,fun v H1 s1 r1 _=>⟨G,H0,env,ds',k.grow s1,e3,fun vs H2 s2 r2=>q _ H2 (s1.trans s2) (.cons (r1.grow s2) r2)⟩⟩)
theorem qE {H H1:Hp} {p:Addr} (s:Same H H1) (hp:H1 p=none):NewTop H (.ref p):=fun a e o q=>by
 cases e;rw [s _ _ q] at hp;cases hp
def tupF (g:Sl->Res (List D)):Sl->Res D:=fun env=>g env>>=fun ds=>must (ds.length<=aae) (.ok (.tup ds))
def lstF (g:Sl->Res (List D)):Sl->Res D:=fun env=>g env>>=fun ds=>must (ds.length<=aae) (.ok (.lst ds))
theorem q9 {x1} {g:Sl->Res (List D)} (h:DA X .s es g):DE X .t (.Tuple es x1 pos) (tupF g):=by
 with_unfolding_all exact (
  PE.imp (jey h) fun σ H Q ⟨G,H0,env,d,k,ef,q⟩=>by
   obtain ⟨ds,e1,e2⟩:=jc ef;obtain ⟨hz,e3⟩:=jp e2;cases e3;refine ⟨G,H0,env,ds,k,e1,fun vs H1 s1 r1=>⟨by rw [r1.length];exact hz,fun p hp=>?_⟩⟩
   exact q _ _ (s1.trans (Same.upd hp)) (.tup jB (r1.grow (Same.upd hp))) (qE s1 hp))
theorem qG {g:Sl->Res (List D)} (h:DA X .s es g):DE X .t (.List es pos) (lstF g):=by
 with_unfolding_all exact (
  PE.imp (jeC h) fun σ H Q ⟨G,H0,env,d,k,ef,q⟩=>by
   obtain ⟨ds,e1,e2⟩:=jc ef;obtain ⟨hz,e3⟩:=jp e2;cases e3;refine ⟨G,H0,env,ds,k,e1,fun vs H1 s1 r1=>⟨by rw [r1.length];exact hz,fun p hp=>?_⟩⟩
   exact q _ _ (s1.trans (Same.upd hp)) (.lst jB (k.new p (Same.free s1 hp)) (r1.laid hp)) (qE s1 hp))
def jbS (K:aaa) (r:List V->Hp->VK->Prop) (g:List D->Res D):Prop:= ∀(xs:List V) (H:Hp) (ds:List D) (d:D) (Q:VK),Reps K Any H xs ds->g ds= .ok d->(∀v,Sc K v d->Q v H)->r xs H Q
def Yo (K:aaa) (r:List V->Hp->VK->Prop) (g:List D->Res D):Prop:= ∀(A:Addr->Prop) (xs:List V) (H:Hp) (ds:List D) (d:D) (Q:VK),Reps K A H xs ds->g ds= .ok d->(∀v H',Same H H'->Rep K (fun c=>H c=none\/A c) H' v d->NewTop H v->Q v H')->r xs H Q
def app (f:Sl->Res (List D)) (g:List D->Res D):Sl->Res D:=fun env=>f env>>=g
theorem jgp {K:aaa} {r:List V->Hp->VK->Prop} {g:List D->Res D} {fa:Sl->Res (List D)} (hr:jbS K r g) {σ:L2.St} {H:Hp} {Q:VK} (h:tE K l' (app fa g) σ H Q):tCB r (tA K l fa) σ H Q:=by
 obtain ⟨G,H0,env,d,k,ef,q⟩:=h;obtain ⟨ds,e1,e2⟩:=jc ef;refine ⟨G,H0,env,ds,k,e1,fun vs H1 s1 r1=>?_⟩;exact hr vs H1 ds d Q (r1.weak Lv.weak_b) e2 fun v sc=>q v H1 s1 (sc.1 _ _) sc.T
theorem jef {K:aaa} {r:List V->Hp->VK->Prop} {g:List D->Res D} {fa:Sl->Res (List D)} (hr:Yo K r g) {σ:L2.St} {H:Hp} {Q:VK} (h:tE K .t (app fa g) σ H Q):tCB r (tA K .s fa) σ H Q:=by
 obtain ⟨G,H0,env,d,k,ef,q⟩:=h;obtain ⟨ds,e1,e2⟩:=jc ef;refine ⟨G,H0,env,ds,k,e1,fun vs H1 s1 r1=>?_⟩;exact hr _ vs H1 ds d Q r1 e2 fun v H2 s2 r2 nt=>q v H2 (s1.trans s2) (r2.weak fun c z=>z.elim (fun z=>k.new c (Same.free s1 z)) fun z=>z) (nt.grow s1)
section
variable {x:Str} {id T:String} {p:Pos} {r:List V->Hp->VK->Prop} {g:List D->Res D} {fa:Sl->Res (List D)}
theorem j5 (hc:CallR X (.builtin id) r) (hr:jbS X.K r g) (hg:Gl X x) (hm:X.mg x=none) (hv:abl x=some (.builtin id))
   (ha:DA X l (e::es) fa) (hn:x≠ "__name__" :=by decide) (hdb:(x==("__debug__" :Str))=false:=by decide)
   (he:aal (e::es) X.env=(false,eval e X.env)::aal es X.env:=by exact jl rfl) (hpl:(abd pos (aal es X.env)).any (·.1)=false:=by exact jK rfl):DE X l' (.Call (.Name x p) (e::es) [] pos) (app fa g):=by
 with_unfolding_all exact (
  PE.imp (QB hc hg hm hv ha hn hdb he hpl) fun _ _ _ h=>jgp hr h)
theorem zo (hc:CallR X (.type T) r) (hr:Yo X.K r g) (hg:Gl X x) (hm:X.mg x=none) (hv:abl x=some (.type T))
   (ha:DA X .s (e::es) fa) (hn:x≠ "__name__" :=by decide) (hdb:(x==("__debug__" :Str))=false:=by decide)
   (he:aal (e::es) X.env=(false,eval e X.env)::aal es X.env:=by exact jl rfl) (hpl:(abd pos (aal es X.env)).any (·.1)=false:=by exact jK rfl):DE X .t (.Call (.Name x p) (e::es) [] pos) (app fa g):=by
 with_unfolding_all exact (
  PE.imp (Q5 hc hg hm hv ha hn hdb he hpl) fun _ _ _ h=>jef hr h)
end
def spF (K:aaa) (fr:Bool) (n:Nat) (F:List D->Res D):Sp:=fun vs H Q _=> ∃B ds d,vs.length=n/\Reps K B H vs ds/\F ds= .ok d/\ ∀v H',Same H H'->Rep K (fun a=>H a=none\/B a) H' v d->(fr=true->NewTop H v)->Q v H'
def jg (n:Nat) (F:List D->Res D) (g:Sl->Res (List D)):Sl->Res D:=fun env=>g env>>=fun ds=>must (ds.length=n) (F ds)
section
variable {CX:CXT} {k:Nat} {x:Str} {fa:Addr} {fd:abC} {ps:List Str} {p:Pos} {n:Nat} {F:List D->Res D} {E:XK} {g:Sl->Res (List D)} {fr:Bool}
theorem jdK (G:FnOk X.prog X.w X.K X.mg X.base CX k fa fd ps (spF X.K fr n F)) (hr:Room k X.A) (hg:Gl X x) (hm:X.mg x=some (.ref fa)) (hk:aaR X.K (.ref fa)=true) (hb:Binds X.K fd ps []) (hx:yJ CX X E)
   (ha:DA X .s (e::es) g) (hdb:(x==("__debug__" :Str))=false:=by decide) (he:aal (e::es) X.env=(false,eval e X.env)::aal es X.env:=by exact jl rfl) (hpl:(abd pos (aal es X.env)).any (·.1)=false:=by exact jK rfl):
   DE X .s (.Call (.Name x p) (e::es) [] pos) (jg n F g):=by
 with_unfolding_all exact (
  PE.imp (WF G hr hg hm hk hb .nil hx ha hdb he hpl) fun σ H Q ⟨GG,H0,env,d,k,ef,q⟩=>by
   obtain ⟨ds,e1,e2⟩:=jc ef;obtain ⟨hn,e3⟩:=jp e2;refine ⟨GG,H0,env,ds,k,e1,fun vs H1 s1 r1=>?_⟩;show spF X.K fr n F (vs++[]) H1 Q E;rw [abj]
   exact ⟨_,ds,d,by rw [r1.length];exact hn,r1,e3,fun v H2 s2 r2 _=>q v H2 (s1.trans s2) (r2.weak fun c z=>z.elim (fun z=>k.new c (Same.free s1 z)) fun z=>z) trivial⟩)
theorem jbB (G:FnOk X.prog X.w X.K X.mg X.base CX k fa fd ps (spF X.K true n F)) (hr:Room k X.A) (hg:Gl X x) (hm:X.mg x=some (.ref fa)) (hk:aaR X.K (.ref fa)=true) (hb:Binds X.K fd ps []) (hx:yJ CX X E)
   (ha:DA X .s (e::es) g) (hdb:(x==("__debug__" :Str))=false:=by decide) (he:aal (e::es) X.env=(false,eval e X.env)::aal es X.env:=by exact jl rfl) (hpl:(abd pos (aal es X.env)).any (·.1)=false:=by exact jK rfl):
   DE X .t (.Call (.Name x p) (e::es) [] pos) (jg n F g):=by
 with_unfolding_all exact (
  PE.imp (WF G hr hg hm hk hb .nil hx ha hdb he hpl) fun σ H Q ⟨GG,H0,env,d,k,ef,q⟩=>by
   obtain ⟨ds,e1,e2⟩:=jc ef;obtain ⟨hn,e3⟩:=jp e2;refine ⟨GG,H0,env,ds,k,e1,fun vs H1 s1 r1=>?_⟩;show spF X.K true n F (vs++[]) H1 Q E;rw [abj]
   exact ⟨_,ds,d,by rw [r1.length];exact hn,r1,e3,fun v H2 s2 r2 nt=>q v H2 (s1.trans s2) (r2.weak fun c z=>z.elim (fun z=>k.new c (Same.free s1 z)) fun z=>z) ((nt rfl).grow s1)⟩)
theorem jbC (G:FnOk X.prog X.w X.K X.mg X.base CX k fa fd ps (spF X.K fr n F)) (hr:Room k X.A) (hg:Gl X x) (hm:X.mg x=some (.ref fa)) (hk:aaR X.K (.ref fa)=true) (hb:Binds X.K fd ps []) (hx:yJ CX X E)
   (ha:DA X .b (e::es) g) (hdb:(x==("__debug__" :Str))=false:=by decide) (he:aal (e::es) X.env=(false,eval e X.env)::aal es X.env:=by exact jl rfl) (hpl:(abd pos (aal es X.env)).any (·.1)=false:=by exact jK rfl):
   DE X .b (.Call (.Name x p) (e::es) [] pos) (jg n F g):=by
 with_unfolding_all exact (
  PE.imp (WF G hr hg hm hk hb .nil hx ha hdb he hpl) fun σ H Q ⟨GG,H0,env,d,k,ef,q⟩=>by
   obtain ⟨ds,e1,e2⟩:=jc ef;obtain ⟨hn,e3⟩:=jp e2;refine ⟨GG,H0,env,ds,k,e1,fun vs H1 s1 r1=>?_⟩;show spF X.K fr n F (vs++[]) H1 Q E;rw [abj]
   exact ⟨_,ds,d,by rw [r1.length];exact hn,r1,e3,fun v H2 s2 r2 _=>q v H2 (s1.trans s2) (r2.weak fun c _=>trivial) trivial⟩)
end
def ixD:D->D->Res D
 | .lst ds,.int i=>match atI ds i with
  |some d=> .ok d
  |none=> .stuck
 | .scr ds,.int i=>match atI ds i with
  |some d=> .ok d
  |none=> .stuck
 | .tup ds,.int i=>match atI ds i with
  |some d=> .ok d
  |none=> .stuck
 | .str z,.int i=>match atI z.cps.toList i with
  |some c=> .ok (.str ⟨#[c]⟩)
  |none=> .stuck
 |_,_=> .stuck
theorem Kx {K:aaa} {A:Addr->Prop} {H:Hp} {xs:List V} {ds:List D} {i:Int} {d:D} (r:Reps K A H xs ds) (h:atI ds i=some d): ∃v,atI xs i=some v/\Rep K A H v d:=by
 unfold atI at h ⊢;rw [r.length]
 cases e:ixN ds.length i with
 |none=>rw [e] at h;cases h
 |some j=>rw [e] at h;exact r.get h
theorem jc0 (c:Nat):(⟨#[c]⟩:Str).length<=aae:=by show 1<=aae;decide
theorem jgI {A:Addr->Prop} {x y:V} {H:Hp} {a b d:D} {Q:VK} (ra:Rep X.K A H x a) (rb:Rep X.K Any H y b) (h:ixD a b= .ok d) (q: ∀v,Rep X.K A H v d->Q v H):rIx X.K x y H Q:=by
 cases b with
 |int i=>
  cases rb.intE
  cases a with
  |lst ds=>
   unfold ixD at h;dsimp only at h
   cases e:atI ds i with
   |none=>rw [e] at h;cases h
   |some d'=>
    rw [e] at h;cases h;obtain ⟨p,xs,rfl,hq,_,r⟩:=ra.lstE;obtain ⟨v,e2,r2⟩:=Kx r.low e;exact .inl ⟨p,xs,i,v,rfl,rfl,.of hq,e2,q v r2⟩
  |scr ds=>
   unfold ixD at h;dsimp only at h
   cases e:atI ds i with
   |none=>rw [e] at h;cases h
   |some d'=>
    rw [e] at h;cases h;obtain ⟨p,xs,rfl,hq,r⟩:=ra.scrE;obtain ⟨v,e2,r2⟩:=Kx r e;exact .inl ⟨p,xs,i,v,rfl,rfl,hq.sql,e2,q v r2⟩
  |tup ds=>
   unfold ixD at h;dsimp only at h
   cases e:atI ds i with
   |none=>rw [e] at h;cases h
   |some d'=>
    rw [e] at h;cases h;obtain ⟨p,xs,rfl,hq,r⟩:=ra.tupE;obtain ⟨v,e2,r2⟩:=Kx r e;exact .inr (.inl ⟨p,xs,i,v,rfl,rfl,.of hq,e2,q v r2⟩)
  |str z=>
   unfold ixD at h;dsimp only at h
   cases e:atI z.cps.toList i with
   |none=>rw [e] at h;cases h
   |some c=>
    rw [e] at h;cases h;obtain ⟨rfl,hz⟩:=ra.strE;exact .inr (.inr ⟨z,i,c,rfl,rfl,hz,e,q _ (.str _ (by show 1<=aae;decide))⟩)
  |_=>cases h
 |_=>cases a<;>cases h
theorem qd (ha:DE X .s a f1) (hb:DE X l2 b f2) (hs:u6 b:=by intro _ _;rfl):DE X .s (.Subscript a b pos) (two f1 f2 ixD):=by
 with_unfolding_all exact (
  PE.imp (jgy jft ha hb hs) fun σ H Q ⟨G,H0,env,d,k,ef,q⟩=>by
   obtain ⟨a',e1,ef⟩:=jc ef;obtain ⟨b',e2,e3⟩:=jc ef;refine ⟨G,H0,env,a',k,e1,fun x H1 s1 r1 _=>⟨G,H0,env,b',k.grow s1,e2,fun y H2 s2 r2 _=>?_⟩⟩
   exact jgI (r1.grow s2) (r2.weak Lv.weak_b) e3 fun v r3=>q v H2 (s1.trans s2) r3 trivial)
@[irreducible] def DO (X:Cx) (e:Option Expr) (f:Sl->Res (Option Int)):Prop:=PO X e (fun σ H Q=> ∃G H0 env i,EnvOk X.K G H0 env σ H/\f env= .ok i/\ ∀H',Same H H'->Q i H')
theorem PO.imp {e:Option Expr} {t t':TO} (h:PO X e t) (w: ∀σ H Q,t' σ H Q->t σ H Q):PO X e t':=fun pins s σ H Q I q=>h pins s σ H Q I (w σ H Q q)
def zA:Sl->Res (Option Int):=fun _=> .ok none
theorem zM:DO X none zA:=by
 with_unfolding_all exact (PO.imp jcO fun σ H Q ⟨G,H0,env,i,k,ef,q⟩=>by cases ef;exact q H (Same.refl H))
def asI:D->Res (Option Int)
 | .int i=> .ok (some i)
 |_=> .stuck
def qQ (f:Sl->Res D):Sl->Res (Option Int):=fun env=>f env>>=asI
theorem qY (h:DE X l e f):DO X (some e) (qQ f):=by
 with_unfolding_all exact (PO.imp (jcN h) fun σ H Q ⟨G,H0,env,i,k,ef,q⟩=>by
  obtain ⟨d,e1,e2⟩:=jc ef
  cases d with
  |int j=>cases e2;exact ⟨G,H0,env,.int j,k,e1,fun v H' s r _=>⟨j,r.intE,q H' s⟩⟩
  |_=>cases e2)
def cutD (ds:List D) (lo hi:Option Int):List D:=(ds.drop (HT.sIx ds.length 0 lo)).take (HT.sIx ds.length ds.length hi-HT.sIx ds.length 0 lo)
theorem Kr {K:aaa} {A:Addr->Prop} {H:Hp} {xs:List V} {ds:List D} {lo hi:Option Int} (r:Reps K A H xs ds):Reps K A H (cutV xs lo hi) (cutD ds lo hi):=by
 unfold cutV cutD;rw [r.length];exact (r.drop _).take _
def j7 (f:Sl->Res D) (fl fh:Sl->Res (Option Int)) (g:D->Option Int->Option Int->Res D):Sl->Res D:=fun env=>f env>>=fun a=>fl env>>=fun lo=>fh env>>=fun hi=>g a lo hi
end
end M
namespace M
open PySem PySem.Spec L2
open PyProof.Rows hiding St
section
variable {K:aaa} {G:Addr->Prop} {H0 H H1 H':Hp} {env env':Sl} {σ σ':L2.St} {i:Nat} {d:D} {v:V}
theorem jq {α:Type} {l:List α} {i j:Nat} {x:α} (h:i≠j):(l.set i x)[j]?=l[j]?:=adi h
theorem jA {α:Type} {l:List α} {i:Nat} {x y:α} (h:(l.set i x)[i]?=some y):y=x/\i<l.length:=by
 have hl:i<l.length:=by
  have:=(aay.mp h).1;simpa using this
 rw [abu hl] at h;exact ⟨(aaF h).symm,hl⟩
theorem Q9 {s:Slot} {a:Addr} (h:zC (env.set i s) (σ.set i (some v)) a):zC env σ a\/(∃d,s= .own d/\v= .ref a):=by
 obtain ⟨j,d,h1,h2⟩:=h
 by_cases e:i=j
 · subst e;obtain ⟨q1,_⟩:=jA h1;obtain ⟨q2,_⟩:=jA h2;exact .inr ⟨d,q1.symm,(aaF q2).symm⟩
 · rw [jq e] at h1 h2;exact .inl ⟨j,d,h1,h2⟩
theorem EnvOk.setS (k:EnvOk K G H0 env σ H) (r:Rep K (Sf G env σ) H v d):EnvOk K G H0 (env.set i (.shr d)) (σ.set i (some v)) H:=by
 have w: ∀a,Sf G env σ a->Sf G (env.set i (.shr d)) (σ.set i (some v)) a:=fun a n=>⟨fun o=>(by
   rcases Q9 o with z| ⟨d',z,_⟩
   · exact n.1 z
   · cases z),n.2⟩
 refine ⟨by simp [k.len],k.base,k.g0,fun j e h=>?_,fun j e h=>?_,fun j j' e e' a h1 h2 h3 h4=>?_⟩
 · by_cases z:i=j
   · subst z;obtain ⟨q,hl⟩:=jA h;cases q;exact ⟨v,abu (by rw [k.len];exact hl),r.weak w⟩
   · rw [jq z] at h ⊢;obtain ⟨v',h1,h2⟩:=k.shr j e h;exact ⟨v',h1,h2.weak w⟩
 · by_cases z:i=j
   · subst z;obtain ⟨q,hl⟩:=jA h;cases q
   · rw [jq z] at h ⊢;obtain ⟨v',h1,h0,h2⟩:=k.own j e h;exact ⟨v',h1,h0,h2.stay (fun _ _ e _=>e) w fun _ e=>e⟩
 · have n1:i≠j:=fun z=>by subst z;obtain ⟨q,_⟩:=jA h1;cases q
   have n2:i≠j':=fun z=>by subst z;obtain ⟨q,_⟩:=jA h2;cases q
   rw [jq n1] at h1 h3;rw [jq n2] at h2 h4;exact k.dis j j' e e' a h1 h2 h3 h4
def WG:D->Bool
 | .lst _=>true
 | .dic _ _=>true
 | .dit _ _=>true
 | .obj _ _ _=>true
 |_=>false
theorem YR {A:Addr->Prop} (r:Rep K A H v d) (h:WG d=true): ∃a,v= .ref a/\A a/\(∃o,H a=some o/\Mut (some o))/\Top K (fun c=>A c/\c≠a) H a d:=by
 cases r with
 |lst e a r=>exact ⟨_,rfl,a,⟨_,e,trivial⟩,.lst e r⟩
 |dic e a k1 k2 r=>exact ⟨_,rfl,a,⟨_,e,trivial⟩,.dic e k1 k2 r⟩
 |dit e a k1 k2 r=>exact ⟨_,rfl,a,⟨_,e,trivial⟩,.dit e k1 k2 r⟩
 |obj e a k1 k2 r=>exact ⟨_,rfl,a,⟨_,e,trivial⟩,.obj e k1 k2 r⟩
 |_=>cases h
theorem jfe {a:Addr} (s:Same H H1) (nt:NewTop H (.ref a)) (h: ∃o,H1 a=some o/\Mut (some o)):H a=none:=by
 cases e:H a with
 |none=>rfl
 |some o=>
  obtain ⟨o',h1,h2⟩:=h;rw [s a o e] at h1;cases h1;exact (nt a rfl o e h2).elim
theorem EnvOk.setN (k:EnvOk K G H0 env σ H) (s:Same H H1) (r:Rep K (Sf G env σ) H1 v d) (nt:NewTop H v) (hd:WG d=true):EnvOk K G H0 (env.set i (.own d)) (σ.set i (some v)) H1/\ ∃a,v= .ref a/\H a=none:=by
 obtain ⟨a,rfl,ga,mt,top⟩:=YR r hd;have fa:=jfe s nt mt;refine ⟨?_,a,rfl,fa⟩
 have w: ∀c,(Sf G env σ c/\c≠a)->Sf G (env.set i (.own d)) (σ.set i (some (V.ref a))) c:=fun c n=>⟨fun o=>(by
   rcases Q9 o with z| ⟨d',z,z2⟩
   · exact n.1.1 z
   · cases z2;exact n.2 rfl),n.1.2⟩
 have w2: ∀c,(Sf G env σ c/\H c≠none)->Sf G (env.set i (.own d)) (σ.set i (some (V.ref a))) c:=fun c n=>w c ⟨n.1,fun e=>n.2 (by rw [e];exact fa)⟩
 have k1:=k.grow s;refine ⟨by simp [k.len],k1.base,k.g0,fun j e h=>?_,fun j e h=>?_,fun j j' e e' b h1 h2 h3 h4=>?_⟩
 · by_cases z:i=j
   · subst z;obtain ⟨q,hl⟩:=jA h;cases q
   · rw [jq z] at h ⊢;obtain ⟨v',h1,h2⟩:=k.shr j e h;exact ⟨v',h1,(h2.inDom.grow s).weak w2⟩
 · by_cases z:i=j
   · subst z;obtain ⟨q,hl⟩:=jA h;cases q;exact ⟨a,abu (by rw [k.len];exact hl),Same.free k.base fa,top.stay (fun _ _ e _=>e) w fun _ e=>e⟩
   · rw [jq z] at h ⊢;obtain ⟨v',h1,h0,h2⟩:=k.own j e h;refine ⟨v',h1,h0,?_⟩
     cases h2 with
     |lst e2 r2=>exact .lst (s _ _ e2) ((r2.inDom.grow s).weak w2)
     |dic e2 k2 k3 r2=>exact .dic (s _ _ e2) k2 k3 ((r2.inDom.grow s).weak w2)
     |dit e2 k2 k3 r2=>exact .dit (s _ _ e2) k2 k3 ((r2.inDom.grow s).weak w2)
     |obj e2 k2 k3 r2=>exact .obj (s _ _ e2) k2 k3 ((r2.inDom.grow s).weak w2)
 · have new: ∀(j:Nat) (e:D),env[j]?=some (.own e)->σ[j]?=some (some (.ref a))->False:=fun j e q1 q2=>by
     obtain ⟨u,q⟩:=k.there ⟨j,e,q1,q2⟩;rw [fa] at q;cases q
   by_cases z1:i=j
   · subst z1
     by_cases z2:i=j'
     · exact z2
     · rw [jq z2] at h2 h4;obtain ⟨q,_⟩:=jA h3;cases q;exact (new j' e' h2 h4).elim
   · rw [jq z1] at h1 h3
     by_cases z2:i=j'
     · subst z2;obtain ⟨q,_⟩:=jA h4;cases q;exact (new j e h1 h3).elim
     · rw [jq z2] at h2 h4;exact k.dis j j' e e' b h1 h2 h3 h4
theorem Frm.set {s:Slot} (sm:Same H H1) (fresh: ∀a d,s= .own d->v= .ref a->H a=none):Frm env σ H (env.set i s) (σ.set i (some v)) H1:=
 ⟨fun b o e _=>sm b o e,fun b o=>by
  rcases Q9 o with z| ⟨d',z,z2⟩
  · exact .inl z
  · exact .inr (fresh b d' z z2),fun b e=>Same.free sm e⟩
theorem Frm.sf (f:Frm env σ H env' σ' H'): ∀a,(Sf G env σ a/\H a≠none)->Sf G env' σ' a:=fun a z=>⟨fun o=>(f.more a o).elim z.1.1 z.2,z.1.2⟩
theorem Frm.st (k:EnvOk K G H0 env σ H) (f:Frm env σ H env' σ' H'):Stay (fun a=>Sf G env σ a/\H a≠none) H H':=fun a o e m=>f.keep a o e fun ow=>(m (k.mutO ow e)).1.1 ow
theorem Frm.rep (k:EnvOk K G H0 env σ H) (f:Frm env σ H env' σ' H') (r:Rep K (Sf G env σ) H v d):Rep K (Sf G env' σ') H' v d:=r.inDom.stay (f.st k) f.sf
theorem Frm.reps (k:EnvOk K G H0 env σ H) (f:Frm env σ H env' σ' H') {vs:List V} {ds:List D} (r:Reps K (Sf G env σ) H vs ds):Reps K (Sf G env' σ') H' vs ds:=r.inDom.stay (f.st k) f.sf
end
def Jj (d:D):Slot:=if WG d=true then .own d else .shr d
theorem EnvOk.setNew {K:aaa} {G:Addr->Prop} {H0 H H1:Hp} {env:Sl} {σ:L2.St} {i:Nat} {d:D} {v:V} (k:EnvOk K G H0 env σ H) (s:Same H H1) (r:Rep K (Sf G env σ) H1 v d) (nt:NewTop H v):
   EnvOk K G H0 (env.set i (Jj d)) (σ.set i (some v)) H1/\Frm env σ H (env.set i (Jj d)) (σ.set i (some v)) H1:=by
 unfold Jj
 by_cases h:WG d=true
 · rw [if_pos h];obtain ⟨z,a',e',fa⟩:=k.setN (i:=i) s r nt h;refine ⟨z,.set s fun a d' _ e=>?_⟩;rw [e] at e';cases e';exact fa
 · rw [if_neg h];exact ⟨(k.grow s).setS r,.set s fun _ _ z _=>by cases z⟩
def nxO:Sl->Res Out:=fun env=> .ok (.nx env)
def jfR (f:Sl->Res D):Sl->Res Out:=fun env=>f env>>=fun _=> .ok (.nx env)
def augI (h:Int->Int->Int) (a b:D):Res D:=match a,b with
 | .int m,.int n=> .ok (.int (h m n))
 |_,_=> .stuck
def seqO (g1 g2:Sl->Res Out):Sl->Res Out:=fun env=>g1 env>>=fun o=>match o with
 | .nx env'=>g2 env'
 | .rt fr d=> .ok (.rt fr d)
 | .bk env'=> .ok (.bk env')
 | .ct env'=> .ok (.ct env')
section
variable {X:Cx} {e c tg:Expr} {st:Stmt} {rest body orelse:List Stmt} {pos:Pos} {l:Lv} {f:Sl->Res D} {g g1 g2:Sl->Res Out}
theorem jR:DSs X [] nxO:=by
 with_unfolding_all exact (PSs.imp YL fun E σ H ⟨G,H0,env,o,k,ef,q⟩=>by
  cases ef
  exact q σ H k (Frm.refl (Same.refl H)))
theorem Za {K:aaa} {G:Addr->Prop} {H0 H H':Hp} {env env':Sl} {σ σ':L2.St} {E:Ends} {o:Out} (f:Frm env σ H env' σ' H') (q:Post K G H0 env σ H E o):Post K G H0 env' σ' H' E o:=by
 cases o with
 |nx e=>exact fun σ2 H2 k2 f2=>q σ2 H2 k2 (f.trans f2)
 |bk e=>exact fun σ2 H2 k2 f2=>q σ2 H2 k2 (f.trans f2)
 |ct e=>exact fun σ2 H2 k2 f2=>q σ2 H2 k2 (f.trans f2)
 |rt fr d=>exact q
theorem je (h1:DS X st g1) (h2:DSs X rest g2):DSs X (st::rest) (seqO g1 g2):=by
 with_unfolding_all exact (PSs.imp (WE h1 h2) fun E σ H ⟨G,H0,env,o,k,ef,q⟩=>by
  obtain ⟨o1,e1,e2⟩:=jc ef;refine ⟨G,H0,env,o1,k,e1,?_⟩
  cases o1 with
  |nx env1=>exact fun σ' H' k' f'=>⟨G,H0,env1,o,k',e2,Za f' q⟩
  |rt fr d=>cases e2;exact q
  |bk e'=>cases e2;exact q
  |ct e'=>cases e2;exact q)
theorem jh (h1:DS X st g1):DSs X [st] g1:=by
 with_unfolding_all exact (PSs.imp (YK h1) fun E σ H q=>q)
def retO (f:Sl->Res D):Sl->Res Out:=fun env=>f env>>=fun d=> .ok (.rt true d)
theorem jN (h:DE X .t e f):DS X (.Return (some e) pos) (retO f):=by
 with_unfolding_all exact (PS.imp (Z5 h) fun E σ H ⟨G,H0,env,o,k,ef,q⟩=>by
  obtain ⟨d,e1,e2⟩:=jc ef;cases e2
  exact ⟨G,H0,env,d,k,e1,fun v H' s r nt=>q v H' (k.base.trans s) (r.weak fun a z=>z.2) fun _=>NewTop.grow k.base nt⟩)
def retS (f:Sl->Res D):Sl->Res Out:=fun env=>f env>>=fun d=> .ok (.rt false d)
theorem yf (h:DE X .s e f):DS X (.Return (some e) pos) (retS f):=by
 with_unfolding_all exact (PS.imp (Z5 h) fun E σ H ⟨G,H0,env,o,k,ef,q⟩=>by
  obtain ⟨d,e1,e2⟩:=jc ef;cases e2
  exact ⟨G,H0,env,d,k,e1,fun v H' s r nt=>q v H' (k.base.trans s) (r.weak fun a z=>z.2) fun z=>by cases z⟩)
def rdO (i:Nat):Sl->Res D:=fun env=>match env[i]? with
 |some (.own d)=> .ok d
 |some (.shr d)=>must (d.imm=true) (.ok d)
 |_=> .stuck
theorem ye (i:Nat) {x:Str} {p:Pos} (hN:X.N[i]?=some x:=by rfl) (hv:Vis X.env.scope x:=by first|exact abw rfl|exact aa4 (abw rfl)|exact aa4 (aa4 rfl)) (hd:(x==("__debug__" :Str))=false:=by decide)
    (hcd:(x==("__classdict__" :Str))=false:=by decide):DS X (.Return (some (.Name x p)) pos) (retO (rdO i)):=by
 with_unfolding_all exact (PS.imp (Z5 (wu hN hv hd hcd)) fun E σ H ⟨G,H0,env,o,k,ef,q⟩=>by
  obtain ⟨d,e1,e2⟩:=jc ef;cases e2;unfold rdO at e1
  split at e1
  · rename_i d' hs;cases e1;obtain ⟨a,h1,h0,h2⟩:=k.own i d hs;refine ⟨.ref a,h1,q _ H k.base (h2.rep (fun c z=>⟨z.2,Z8 k hs h1 c z⟩) (k.g0 a h0)) fun _ b e o' q'=>?_⟩;cases e;rw [h0] at q';cases q'
  · rename_i d' hs;obtain ⟨hm,e3⟩:=jp e1;cases e3;obtain ⟨v,h1,h2⟩:=k.shr i d hs;exact ⟨v,h1,q v H k.base (h2.imm hm) fun _=>v0 k.base h2 hm⟩
  · cases e1)
def ifO (t:Sl->Res Bool) (g1 g2:Sl->Res Out):Sl->Res Out:=fun env=>t env>>=fun b=>if b=true then g1 env else g2 env
theorem qX {t:Sl->Res Bool} (hc:DT X c t) (h1:DSs X body g1) (h2:DSs X orelse g2):DS X (.If c body orelse pos) (ifO t g1 g2):=by
 with_unfolding_all exact (PS.imp (kU hc h1 h2) fun E σ H ⟨G,H0,env,o,k,ef,q⟩=>by
  obtain ⟨b,e1,e2⟩:=jc ef;refine ⟨G,H0,env,b,k,e1,fun H' s=>?_⟩
  cases b with
  |true=>rw [if_pos rfl] at e2 ⊢;exact ⟨G,H0,env,o,k.grow s,e2,Za (Frm.refl s) q⟩
  |false=>rw [if_neg aaz] at e2 ⊢;exact ⟨G,H0,env,o,k.grow s,e2,Za (Frm.refl s) q⟩)
def setO (i:Nat) (f:Sl->Res D):Sl->Res Out:=fun env=>f env>>=fun d=> .ok (.nx (env.set i (Jj d)))
theorem wO (i:Nat) {x:Str} {pos':Pos} (hN:X.N.Nodup) (h:DE X .t e f) (hi:X.N[i]?=some x:=by rfl) (hx:Loc X.env.scope x:=by first|exact abw rfl|exact aa4 rfl) (hs:ab1 e (some (.Name x pos')) pos.line X.env=pure false:=by rfl)
   (hf:X.fn x=true\/X.env.scope.names.lookup x=some .local:=by first|exact .inl rfl|exact .inr rfl|assumption):DS X (.Assign [.Name x pos'] e pos) (setO i f):=by
 with_unfolding_all exact (
  PS.imp (jb0 (i:=i) hN hi hx h hs hf) fun E σ H ⟨G,H0,env,o,k,ef,q⟩=>by
   obtain ⟨d,e1,e2⟩:=jc ef;cases e2
   exact ⟨G,H0,env,d,k,e1,fun v H' s r nt=>q _ H' (k.setNew s r nt).1 (k.setNew s r nt).2⟩)
def jW (i:Nat) (f:Sl->Res D):Sl->Res Out:=fun env=>f env>>=fun d=> .ok (.nx (env.set i (.shr d)))
theorem jJ (i:Nat) {x:Str} {pos':Pos} (hN:X.N.Nodup) (h:DE X .s e f) (hi:X.N[i]?=some x:=by rfl) (hx:Loc X.env.scope x:=by first|exact abw rfl|exact aa4 rfl) (hs:ab1 e (some (.Name x pos')) pos.line X.env=pure false:=by rfl)
   (hf:X.fn x=true\/X.env.scope.names.lookup x=some .local:=by first|exact .inl rfl|exact .inr rfl|assumption):DS X (.Assign [.Name x pos'] e pos) (jW i f):=by
 with_unfolding_all exact (
  PS.imp (jb0 (i:=i) hN hi hx h hs hf) fun E σ H ⟨G,H0,env,o,k,ef,q⟩=>by
   obtain ⟨d,e1,e2⟩:=jc ef;cases e2
   exact ⟨G,H0,env,d,k,e1,fun v H' s r _=>q _ H' ((k.grow s).setS r) (.set s fun _ _ z _=>by cases z)⟩)
theorem jck (i:Nat) {x:Str} {pos':Pos} {op:ad2} {h:Int->Int->Int} (hN:X.N.Nodup) (he:DE X l e f) (ho:PIp X op (ipI h)) (hi:X.N[i]?=some x:=by rfl) (hx:Loc X.env.scope x:=by first|exact abw rfl|exact aa4 rfl)
   (hf:X.fn x=true\/X.env.scope.names.lookup x=some .local:=by first|exact .inl rfl|exact .inr rfl|assumption):
   DS X (.AugAssign (.Name x pos') op e pos) (jW i (two (rdS i) f (augI h))):=by
 with_unfolding_all exact (
  PS.imp (jev (i:=i) hN hi hx he ho hf) fun E σ H ⟨G,H0,env,o,k,ef,q⟩=>by
   obtain ⟨d,e1,e2⟩:=jc ef;obtain ⟨a,e3,e4⟩:=jc e1;obtain ⟨b,e5,e6⟩:=jc e4;cases e2;obtain ⟨v,h1,h2⟩:=k.shr i a (kO e3);refine ⟨v,h1,G,H0,env,b,k,e5,fun w H' s r _=>?_⟩
   cases a with
   |int m=>
    cases b with
    |int n=>
     cases e6;cases h2.intE;cases r.intE;exact ⟨m,n,rfl,rfl,q _ H' ((k.grow s).setS (.int _)) (.set s fun _ _ z _=>by cases z)⟩
    |_=>cases e6
   |_=>cases e6)
end
end M
namespace M
open PySem PySem.Spec L2
open PyProof.Rows hiding St
def Its (x:Str):It:=⟨fun i _=>i<x.cps.size,fun i H v H'=>H'=H/\ ∃c,x.cps[i]?=some c/\v= .str ⟨#[c]⟩,fun i _=>x.cps.size<=i⟩
theorem Uh {P:aaD} {w:World} {K:aaa} {tg:Expr} (it:Addr) (x:Str) (t:Tok):Turn P w K tg (Its x) [it] it (fun i h=>h.IsStrIter it "str_ascii_iterator" x t i) where
 mem:=by simp
 obj:=fun i h st b hb=>by
  have e:b=it:=by simpa using hb
  subst e;obtain ⟨o,e,c,d⟩:=st;exact ⟨o,e,fun v z=>by rw [d] at z;cases z⟩
 keep:=fun i h h' st k=>let ⟨o,ho,r⟩:=st;⟨o,k it (by simp) o ho,r⟩
 item:=by
  intro X hP hw hK hc i pins s σ H E I hf st hg;subst hP hw hK;have hi:i<x.cps.size:=hg;obtain ⟨f0,f1,f2,f3,f4,f5⟩:=hf it (by simp);refine wpAny_pyNext_ascii_item st (c:=x.cps[i]) (by simp [hi]) fun h' st' sb=>?_
  have I1:Inv X pins σ H {s with heap:=h',toks:=s.toks+1}:=I.turned (fun b o hb e=>(sb.2 b hb).trans e) f0 f1 f3 f4 f5;obtain ⟨o,e,c,d⟩:=id st';exact ⟨_,rfl,uj (s:={s with heap:=h',toks:=s.toks+1}) e c d (by decide) ⟨.str ⟨#[x.cps[i]]⟩,H,I1,⟨_,rfl⟩,⟨rfl,_,by simp [hi],rfl⟩,st',fun b hb=>(hf b hb).1⟩⟩
 done:=by
  intro X hP hw hK hc i pins s σ H E I hf st hg;subst hP hw hK;have hi:x.cps.size<=i:=hg;obtain ⟨f0,f1,f2,f3,f4,f5⟩:=hf it (by simp);exact wpAny_pyNext_ascii_end (I.ok.hd hc) st (by simp;exact hi) fun h' eb=>⟨rfl,I.turned (t':=s.toks) (fun b o hb e=>eb b o hb e) f0 f1 f3 f4 f5⟩
 self:=fun _ _ _ _ _ st h=>wpAny_pyIter_striter_ascii st h
theorem ka {P:aaD} {w:World} {K:aaa} {tg:Expr} (it:Addr) (x:Str) (t:Tok):Turn P w K tg (Its x) [it] it (fun i h=>h.IsStrIter it "str_iterator" x t i) where
 mem:=by simp
 obj:=fun i h st b hb=>by
  have e:b=it:=by simpa using hb
  subst e;obtain ⟨o,e,c,d⟩:=st;exact ⟨o,e,fun v z=>by rw [d] at z;cases z⟩
 keep:=fun i h h' st k=>let ⟨o,ho,r⟩:=st;⟨o,k it (by simp) o ho,r⟩
 item:=by
  intro X hP hw hK hc i pins s σ H E I hf st hg;subst hP hw hK;have hi:i<x.cps.size:=hg;obtain ⟨f0,f1,f2,f3,f4,f5⟩:=hf it (by simp);refine wpAny_pyNext_wide_item st (c:=x.cps[i]) (by simp [hi]) fun h' st' sb=>?_
  have I1:Inv X pins σ H {s with heap:=h',toks:=s.toks+1}:=I.turned (fun b o hb e=>(sb.2 b hb).trans e) f0 f1 f3 f4 f5;obtain ⟨o,e,c,d⟩:=id st';exact ⟨_,rfl,uj (s:={s with heap:=h',toks:=s.toks+1}) e c d (by decide) ⟨.str ⟨#[x.cps[i]]⟩,H,I1,⟨_,rfl⟩,⟨rfl,_,by simp [hi],rfl⟩,st',fun b hb=>(hf b hb).1⟩⟩
 done:=by
  intro X hP hw hK hc i pins s σ H E I hf st hg;subst hP hw hK;have hi:x.cps.size<=i:=hg;obtain ⟨f0,f1,f2,f3,f4,f5⟩:=hf it (by simp);exact wpAny_pyNext_wide_end (I.ok.hd hc) st (by simp;exact hi) fun h' eb=>⟨rfl,I.turned (t':=s.toks) (fun b o hb e=>eb b o hb e) f0 f1 f3 f4 f5⟩
 self:=fun _ _ _ _ _ st h=>wpAny_pyIter_striter_wide st h
def Walk (J:It) (xs:List V) (P:Hp->Prop):Prop:= ∀i H,P H->(i<xs.length->J.go i H)/\(i<xs.length-> ∀x H',J.yld i H x H'->H'=H/\xs[i]?=some x)/\(xs.length<=i->J.stop i H)
def Yd (K:aaa) (A:Addr->Prop) (H1 H H':Hp) (x:V) (d:D):Prop:=
 (H'=H/\Rep K A H1 x d)\/ ∃p vs es,H p=none/\x= .ref p/\H'=L2.upd H p (.tup vs)/\d= .tup es/\Reps K A H1 vs es
def jd0 (K:aaa) (A:Addr->Prop) (H1:Hp) (J:It) (ds:List D) (P:Hp->Prop):Prop:= ∀i H,P H->(i<ds.length->J.go i H)/\(∀d,ds[i]?=some d-> ∀x H',J.yld i H x H'->Yd K A H1 H H' x d)/\(ds.length<=i->J.stop i H)
theorem Walk.toD {K:aaa} {A:Addr->Prop} {H1:Hp} {J:It} {xs:List V} {ds:List D} {P:Hp->Prop} (rs:Reps K A H1 xs ds) (w:Walk J xs P):jd0 K A H1 J ds P:=fun i H p=>by
 have hl:=rs.length;obtain ⟨w1,w2,w3⟩:=w i H p;refine ⟨fun h=>w1 (by omega),fun d hd x H' y=>?_,fun h=>w3 (by omega)⟩;have hi:i<ds.length:=(aay.mp hd).1;obtain ⟨e,hx⟩:=w2 (by omega) x H' y;obtain ⟨d',hd',r⟩:=rs.get' hx;rw [hd] at hd';cases hd';exact .inl ⟨e,r⟩
def tI (K:aaa) (f:Sl->Res (List D)):TI:=fun σ H R=> ∃G H0 env ds,EnvOk K G H0 env σ H/\f env= .ok ds/\
 ∀J H1 P,Same H H1->jd0 K (Sf G env σ) H1 J ds P->P H1->(∀env' σ' H',Frm env σ H1 env' σ' H'->P H')->R J H1
@[irreducible] def DI (X:Cx) (tg e:Expr) (f:Sl->Res (List D)):Prop:=PI X tg e (tI X.K f)
def ZL (z:Str):List D:=z.cps.toList.map fun c=> .str ⟨#[c]⟩
def vV:D->Res (List D)
 | .lst ds=> .ok ds
 | .scr ds=> .ok ds
 | .tup ds=> .ok ds
 | .str z=> .ok (ZL z)
 |_=> .stuck
def Uk (z:Str):List V:=z.cps.toList.map fun c=> .str ⟨#[c]⟩
theorem kA {K:aaa} {A:Addr->Prop} {H:Hp} (z:Str):Reps K A H (Uk z) (ZL z):=by
 unfold Uk ZL;generalize z.cps.toList=l
 induction l with
 |nil=>exact .nil
 |cons c r ih=>exact .cons (.str _ (jc0 c)) ih
section
variable {X:Cx} {tg e:Expr} {f:Sl->Res D} {l:Lv}
def itF (f:Sl->Res D):Sl->Res (List D):=fun env=>f env>>=vV
theorem zW (h:DE X .s e f):DI X tg e (itF f):=by
 with_unfolding_all exact (by
  intro pins s σ H R I ⟨G,H0,env,ds,k,ef,q⟩;obtain ⟨d,e1,e2⟩:=jc ef;refine thn (h pins s σ H (fun v H1=>Same H H1/\Rep X.K (Sf G env σ) H1 v d) I ⟨G,H0,env,d,k,e1,fun v H' s r _=>⟨s,r⟩⟩) fun v s1 ⟨x,H1,I1,r1,sm,rep⟩=>?_
  have k1:=k.grow sm
  cases d with
  |lst ds'=>
   cases e2;obtain ⟨a,xs,rfl,ha,na,rs⟩:=rep.lstE;cases r1;obtain ⟨its,rv,p,hz⟩:=I1.list (.of ha);refine wpAny_pyIter_list p.isList ?_;refine ⟨s1.heap.objs.size,[s1.heap.objs.size],_,_,H1,rfl,I1.kept (t':=s1.toks) fun b o e=>aac _ e,Xq a _,⟨_,aam _ rfl,rfl,rfl⟩,fun b hb=>?_,?_⟩
   · have e:b=s1.heap.objs.size:=by simpa using hb
     subst e;exact I1.fpOk (aai _) (I1.hok.fresh (aai _))
   · refine q _ H1 (fun H=>H a=some (.lst xs)) sm (Walk.toD rs.low fun i H' p=>?_) ha (fun env' σ' H' fr=>fr.keep a _ ha na.1);exact ⟨fun hi=>⟨xs,xs[i],.of p,by simp [hi]⟩,fun _ x H' y=>⟨y.1,y.2 xs (.of p)⟩,fun hi=>⟨xs,.of p,hi⟩⟩
  |scr ds'=>
   cases e2;obtain ⟨a,xs,rfl,ha,rs⟩:=rep.scrE;cases r1;obtain ⟨its,rv,p,hz⟩:=I1.list ha.sql;refine wpAny_pyIter_list p.isList ?_;refine ⟨s1.heap.objs.size,[s1.heap.objs.size],_,_,H1,rfl,I1.kept (t':=s1.toks) fun b o e=>aac _ e,Xq a _,⟨_,aam _ rfl,rfl,rfl⟩,fun b hb=>?_,?_⟩
   · have e:b=s1.heap.objs.size:=by simpa using hb
     subst e;exact I1.fpOk (aai _) (I1.hok.fresh (aai _))
   · refine q _ H1 (fun H=>LsK X.K H a xs) sm (Walk.toD rs fun i H' p=>?_) ha (fun env' σ' H' fr=>?_)
     · exact ⟨fun hi=>⟨xs,xs[i],p.sql,by simp [hi]⟩,fun _ x H' y=>⟨y.1,y.2 xs p.sql⟩,fun hi=>⟨xs,p.sql,hi⟩⟩
     · rcases ha with ⟨o,eo⟩|z
       · exact .inl ⟨o,fr.keep a _ eo fun ow=>(k1.mutO ow eo).elim⟩
       · exact .inr z
  |tup ds'=>
   cases e2;obtain ⟨a,xs,rfl,ha,rs⟩:=rep.tupE;cases r1;obtain ⟨its,rv,p,hz⟩:=I1.tuple (.of ha);refine acf (show s1.heap.IsTuple a its.toArray from p) ?_;refine ⟨s1.heap.objs.size,[s1.heap.objs.size],_,_,H1,rfl,I1.kept (t':=s1.toks) fun b o e=>aac _ e,Ue a _,⟨_,aam _ rfl,rfl,rfl⟩,fun b hb=>?_,?_⟩
   · have e:b=s1.heap.objs.size:=by simpa using hb
     subst e;exact I1.fpOk (aai _) (I1.hok.fresh (aai _))
   · refine q _ H1 (fun H=>H a=some (.tup xs)) sm (Walk.toD rs fun i H' p=>?_) ha (fun env' σ' H' fr=>fr.keep a _ ha fun ow=>(k1.mutO ow ha).elim);exact ⟨fun hi=>⟨xs,xs[i],.of p,by simp [hi]⟩,fun _ x H' y=>⟨y.1,y.2 xs (.of p)⟩,fun hi=>⟨xs,.of p,hi⟩⟩
  |str z=>
   cases e2;obtain ⟨rfl,hz⟩:=rep.strE;obtain ⟨t,rfl⟩:=r1
   have fin: ∀(J:It),J=Its z-> ∃(xs:List V) (P:Hp->Prop),Reps X.K (Sf G env σ) H1 xs (ZL z)/\Walk J xs P/\P H1/\ ∀env' σ' H',Frm env σ H1 env' σ' H'->P H':=by
     rintro J rfl;refine ⟨Uk z,fun _=>True,kA z,fun i H' _=>?_,trivial,fun _ _ _ _=>trivial⟩;have hl:(Uk z).length=z.cps.size:=by simp [Uk]
     refine ⟨fun hi=>by rw [hl] at hi;exact hi,fun hi x H2 y=>?_,fun hi=>by rw [hl] at hi;exact hi⟩;obtain ⟨y1,c,y2,y3⟩:=y;refine ⟨y1,?_⟩;subst y3;simp [Uk,y2]
   obtain ⟨xs,P,h1,h2,h3,h4⟩:=fin (Its z) rfl
   cases hall:z.cps.all (· <128) with
   |true=>
     refine wpAny_pyIter_ascii hall ?_;refine ⟨s1.heap.objs.size,[s1.heap.objs.size],_,_,H1,rfl,I1.kept (t':=s1.toks) fun b o e=>aac _ e,Uh _ z t,⟨_,aam _ rfl,rfl,rfl⟩,fun b hb=>?_,q _ H1 P sm (Walk.toD h1 h2) h3 h4⟩;have e:b=s1.heap.objs.size:=by simpa using hb
     subst e;exact I1.fpOk (aai _) (I1.hok.fresh (aai _))
   |false=>
     refine wpAny_pyIter_wide hall ?_;refine ⟨s1.heap.objs.size,[s1.heap.objs.size],_,_,H1,rfl,I1.kept (t':=s1.toks) fun b o e=>aac _ e,ka _ z t,⟨_,aam _ rfl,rfl,rfl⟩,fun b hb=>?_,q _ H1 P sm (Walk.toD h1 h2) h3 h4⟩;have e:b=s1.heap.objs.size:=by simpa using hb
     subst e;exact I1.fpOk (aai _) (I1.hok.fresh (aai _))
  |_=>cases e2)
def wb (lo:Int) (n:Nat):List D:=(abx n).map fun (i:Nat)=> .int (lo+(i:Int))
def UL (lo:Int) (n:Nat):List V:=(abx n).map fun (i:Nat)=> .int (lo+(i:Int))
theorem XU {K:aaa} {A:Addr->Prop} {H:Hp} (lo:Int) (n:Nat):Reps K A H (UL lo n) (wb lo n):=by
 unfold UL wb;generalize abx n=l
 induction l with
 |nil=>exact .nil
 |cons c r ih=>exact .cons (.int _) ih
theorem ZX (lo:Int) (n:Nat):Walk (Itr lo n) (UL lo n) (fun _=>True):=fun i H _=>by
 have hl:(UL lo n).length=n:=by simp [UL]
 refine ⟨fun hi=>by rw [hl] at hi;exact hi,fun hi x H2 y=>?_,fun hi=>by rw [hl] at hi;exact hi⟩;obtain ⟨y1,y2⟩:=y;refine ⟨y1,?_⟩;subst y2;rw [hl] at hi;simp [UL,hi]
def rng1:List D->Res (List D)
 | [.int j]=>must (-(2^62)<=j/\j<2^62) (.ok (wb 0 j.toNat))
 |_=> .stuck
theorem Reps.one {K:aaa} {A:Addr->Prop} {H:Hp} {vs:List V} {d:D} (r:Reps K A H vs [d]): ∃v,vs=[v]/\Rep K A H v d:=by
 cases r with
 |cons h t=>cases t;exact ⟨_,rfl,h⟩
theorem Reps.two {K:aaa} {A:Addr->Prop} {H:Hp} {vs:List V} {d d':D} (r:Reps K A H vs [d,d']): ∃v v',vs=[v,v']/\Rep K A H v d/\Rep K A H v' d':=by
 cases r with
 |cons h t=>
  obtain ⟨v',rfl,h'⟩:=t.one;exact ⟨_,_,rfl,h,h'⟩
theorem PI.imp {t t':TI} (h:PI X tg e t) (w: ∀σ H Q,t' σ H Q->t σ H Q):PI X tg e t':=fun pins s σ H Q I q=>h pins s σ H Q I (w σ H Q q)
def rngF (fa:Sl->Res (List D)):Sl->Res (List D):=fun env=>fa env>>=rng1
theorem xf {a:Expr} {p pos:Pos} {fa:Sl->Res (List D)} (hg:Gl X "range") (hm:X.mg "range" =none) (ha:DA X l [a] fa) (hs:aal [a] X.env=[(false,eval a X.env)]:=by rfl):DI X tg (.Call (.Name "range" p) [a] [] pos) (rngF fa):=by
 with_unfolding_all exact (
  PI.imp (k4 hg hm ha hs) fun σ H R ⟨G,H0,env,ds,k,ef,q⟩=>by
   obtain ⟨as,e1,e2⟩:=jc ef;refine ⟨G,H0,env,as,k,e1,fun vs H1 s1 r1=>?_⟩;unfold rng1 at e2
   split at e2
   · obtain ⟨⟨h1,h2⟩,e3⟩:=jp e2;cases e3;obtain ⟨v,rfl,r⟩:=r1.one;cases r.intE;exact ⟨_,rfl,h1,h2,q _ H1 _ s1 (Walk.toD (XU 0 _) (ZX 0 _)) trivial fun _ _ _ _=>trivial⟩
   · cases e2)
def rng2:List D->Res (List D)
 | [.int i,.int j]=>must ((-(2^62)<=i/\i<2^62)/\ -(2^62)<=j/\j<2^62) (.ok (wb i (j-i).toNat))
 |_=> .stuck
def YE (fa:Sl->Res (List D)):Sl->Res (List D):=fun env=>fa env>>=rng2
theorem uG {a b:Expr} {p pos:Pos} {fa:Sl->Res (List D)} (hg:Gl X "range") (hm:X.mg "range" =none) (ha:DA X l [a,b] fa) (hs:aal [a,b] X.env=[(false,eval a X.env),(false,eval b X.env)]:=by rfl) (hs2:aal [b] X.env=[(false,eval b X.env)]:=by rfl):
   DI X tg (.Call (.Name "range" p) [a,b] [] pos) (YE fa):=by
 with_unfolding_all exact (
  PI.imp (kZ hg hm ha hs hs2) fun σ H R ⟨G,H0,env,ds,k,ef,q⟩=>by
   obtain ⟨as,e1,e2⟩:=jc ef;refine ⟨G,H0,env,as,k,e1,fun vs H1 s1 r1=>?_⟩;unfold rng2 at e2
   split at e2
   · obtain ⟨⟨⟨h1,h2⟩,h3,h4⟩,e3⟩:=jp e2;cases e3;obtain ⟨v,v',rfl,r,r'⟩:=r1.two;cases r.intE;cases r'.intE;exact ⟨_,_,rfl,⟨h1,h2,h3,h4⟩,q _ H1 _ s1 (Walk.toD (XU _ _) (ZX _ _)) trivial fun _ _ _ _=>trivial⟩
   · cases e2)
def tG (K:aaa) (t:D->Sl->Res Sl):TG:=fun v σ H Q=> ∃G H0 env d env',EnvOk K G H0 env σ H/\Rep K (Sf G env σ) H v d/\t d env= .ok env'/\ ∀σ',EnvOk K G H0 env' σ' H->Frm env σ H env' σ' H->Q σ' H
@[irreducible] def DG (X:Cx) (tg:Expr) (t:D->Sl->Res Sl):Prop:=PG X tg (tG X.K t)
theorem PG.imp {t t':TG} (h:PG X tg t) (w: ∀v σ H Q,t' v σ H Q->t v σ H Q):PG X tg t':=fun pins s σ H v u Q I r q=>h pins s σ H v u Q I r (w v σ H Q q)
def gN (i:Nat):D->Sl->Res Sl:=fun d env=> .ok (env.set i (.shr d))
theorem jn (i:Nat) {x:Str} {pos:Pos} (hN:X.N.Nodup) (hi:X.N[i]?=some x:=by rfl) (hx:Loc X.env.scope x:=by first|exact abw rfl|exact aa4 rfl)
   (hf:X.fn x=true\/X.env.scope.names.lookup x=some .local:=by first|exact .inl rfl|exact .inr rfl|assumption):DG X (.Name x pos) (gN i):=by
 with_unfolding_all exact (
  PG.imp (vc hN hi hx hf) fun v σ H Q ⟨G,H0,env,d,env',k,r,e,q⟩=>by
   cases e
   exact q _ (k.setS r) (.set (Same.refl H) fun _ _ z _=>by cases z))
def g2 (t u:D->Sl->Res Sl):D->Sl->Res Sl:=fun d env=>match d with
 | .tup [x,y]=>t x env>>=fun env'=>u y env'
 |_=> .stuck
theorem wf {a b:Expr} {k:Nat} {pos:Pos} {t u:D->Sl->Res Sl} (hc:X.calm=true) (h1:DG X a t) (h2:DG X b u)
   (hs:(abe [a,b] X.env).map (·.2)=ad4 a X.env::(abe [b] X.env).map (·.2):=by rfl) (hs2:(abe [b] X.env).map (·.2)=ad4 b X.env::(abe [] X.env).map (·.2):=by rfl)
   (hn:(abe [a,b] X.env).length=2:=by rfl) (hst:(abe [a,b] X.env).findIdx? (·.1)=none:=by rfl):DG X (.Tuple [a,b] k pos) (g2 t u):=by
 with_unfolding_all exact (
  PG.imp (jb3 (n:=2) hc (QA h1 (QA h2 k9 hs2) hs) hn hst) fun v σ H Q ⟨G,H0,env,d,env',k,r,e,q⟩=>by
   unfold g2 at e
   split at e
   · obtain ⟨env1,e1,e2⟩:=jc e;obtain ⟨a,xs,rfl,ha,rs⟩:=r.tupE;obtain ⟨v1,v2,rfl,r1,r2⟩:=rs.two;refine ⟨a,_,rfl,.of ha,rfl,v1,[v2],rfl,G,H0,env,_,env1,k,r1,e1,fun σ1 k1 f1=>⟨v2,[],rfl,G,H0,env1,_,env',k1,f1.rep k r2,e2,fun σ2 k2 f2=>⟨rfl,q σ2 k2 (f1.trans f2)⟩⟩⟩
   · cases e)
def asgO (f:Sl->Res D) (t:D->Sl->Res Sl):Sl->Res Out:=fun env=>f env>>=fun d=>t d env>>=fun env'=> .ok (.nx env')
theorem Wn {pos:Pos} {t:D->Sl->Res Sl} (he:DE X .s e f) (hg:DG X tg t) (hs:swapsWithSole [tg] e pos.line X.env=pure false:=by rfl) (hw:swappedStores [tg] e X.env=pure none:=by rfl)
   (h1:(abe [tg] X.env).map (·.2)=[ad4 tg X.env]:=by rfl):DS X (.Assign [tg] e pos) (asgO f t):=by
 with_unfolding_all exact (
  PS.imp (jb2 he hg hs hw h1) fun E σ H ⟨G,H0,env,o,k,ef,q⟩=>by
   obtain ⟨d,e1,e2⟩:=jc ef;obtain ⟨env',e3,e4⟩:=jc e2;cases e4
   exact ⟨G,H0,env,d,k,e1,fun v H' s r _=>⟨G,H0,env,d,env',k.grow s,r,e3,fun σ' k' f'=>q σ' H' k' (f'.grow s)⟩⟩)
def forD (body:D->Sl->Res Out):List D->Sl->Res Out
 | [],env=> .ok (.nx env)
 |d::ds,env=>body d env>>=fun o=>match o with
  | .nx env'=>forD body ds env'
  | .ct env'=>forD body ds env'
  | .bk env'=> .ok (.nx env')
  | .rt fr d=> .ok (.rt fr d)
def qp (t:D->Sl->Res Sl) (g:Sl->Res Out):D->Sl->Res Out:=fun d env=>t d env>>=g
def forO (f:Sl->Res (List D)) (t:D->Sl->Res Sl) (g:Sl->Res Out):Sl->Res Out:=fun env=>f env>>=fun ds=>forD (qp t g) ds env
theorem we {pos:Pos} {body:List Stmt} {fi:Sl->Res (List D)} {t:D->Sl->Res Sl} {g:Sl->Res Out} (hp:PassesOwn (model X.prog X.w) X.A X.env X.xe) (hc:X.calm=true) (hi:DI X tg e fi) (hg:DG X tg t) (hb:DSs X body g)
   (hs: ∀x,abL e X.env x=pure x:=by intro _;rfl):DS X (.For tg e body [] pos) (forO fi t g):=by
 with_unfolding_all exact (
  PS.imp (jb1 hp hc hi hg hb hs) fun E σ H ⟨G,H0,env,o,k,ef,q⟩=>by
   obtain ⟨ds,e1,e2⟩:=jc ef;refine ⟨G,H0,env,ds,k,e1,fun J H1 P sm wk p0 pst=>?_⟩;have k1:=k.grow sm;have q1:Post X.K G H0 env σ H1 E o:=Za (Frm.refl sm) q;refine ⟨fun i m σ' H'=>m=ds.length-i/\i<=ds.length/\ ∃env',EnvOk X.K G H0 env' σ' H'/\Frm env σ H1 env' σ' H'/\forD (qp t g) (ds.drop i) env'= .ok o,⟨ds.length,by simp,abp _,env,k1,Frm.refl (Same.refl H1),by simpa using e2⟩,?_⟩;rintro i m σ' H' ⟨rfl,hi,env',k',f',e'⟩;obtain ⟨w1,w2,w3⟩:=wk i H' (pst env' σ' H' f')
   by_cases hd:i<ds.length
   · refine .inr ⟨w1 hd,?_⟩;rw [acy hd] at e';obtain ⟨o1,e3,e4⟩:=jc e';obtain ⟨env1,e5,e6⟩:=jc e3;refine ⟨fun σ2 H2=>ds.length-(i+1)=ds.length-(i+1)/\i+1<=ds.length/\ ∃env2,EnvOk X.K G H0 env2 σ2 H2/\Frm env σ H1 env2 σ2 H2/\forD (qp t g) (ds.drop (i+1)) env2= .ok o,fun σ2 H2 z=>⟨ds.length-(i+1),by omega,z⟩,fun x H2 y=>?_⟩
     obtain ⟨sm2,rd⟩:Same H' H2/\Rep X.K (Sf G env' σ') H2 x ds[i]:=by
      rcases w2 _ (aag hd) x H2 y with ⟨rfl,rd⟩| ⟨p,vs,es,hp,rfl,rfl,ed,rds⟩
      · exact ⟨Same.refl _,f'.rep k1 rd⟩
      · refine ⟨Same.upd hp,?_⟩;rw [ed];exact .tup jB ((f'.reps k1 rds).grow (Same.upd hp))
     refine ⟨G,H0,env',ds[i],env1,k'.grow sm2,rd,e5,fun σ1 kk1 ff1=>⟨G,H0,env1,o1,kk1,e6,?_⟩⟩;have fr1:=(f'.trans (Frm.refl sm2)).trans ff1
     cases o1 with
     |nx env2=>exact fun σ2 H3 kk2 ff2=>⟨rfl,hd,env2,kk2,fr1.trans ff2,e4⟩
     |ct env2=>exact fun σ2 H3 kk2 ff2=>⟨rfl,hd,env2,kk2,fr1.trans ff2,e4⟩
     |bk env2=>cases e4;exact fun σ2 H3 kk2 ff2=>q1 σ2 H3 kk2 (fr1.trans ff2)
     |rt fr dd=>cases e4;exact q1
   · have he:i=ds.length:=by omega
     refine .inl ⟨w3 (by omega),?_⟩;rw [ac4 (by omega)] at e';cases e'
     exact q1 σ' H' k' f')
def q0 (n:Nat) (t:Sl->Res Bool) (g:Sl->Res Out):Sl->Res Out:=fun env=>match n with
 |0=> .stuck
 |n+1=>t env>>=fun b=>if b=true then g env>>=fun o=>match o with
   | .nx env'=>q0 n t g env'
   | .ct env'=>q0 n t g env'
   | .bk env'=> .ok (.nx env')
   | .rt fr d=> .ok (.rt fr d)
  else .ok (.nx env)
theorem VH (n:Nat) {pos:Pos} {c:Expr} {body:List Stmt} {t:Sl->Res Bool} {g:Sl->Res Out} (hp:PassesOwn (model X.prog X.w) X.A X.env X.xe) (hc:DT X c t) (hb:DSs X body g):DS X (.While c body [] pos) (q0 n t g):=by
 with_unfolding_all exact (
  PS.imp (jav hp hc hb) fun E σ H ⟨G,H0,env,o,k,ef,q⟩=>by
   refine ⟨fun m σ' H'=> ∃env',EnvOk X.K G H0 env' σ' H'/\Frm env σ H env' σ' H'/\q0 m t g env'= .ok o,⟨n,env,k,Frm.refl (Same.refl H),ef⟩,?_⟩;rintro m σ' H' ⟨env',k',f',e'⟩
   cases m with
   |zero=>cases e'
   |succ m=>
    obtain ⟨b,e1,e2⟩:=jc e';refine ⟨G,H0,env',b,k',e1,fun H1 s1=>?_⟩
    cases b with
    |false=>
     rw [if_neg aaz] at e2 ⊢;cases e2;exact q σ' H1 (k'.grow s1) (f'.trans (Frm.refl s1))
    |true=>
     rw [if_pos rfl] at e2 ⊢;obtain ⟨o1,e3,e4⟩:=jc e2;refine ⟨fun σ2 H2=> ∃env2,EnvOk X.K G H0 env2 σ2 H2/\Frm env σ H env2 σ2 H2/\q0 m t g env2= .ok o,fun σ2 H2 z=>⟨m,Nat.lt_succ_self m,z⟩,G,H0,env',o1,k'.grow s1,e3,?_⟩;have fr1:=f'.trans (Frm.refl s1)
     cases o1 with
     |nx env2=>exact fun σ2 H3 kk2 ff2=>⟨env2,kk2,fr1.trans ff2,e4⟩
     |ct env2=>exact fun σ2 H3 kk2 ff2=>⟨env2,kk2,fr1.trans ff2,e4⟩
     |bk env2=>cases e4;exact fun σ2 H3 kk2 ff2=>q σ2 H3 kk2 (fr1.trans ff2)
     |rt fr dd=>cases e4;exact q)
end
def frz (i:Nat) (env:Sl):Sl:=match env[i]? with
 |some (.own d)=>env.set i (.shr d)
 |_=>env
theorem XC {i:Nat} {env:Sl} {σ:L2.St} {a:Addr} (h:zC (frz i env) σ a):zC env σ a:=by
 unfold frz at h
 split at h
 · rename_i d hd;obtain ⟨j,e,h1,h2⟩:=h
   by_cases z:i=j
   · subst z;obtain ⟨q,_⟩:=jA h1;cases q
   · rw [jq z] at h1;exact ⟨j,e,h1,h2⟩
 · exact h
theorem EnvOk.frz {K : aaa} {G : Addr -> Prop} {H0 H : Hp} {env : Sl} {σ : L2.St} (i : Nat) (k : EnvOk K G H0 env σ H) : EnvOk K G H0 (frz i env) σ H := by
  have w : ∀ a, Sf G env σ a -> Sf G (M.frz i env) σ a := fun a n => ⟨fun o => n.1 (XC o), n.2⟩
  cases hi : env[i]? with
  | none => have e : M.frz i env = env := by unfold M.frz; rw [hi]
            rw [e]; exact k
  | some s =>
    cases s with
    | un => have e : M.frz i env = env := by unfold M.frz; rw [hi]
            rw [e]; exact k
    | shr d => have e : M.frz i env = env := by unfold M.frz; rw [hi]
               rw [e]; exact k
    | own d =>
      have e : M.frz i env = env.set i (.shr d) := by unfold M.frz; rw [hi]
      obtain ⟨a, h1, h0, h2⟩ := k.own i d hi
      have na : NotO (M.frz i env) σ a := by
        rintro ⟨j, d', q1, q2⟩
        rw [e] at q1
        by_cases z : i = j
        · subst z
          obtain ⟨q, _⟩ := jA q1
          cases q
        · rw [jq z] at q1
          exact z (k.dis i j d d' a hi q1 h1 q2)
      rw [e] at w na ⊢
      refine ⟨by simp [k.len], k.base, k.g0, fun j d' h => ?_, fun j d' h => ?_, fun j j' d1 d2 b q1 q2 q3 q4 => ?_⟩
      · by_cases z : i = j
        · subst z
          obtain ⟨q, hl⟩ := jA h
          cases q
          exact ⟨_, h1, h2.rep (fun c z => ⟨w c z, Z8 k hi h1 c z⟩) ⟨na, k.g0 a h0⟩⟩
        · rw [jq z] at h
          obtain ⟨v', g1, g2⟩ := k.shr j d' h
          exact ⟨v', g1, g2.weak w⟩
      · by_cases z : i = j
        · subst z
          obtain ⟨q, hl⟩ := jA h
          cases q
        · rw [jq z] at h
          obtain ⟨v', g1, g0, g2⟩ := k.own j d' h
          exact ⟨v', g1, g0, g2.stay (fun _ _ e _ => e) w fun _ e => e⟩
      · have n1 : i ≠ j := fun z => by subst z; obtain ⟨q, _⟩ := jA q1; cases q
        have n2 : i ≠ j' := fun z => by subst z; obtain ⟨q, _⟩ := jA q2; cases q
        rw [jq n1] at q1
        rw [jq n2] at q2
        exact k.dis j j' d1 d2 b q1 q2 q3 q4
def frzO (i:Nat) (g:Sl->Res Out):Sl->Res Out:=fun env=>g (frz i env)
theorem jcj (i:Nat) {X:Cx} {st:Stmt} {g:Sl->Res Out} (h:DS X st g):DS X st (frzO i g):=by
 with_unfolding_all exact (PS.imp h fun E σ H ⟨G,H0,env,o,k,ef,q⟩=>by
  refine ⟨G,H0,frz i env,o,k.frz i,ef,?_⟩;have f:Frm env σ H (frz i env) σ H:=⟨fun _ _ e _=>e,fun b o=> .inl (XC o),fun _ e=>e⟩
  exact Za f q)
end M
namespace PySem.AutoSeq1
open PySem Builtin
theorem list_extend_tupleG (l:Addr) (items:Array Value) (n:Nat) (b:Addr) (items2:Array Value) (n2:Nat) (dd:Option Addr) (sl:Array (Option Value)) (hs0: ¬(!items.isEmpty&&abH (items.size+items2.size))=true) (hs1:items.size<=aae) (hs2:items.size+items2.size<=aae+1):
  Meets (adv.«list.extend» ⟨[.ref l,.ref b],[]⟩) (fun _ R s=>s.heap.get? l=some {cls:= .type "list",dict:=none,data:= .seq items n,slots:= #[]}/\s.heap.get? b=some {cls:= .type "tuple",dict:=dd,data:= .seq items2 n2,slots:=sl}/\R (.ok (.ret abh)) {s with heap:=s.heap.update l (ac8 fun x=>x++items2),toks:=s.toks}):=
 .of_wp fun prog w A R s h=>by
  obtain ⟨hp,g,d,tk,os⟩:=s;obtain ⟨hl,hb,h⟩:=h;have f1:=idx_int;have f2:=sub_tuple_tuple;have f3:=sub_list_list;have f4:=sub_tuple_list;have f5:=sub_list_tuple;
  have hz':(items++items2).size<=aae+1:=by rw [Array.size_append];exact hs2
  wp_walk using (wpAny_updateSeq hl rfl (hz:=hs1) (_hz':=hz')),acU hl,acU hb;exact ⟨_,rfl,h⟩
end PySem.AutoSeq1
namespace M
open PySem PySem.Spec L2
open PyProof.Rows hiding St
theorem imms_iff: ∀ {ds:List D},D.imms ds=true↔ ∀d∈ds,d.imm=true
 | []=>by simp [D.imms]
 |d::ds=>by simp [D.imms,imms_iff (ds:=ds)]
section
variable {X:Cx}
def jar:V->List V->Hp->VK->Prop:=fun x vs H Q=> ∃l b xs zs,x= .ref l/\vs=[.ref b]/\H l=some (.lst xs)/\H b=some (.tup zs)/\xs.length+zs.length<=aae/\Q .non (upd H l (.lst (xs++zs)))
theorem UG:MtM X "list.extend" jar:=by
 intro pins s σ H x vs v us Q I rx rv h;obtain ⟨l,b,xs,zs,rfl,rfl,hH,hB,hz,q⟩:=h;cases rx;obtain ⟨u,rfl,ru⟩:=rv.one;cases ru;obtain ⟨z,its,n,r,hl,e⟩:=I.lstM hH;obtain ⟨its2,r2,⟨ob,e2,hc,n2,hd⟩,z2⟩:=I.tuple (.of hB);have hl2:=r2.length;obtain ⟨c2,dd2,dt2,sl2⟩:=ob;have hc':c2= .type "tuple" :=hc;have hd':dt2= .seq its2.toArray n2:=hd;subst hc' hd';have hsz:its.toArray.size+its2.toArray.size<=aae:=by rw [aaf,aaf];omega
 have hlong: ¬(!its.toArray.isEmpty&&abH (its.toArray.size+its2.toArray.size))=true:=by
  rw [K8 hsz,Bool.and_false];exact aaz
 refine call_meets adj ⟨_,e,rfl⟩ F.entry_list_extend (F.args_list_extend_2 _ _)
  (AutoSeq1.list_extend_tupleG l its.toArray n b its2.toArray n2 dd2 sl2 hlong (by rw [aaf];omega) (by omega)) ⟨e,e2,?_⟩
 refine ⟨.non,_,I.lset (its':=its++its2) hH e (by simp) (r.append r2) ?_,rfl,q⟩;rw [aao];omega
theorem wZ {env:Sl} {σ:L2.St} {i:Nat} {d d':D} {a:Addr} (hi:env[i]?=some (.own d)):zC (env.set i (.own d')) σ a↔zC env σ a:=by
 have hl:i<env.length:=(aay.mp hi).1
 constructor
 · rintro ⟨j,e,h1,h2⟩
   by_cases z:i=j
   · subst z;exact ⟨i,d,hi,h2⟩
   · rw [jq z] at h1;exact ⟨j,e,h1,h2⟩
 · rintro ⟨j,e,h1,h2⟩
   by_cases z:i=j
   · subst z;exact ⟨i,d',abu hl,h2⟩
   · exact ⟨j,e,by rw [jq z];exact h1,h2⟩
theorem EnvOk.write {K:aaa} {G:Addr->Prop} {H0 H:Hp} {env:Sl} {σ:L2.St} {i:Nat} {ds ds':List D} {a:Addr} {xs xs':List V} (k:EnvOk K G H0 env σ H) (hi:env[i]?=some (.own (.lst ds))) (ha:σ[i]?=some (some (.ref a))) (hx:H a=some (.lst xs))
   (r:Reps K (Sf G env σ) H xs' ds'):EnvOk K G H0 (env.set i (.own (.lst ds'))) σ (upd H a (.lst xs'))/\Frm env σ H (env.set i (.own (.lst ds'))) σ (upd H a (.lst xs')):=by
 have hl:i<env.length:=(aay.mp hi).1;have ow:zC env σ a:=⟨i,_,hi,ha⟩
 have st:Stay (Sf G env σ) H (upd H a (.lst xs')):=fun c o e m=>by
   rw [jT ?_]
   · exact e
   · rintro rfl;rw [hx] at e;cases e;exact (m trivial).1 ow
 have w: ∀c,Sf G env σ c->Sf G (env.set i (.own (.lst ds'))) σ c:=fun c n=>⟨fun o=>n.1 ((wZ hi).mp o),n.2⟩
 refine ⟨⟨by simp [k.len],fun c o e=>?_,k.g0,fun j d' h=>?_,fun j d' h=>?_,fun j j' d1 d2 b q1 q2 q3 q4=>?_⟩,⟨fun c o e n=>?_,fun c o=> .inl ((wZ hi).mp o),fun c e=>?_⟩⟩
 · have hc:c≠a:=by
     rintro rfl;obtain ⟨b,h1,h0,_⟩:=k.own i _ hi;rw [ha] at h1;cases h1;rw [h0] at e;cases e
   rw [jT hc];exact k.base c o e
 · by_cases z:i=j
   · subst z;obtain ⟨q,_⟩:=jA h;cases q
   · rw [jq z] at h;obtain ⟨v,h1,h2⟩:=k.shr j d' h;exact ⟨v,h1,h2.stay st w⟩
 · by_cases z:i=j
   · subst z;obtain ⟨q,_⟩:=jA h;cases q;obtain ⟨b,h1,h0,_⟩:=k.own i _ hi;rw [ha] at h1;cases h1;exact ⟨a,ha,h0,.lst jB (r.stay st w)⟩
   · rw [jq z] at h;obtain ⟨b,h1,h0,h2⟩:=k.own j d' h
     have hb:b≠a:=by
       rintro rfl;exact z (k.dis i j _ _ b hi h ha h1)
     exact ⟨b,h1,h0,h2.stay st w fun o e=>by rw [jT hb];exact e⟩
 · have real: ∀(j:Nat) (d1:D),(env.set i (.own (.lst ds')))[j]?=some (.own d1)-> ∃d0:D,env[j]?=some (.own d0):=fun j d1 q=>by
     by_cases z:i=j
     · subst z;exact ⟨_,hi⟩
     · rw [jq z] at q;exact ⟨_,q⟩
   obtain ⟨e1,z1⟩:=real j d1 q1;obtain ⟨e2,z2⟩:=real j' d2 q2;exact k.dis j j' e1 e2 b z1 z2 q3 q4
 · have hc:c≠a:=by
     rintro rfl;exact n ow
   rw [jT hc];exact e
 · by_cases hc:c=a
   · subst hc;rw [jB] at e;cases e
   · rw [jT hc] at e;exact e
theorem yu {K:aaa} {G:Addr->Prop} {H0 H:Hp} {env:Sl} {σ:L2.St} {i:Nat} {ds:List D} (k:EnvOk K G H0 env σ H) (hi:env[i]?=some (.own (.lst ds))): ∃a xs,σ[i]?=some (some (.ref a))/\H a=some (.lst xs)/\Reps K (Sf G env σ) H xs ds:=by
 obtain ⟨a,h1,h0,h2⟩:=k.own i _ hi
 cases h2 with
 |lst e r=>exact ⟨a,_,h1,e,r⟩
variable {e:Expr} {f:Sl->Res D} {l:Lv} {pos cpos apos p:Pos} {x:Str}
def ownL (i:Nat) (env:Sl):Res (List D):=match env[i]? with
 |some (.own (.lst ds))=> .ok ds
 |_=> .stuck
theorem yw {i:Nat} {env:Sl} {ds:List D} (h:ownL i env= .ok ds):env[i]?=some (.own (.lst ds)):=by
 unfold ownL at h
 split at h
 · cases h;assumption
 · cases h
def Ja (i:Nat) (f:Sl->Res D):Sl->Res Out:=fun env=>ownL i env>>=fun ds=>f env>>=fun d=>must (ds.length<aae) (.ok (.nx (env.set i (.own (.lst (ds++[d]))))))
theorem X6 (i:Nat) (he:DE X .s e f) (hN:X.N[i]?=some x:=by rfl) (hv:Vis X.env.scope x:=by first|exact abw rfl|exact aa4 (abw rfl)|exact aa4 (aa4 rfl))
   (hd:(x==("__debug__" :Str))=false:=by decide) (hcd:(x==("__classdict__" :Str))=false:=by decide)
   (hbase:abf (.Name x p) "append" X.env (eval (.Name x p) X.env)=eval (.Name x p) X.env:=by rfl)
   (hfew:((abd cpos (aal [e] X.env)).all (fun x=>!x.1)&&(acs cpos (abz [] X.env)).all (fun x=>x.1.isSome)
    &&decide ([e].length+([]:List acn).length+(if ([]:List acn).isEmpty then 0 else 1)<30))=true:=by exact x0 rfl rfl)
   (hline:(apos.endLine==cpos.line)=true:=by rfl) (hs:aal [e] X.env=(false,eval e X.env)::aal [] X.env:=by exact jl rfl) (hplain:(abd cpos (aal [] X.env)).any (·.1)=false:=by exact jK rfl)
   (hsw:ab1 (.Call (.Attribute (.Name x p) "append" apos) [e] [] cpos) none pos.line X.env=pure false:=by rfl):
   DS X (.Expr (.Call (.Attribute (.Name x p) "append" apos) [e] [] cpos) pos) (Ja i f):=by
 with_unfolding_all exact (
  PS.imp (YM (vg ab9 PySem.F.slot_list_append PySem.F.type_list_append XM (wu (i:=i) hN hv hd hcd) (j8 he wv hs) hbase hfew hline hs hplain) hsw) fun E σ H ⟨G,H0,env,o,k,ef,q⟩=>by
   obtain ⟨ds,e1,e2⟩:=jc ef;obtain ⟨d,e3,e4⟩:=jc e2;obtain ⟨hz,e5⟩:=jp e4;cases e5;have hi:=yw e1;obtain ⟨a,xs,ha,hx,rs⟩:=yu k hi;refine ⟨.ref a,ha,.inl ⟨rfl,xs,.of hx⟩,G,H0,env,d,k,e3,fun v H1 s1 r1 _=>?_⟩;have hx1:=s1 _ _ hx;refine ⟨a,xs,v,rfl,rfl,hx1,by rw [rs.length];exact hz,?_⟩;have W:=(k.grow s1).write hi ha hx1 (xs':=xs++[v]) (ds':=ds++[d]) ((rs.grow s1).append (.cons r1 .nil))
   exact q σ _ W.1 (W.2.grow s1))
def qa (i:Nat) (f:Sl->Res D):Sl->Res Out:=fun env=>ownL i env>>=fun ds=>f env>>=fun d=>match d with
 | .lst es=>must (ds.length+es.length<=aae) (.ok (.nx (env.set i (.own (.lst (ds++es))))))
 | .tup es=>must (ds.length+es.length<=aae) (.ok (.nx (env.set i (.own (.lst (ds++es))))))
 |_=> .stuck
theorem xc (i:Nat) (he:DE X .s e f) (hN:X.N[i]?=some x:=by rfl) (hv:Vis X.env.scope x:=by first|exact abw rfl|exact aa4 (abw rfl)|exact aa4 (aa4 rfl))
   (hd:(x==("__debug__" :Str))=false:=by decide) (hcd:(x==("__classdict__" :Str))=false:=by decide)
   (hbase:abf (.Name x p) "extend" X.env (eval (.Name x p) X.env)=eval (.Name x p) X.env:=by rfl)
   (hfew:((abd cpos (aal [e] X.env)).all (fun x=>!x.1)&&(acs cpos (abz [] X.env)).all (fun x=>x.1.isSome)
    &&decide ([e].length+([]:List acn).length+(if ([]:List acn).isEmpty then 0 else 1)<30))=true:=by exact x0 rfl rfl)
   (hline:(apos.endLine==cpos.line)=true:=by rfl) (hs:aal [e] X.env=(false,eval e X.env)::aal [] X.env:=by exact jl rfl) (hplain:(abd cpos (aal [] X.env)).any (·.1)=false:=by exact jK rfl)
   (hsw:ab1 (.Call (.Attribute (.Name x p) "extend" apos) [e] [] cpos) none pos.line X.env=pure false:=by rfl):
   DS X (.Expr (.Call (.Attribute (.Name x p) "extend" apos) [e] [] cpos) pos) (qa i f):=by
 with_unfolding_all exact (
  PS.imp (YM (vg ab9 adj PySem.F.type_list_extend (MtR.or vH UG) (wu (i:=i) hN hv hd hcd) (j8 he wv hs) hbase hfew hline hs hplain) hsw) fun E σ H ⟨G,H0,env,o,k,ef,q⟩=>by
   obtain ⟨ds,e1,e2⟩:=jc ef;obtain ⟨d,e3,e4⟩:=jc e2;have hi:=yw e1;obtain ⟨a,xs,ha,hx,rs⟩:=yu k hi;refine ⟨.ref a,ha,.inl ⟨rfl,xs,.of hx⟩,G,H0,env,d,k,e3,fun v H1 s1 r1 _=>?_⟩;have hx1:=s1 _ _ hx
   cases d with
   |lst es=>
    obtain ⟨hz,e5⟩:=jp e4;cases e5;obtain ⟨b,ys,rfl,hb,_,ry⟩:=r1.lstE;have ry':=ry.low;refine .inl ⟨a,b,xs,ys,rfl,rfl,hx1,hb,by rw [rs.length,ry.length];exact hz,?_⟩;have W:=(k.grow s1).write hi ha hx1 (xs':=xs++ys) (ds':=ds++es) ((rs.grow s1).append ry');exact q σ _ W.1 (W.2.grow s1)
   |tup es=>
    obtain ⟨hz,e5⟩:=jp e4;cases e5;obtain ⟨b,ys,rfl,hb,ry⟩:=r1.tupE;have ry':=ry;refine .inr ⟨a,b,xs,ys,rfl,rfl,hx1,hb,by rw [rs.length,ry.length];exact hz,?_⟩;have W:=(k.grow s1).write hi ha hx1 (xs':=xs++ys) (ds':=ds++es) ((rs.grow s1).append ry');exact q σ _ W.1 (W.2.grow s1)
   |_=>cases e4)
def popO (i:Nat) (t:D->Sl->Res Sl):Sl->Res Out:=fun env=>ownL i env>>=fun ds=>match ds.getLast? with
 |some d=>t d (env.set i (.own (.lst ds.dropLast)))>>=fun env'=> .ok (.nx env')
 |none=> .stuck
theorem jfQ (i:Nat) {tg:Expr} {t:D->Sl->Res Sl} (hg:DG X tg t) (hN:X.N[i]?=some x:=by rfl) (hv:Vis X.env.scope x:=by first|exact abw rfl|exact aa4 (abw rfl)|exact aa4 (aa4 rfl))
   (hd:(x==("__debug__" :Str))=false:=by decide) (hcd:(x==("__classdict__" :Str))=false:=by decide)
   (hbase:abf (.Name x p) "pop" X.env (eval (.Name x p) X.env)=eval (.Name x p) X.env:=by rfl) (hline:(apos.endLine==cpos.line)=true:=by rfl)
   (hs:swapsWithSole [tg] (.Call (.Attribute (.Name x p) "pop" apos) [] [] cpos) pos.line X.env=pure false:=by rfl) (hw:swappedStores [tg] (.Call (.Attribute (.Name x p) "pop" apos) [] [] cpos) X.env=pure none:=by rfl)
   (h1:(abe [tg] X.env).map (·.2)=[ad4 tg X.env]:=by rfl):DS X (.Assign [tg] (.Call (.Attribute (.Name x p) "pop" apos) [] [] cpos) pos) (popO i t):=by
 with_unfolding_all exact (
  PS.imp (jb2 (jb5 ab9 PySem.F.slot_list_pop PySem.F.type_list_pop jfk (wu (i:=i) hN hv hd hcd) hbase hline) hg hs hw h1) fun E σ H ⟨G,H0,env,o,k,ef,q⟩=>by
   obtain ⟨ds,e1,e2⟩:=jc ef;have hi:=yw e1;obtain ⟨a,xs,ha,hx,rs⟩:=yu k hi
   cases hl:ds.getLast? with
   |none=>rw [hl] at e2;cases e2
   |some d=>
    rw [hl] at e2;obtain ⟨env',e3,e4⟩:=jc e2;cases e4;rw [List.getLast?_eq_getElem?] at hl;obtain ⟨v,hv',rv⟩:=rs.get hl;have W:=k.write hi ha hx (xs':=xs.dropLast) (ds':=ds.dropLast) rs.dropLast;refine ⟨.ref a,ha,.inl ⟨rfl,xs,.of hx⟩,a,xs,v,rfl,rfl,hx,by rw [rs.length];exact hv',G,H0,_,d,env',W.1,?_,e3,fun σ' k' f'=>q σ' _ k' (W.2.trans f')⟩
    exact W.2.rep k rv)
def Yb (i:Nat):Sl->Res Out:=fun env=>ownL i env>>=fun _=> .ok (.nx (env.set i (.own (.lst []))))
theorem jbx (i:Nat) (hN:X.N[i]?=some x:=by rfl) (hv:Vis X.env.scope x:=by first|exact abw rfl|exact aa4 (abw rfl)|exact aa4 (aa4 rfl))
   (hd:(x==("__debug__" :Str))=false:=by decide) (hcd:(x==("__classdict__" :Str))=false:=by decide)
   (hbase:abf (.Name x p) "clear" X.env (eval (.Name x p) X.env)=eval (.Name x p) X.env:=by rfl) (hline:(apos.endLine==cpos.line)=true:=by rfl)
   (hsw:ab1 (.Call (.Attribute (.Name x p) "clear" apos) [] [] cpos) none pos.line X.env=pure false:=by rfl):DS X (.Expr (.Call (.Attribute (.Name x p) "clear" apos) [] [] cpos) pos) (Yb i):=by
 with_unfolding_all exact (
  PS.imp (YM (jb5 ab9 PySem.F.slot_list_clear PySem.F.type_list_clear jaN (wu (i:=i) hN hv hd hcd) hbase hline) hsw) fun E σ H ⟨G,H0,env,o,k,ef,q⟩=>by
   obtain ⟨ds,e1,e2⟩:=jc ef;cases e2;have hi:=yw e1;obtain ⟨a,xs,ha,hx,rs⟩:=yu k hi;have W:=k.write hi ha hx (xs':=[]) (ds':=[]) .nil
   exact ⟨.ref a,ha,.inl ⟨rfl,xs,.of hx⟩,a,xs,rfl,rfl,hx,q σ _ W.1 W.2⟩)
end
end M
namespace M
open PySem PySem.Spec L2
open PyProof.Rows hiding St
theorem Ya {prog:aaD} {w:World} {A:aaX} {R:Result->aaj->Prop} {s:aaj} {elt target iter:Expr} {ifs:List Expr} {scope:Scope} {pos:Pos} {it acc:Value} {env:Env} (I:Nat->aaj->Prop)
  (turn: ∀n s,I n s->wpAny (model prog w) A (pyNext it) (fun r s₁=>match r with
   |none=>R (.ok .next) s₁
   |some v=>wpAny (model prog w) A (ads target it v) (fun _ s₁'=>wpAny (model prog w) A (ad4 target env v) (fun _ s₂=>
    wpAny (model prog w) A (forIn ifs true fun c r=>if r=true then do let ok←isTrue c env (eval c env);pure (adw ok) else pure (adw r)) (fun ok s₃=>
     if ok=true then wpAny (model prog w) A (eval elt env) (fun x s₄=>
      wpAny (model prog w) A (call (.builtin "list.append") [acc,x]) (fun _ s₅=> ∃m,m<n/\I m s₅) (fun _ _=>False) s₄) (fun _ _=>False) s₃
     else∃m,m<n/\I m s₃) (fun _ _=>False) s₂) (fun _ _=>False) s₁') (fun _ _=>False) s₁) (fun _ _=>False) s)
  (n:Nat) (h:I n s):codeAny (model prog w) A (.compLoop (.ListComp elt [⟨target,iter,ifs,0⟩] scope pos) 0 it acc env) R s:=by
 refine codeAny_loop rfl I (fun n s hI=>?_) n h;show wpAny _ A ((compTurn (.ListComp elt [⟨target,iter,ifs,0⟩] scope pos) 0 it acc env).onRaise (fun x=>do noteFrame x env;theTreesLotGoes x)) _ _ s;refine wpAny_noted ?_;rw [compTurn_list];refine aab (wpAny_standAt (aab (acb (turn n s hI) (fun r s₁ h₁=>?_) fun _ _ h'=>h'.elim)))
 cases r with
 |none=>exact aak h₁
 |some v=>
  refine aab (acb h₁ (fun _ s₁' h₁'=>?_) fun _ _ h'=>h'.elim);refine aab (acb h₁' (fun _ s₂ h₂=>aab (acb h₂ (fun ok s₃ h₃=>?_) fun _ _ h'=>h'.elim)) fun _ _ h'=>h'.elim)
  cases ok with
  |false=>exact aak ⟨rfl,h₃⟩
  |true=>
   exact aab (aab (acb h₃ (fun x s₄ h₄=>aab (acb h₄ (fun _ s₅ h₅=>aak (aak ⟨rfl,h₅⟩)) fun _ _ h'=>h'.elim)) fun _ _ h'=>h'.elim))
def qA (X:Cx) (N:List Str) (scope:Scope) (cl:List (Str×Addr)) (C:Addr) (s:aaj) (H:Hp) (fp:List Addr):Cx where
 prog:=X.prog
 w:=X.w
 K:=X.K
 mg:=X.mg
 base:=X.base
 A:=X.A
 N:=N
 s₀:=s
 H₀:=H
 env:=compEnvC scope cl C X.env
 outer:=X.stack
 stack:=X.stack
 ex:=fp
 fn:=fun _=>false
 calm:=true
 pn:=[]
 xe:=fun _ _=>False
@[irreducible] def DTs (X:Cx) (ifs:List Expr) (c:Sl->Res Bool):Prop:=
 ∀(pins:List (Addr×Obj)) (s:aaj) (σ:L2.St) (H:Hp) (Q:Bool->Hp->Prop),Inv X pins σ H s->tT X.K c σ H Q->
  wpAny (model X.prog X.w) X.A (forIn ifs true fun c r=>if r=true then do let ok←isTrue c X.env (eval c X.env);pure (adw ok) else pure (adw r)) (TP X pins σ Q) X.xe s
def j4:Sl->Res Bool:=fun _=> .ok true
theorem zm {X:Cx}:DTs X [] j4:=by
 with_unfolding_all exact (fun pins s σ H Q I ⟨G,H0,env,b,k,ef,q⟩=>by
  cases ef
  exact wpAny_tests_nil ⟨H,I,q H (Same.refl H)⟩)
def zB (n:Nat) (t:D->Sl->Res Sl) (c:Sl->Res Bool) (fe:Sl->Res D):List D->Sl->Res Sl
 | [],env=> .ok env
 |d::ds,env=>t d env>>=fun env1=>c env1>>=fun b=>if b=true
  then fe env1>>=fun v=>ownL n env1>>=fun acc=>must (acc.length<aae) (zB n t c fe ds (env1.set n (.own (.lst (acc++[v])))))
  else zB n t c fe ds env1
def capS (im:Bool) (env:Sl) (j:Nat):Slot:=match env[j]? with
 |some (.shr d)=> .shr d
 |some (.own d)=>if im=true then .shr d else .un
 |_=> .un
def xh (im:Bool) (m:Nat) (js:List Nat) (env:Sl):Sl:=acw m .un++js.map (capS im env)++[.own (.lst [])]
def qz (im:Bool) (m:Nat) (js:List Nat) (fi:Sl->Res (List D)) (t:D->Sl->Res Sl) (c:Sl->Res Bool) (fe:Sl->Res D):Sl->Res D:=fun env=>
 fi env>>=fun ds=>zB (m+js.length) t c fe ds (xh im m js env)>>=fun env'=>ownL (m+js.length) env'>>=fun acc=>must (im=true->D.imms acc=true) (.ok (.lst acc))
def xg (m:Nat) (js:List Nat) (σ:L2.St) (a:Addr):L2.St:=acw m none++js.map (fun j=>(σ[j]?).join)++[some (.ref a)]
theorem zG {env:Env}: ∀ {names:List (Str×NameKind)} {x:Str} {k:NameKind},
  (names.map fun (n,k)=>if (k==act&&env.scope.kind== .function&&env.kindOf n==some .cell) then (n,acV) else (n,k)).lookup x=some k-> ∃k',(x,k')∈names/\(k=k'\/k'= .free)
 | [],_,_,h=>by simp at h
 | (n,k')::r,x,k,h=>by
  have h':abX x ((if (k'==act&&env.scope.kind== .function&&env.kindOf n==some .cell)=true then (n,acV) else (n,k'))::(r.map fun (n,k)=>if (k==act&&env.scope.kind== .function&&env.kindOf n==some .cell) then (n,acV) else (n,k)))=some k:=h
  by_cases hc:(k'==act&&env.scope.kind== .function&&env.kindOf n==some .cell)=true
  · rw [if_pos hc] at h';simp only [aaT] at h'
    cases hx:x==n with
    |true=>
     rw [hx] at h';have e:x=n:=by simpa using hx
     subst e;refine ⟨k',aa1,.inr ?_⟩;simp only [aap,beq_iff_eq] at hc;exact hc.1.1
    |false=>
     rw [hx] at h';obtain ⟨k2,h1,h2⟩:=zG h';exact ⟨k2,aaI _ h1,h2⟩
  · rw [if_neg hc] at h';simp only [aaT] at h'
    cases hx:x==n with
    |true=>
     rw [hx] at h';have e:x=n:=by simpa using hx
     subst e;cases h';exact ⟨_,aa1,.inl rfl⟩
    |false=>
     rw [hx] at h';obtain ⟨k2,h1,h2⟩:=zG h';exact ⟨k2,aaI _ h1,h2⟩
structure CompSc (X:Cx) (scope:Scope) (cl:List (Str×Addr)) (N:List Str) (m:Nat) (js:List Nat):Prop where
 clos:closureFor scope X.env=pure cl
 kind:scope.kind= .function
 names: ∀x∈scope.names,x.2= .local->scope.names.lookup x.1=some .local
 nocell: ∀y∈scope.names,y.2≠ .cell
 cls: ∀x c,cl.lookup x=some c->X.env.cells.lookup x=some c
 free: ∀y∈scope.names,y.2= .free-> ∃c,cl.lookup y.1=some c
 nd:N.Nodup
 len:N.length=m+js.length+1
 cap: ∀(k j:Nat),js[k]?=some j-> ∃y,N[m+k]?=some y/\X.N[j]?=some y/\(X.env.scope.names.lookup y=some .cell\/X.env.scope.names.lookup y=some .free)/\scope.names.lookup y=some .free
 last: ∀y,N[m+js.length]?=some y-> ∀p∈scope.names,p.1≠y
section
variable {X:Cx} {tg iter elt:Expr} {ifs:List Expr} {scope:Scope} {cl:List (Str×Addr)} {N:List Str} {m:Nat} {js:List Nat} {pos:Pos} {im:Bool}
 {fi:Sl->Res (List D)} {t:D->Sl->Res Sl} {c:Sl->Res Bool} {fe:Sl->Res D}
theorem jdO {pins:List (Addr×Obj)} {σ:L2.St} {H:Hp} {s:aaj} {C:Addr} {fp:List Addr} (S:CompSc X scope cl N m js) (hc:X.calm=true) (I:Inv X pins σ H s) (hC:s.heap.objs.size<=C) (hf: ∀b∈fp,FpOk X pins H b) (hfp: ∀b∈fp,b<s.heap.objs.size):
  (qA X N scope cl C s H fp).Ok where
 mod:=I.ok.mod
 kind:=S.kind
 glob:=I.ok.glob
 blt:=I.ok.blt
 above:=hC
 inj:=fun x y c h1 h2=>I.ok.inj x y c (S.cls x c h1) (S.cls y c h2)
 has:=fun x h=>by
  have mem: ∃k',(x,k')∈scope.names/\k'= .free:=by
    rcases h with h|h
    · obtain ⟨k',h1,h2⟩:=zG (env:=X.env) (names:=scope.names) h;rcases h2 with z|z
      · exact absurd z.symm (S.nocell _ h1)
      · exact ⟨k',h1,z⟩
    · obtain ⟨k',h1,h2⟩:=zG (env:=X.env) (names:=scope.names) h;rcases h2 with z|z
      · exact ⟨k',h1,z.symm⟩
      · exact ⟨k',h1,z⟩
  obtain ⟨k',h1,h2⟩:=mem;exact S.free _ h1 h2
 cab:=fun x c h=>by cases h
 hd:=fun _=>I.ok.hd hc
 frames:=I.ok.frames
 stk:= .inl rfl
 exf:=fun b hb=>⟨fun z=>absurd (aaB (hfp b hb) (by rw [z];exact hC)) (abU _),fun x c h=>(hf b hb).2.2.2.2.1 x c (S.cls x c h)⟩
 bs:=I.bs
 bsz:=aaC I.ok.bsz I.sz
 noex:=fun b o e hb=>by
  rcases (hf b hb).2.2.2.1 with z|z
  · exact I.ok.noex b o e z
  · exact absurd (aaB (aat e) (aaC I.ok.bsz z)) (abU _)
 exfs:=fun b hb z=>by
  rcases aah.mp (I.stkSub b z) with q|q
  · exact (hf b hb).2.1 q
  · exact (hf b hb).2.2.1 q
 funs:=I.stack
 frf:=I.stkFree
theorem uV {env:Sl} {j:Nat} {d:D} (h:capS im env j= .own d):False:=by
 unfold capS at h
 split at h
 · cases h
 · split at h<;>cases h
 · cases h
theorem UV {env:Sl} {σ:L2.St} {a b:Addr} (h:zC (xh im m js env) (xg m js σ a) b):b=a:=by
 obtain ⟨i,d,h,h2⟩:=h
 have hi:i=m+js.length:=by
  unfold xh at h
  by_cases h1:i<m
  · rw [aaU,aau (by simpa using h1),aaW] at h
    split at h<;>cases h
  · rw [aaU,aar (by simpa using h1)] at h;simp only [abF] at h
    by_cases h2:i-m<js.length
    · rw [aau (by simpa using h2),aaH] at h
      cases e:js[i-m]? with
      |none=>rw [e] at h;cases h
      |some j=>
        rw [e] at h;have h':capS im env j= .own d:=aaF h;exact (uV h').elim
    · rw [aar (by simpa using h2)] at h;simp only [aan] at h
      by_cases h3:i-m-js.length=0
      · omega
      · rw [aaO (by simp;omega)] at h;cases h
 subst hi
 have at_n:(xg m js σ a)[m+js.length]?=some (some (.ref a)):=by
  unfold xg;rw [aaU,aar (by simp),aar (by simp)];simp
 rw [at_n] at h2;cases h2;rfl
abbrev Gc (im:Bool) (G:Addr->Prop) (env:Sl) (σ:L2.St):Addr->Prop:=fun c=>G c/\(im=false-> ¬zC env σ c)
theorem jbo {K:aaa} {G:Addr->Prop} {H0 H:Hp} {env:Sl} {σ:L2.St} {a:Addr} (k:EnvOk K G H0 env σ H) (ha:H a=none):
   EnvOk K (Gc im G env σ) H (xh im m js env) (xg m js σ a) (upd H a (.lst [])):=by
 have own1: ∀(i:Nat) (d:D),(xh im m js env)[i]?=some (.own d)->i=m+js.length/\d= .lst []:=fun i d h=>by
   unfold xh at h
   by_cases h1:i<m
   · rw [aaU,aau (by simpa using h1),aaW] at h
     split at h<;>cases h
   · rw [aaU,aar (by simpa using h1)] at h;simp only [abF] at h
     by_cases h2:i-m<js.length
     · rw [aau (by simpa using h2),aaH] at h
       cases e:js[i-m]? with
       |none=>rw [e] at h;cases h
       |some j=>
         rw [e] at h;have h':capS im env j= .own d:=aaF h;exact (uV h').elim
     · rw [aar (by simpa using h2)] at h;simp only [aan] at h
       by_cases h3:i-m-js.length=0
       · rw [h3] at h;cases h;exact ⟨by omega,rfl⟩
       · rw [aaO (by simp;omega)] at h;cases h
 have at_n:(xg m js σ a)[m+js.length]?=some (some (.ref a)):=by
   unfold xg;rw [aaU,aar (by simp),aar (by simp)];simp
 have owned: ∀b,zC (xh im m js env) (xg m js σ a) b->b=a:=fun b ⟨i,d,h1,h2⟩=>by
   obtain ⟨rfl,rfl⟩:=own1 i d h1;rw [at_n] at h2;cases h2;rfl
 have sm:Same H (upd H a (.lst [])):=Same.upd ha;refine ⟨by simp [xh,xg],sm,fun c z=>⟨(k.new c z).2,fun _=>(k.new c z).1⟩,fun i d h=>?_,fun i d h=>?_,fun i j d e b h1 h2 h3 h4=>(own1 i d h1).1.trans (own1 j e h2).1.symm⟩
 · unfold xh at h
   by_cases h1:i<m
   · rw [aaU,aau (by simpa using h1),aaW] at h
     split at h<;>cases h
   · rw [aaU,aar (by simpa using h1)] at h;simp only [abF] at h
     by_cases h2:i-m<js.length
     · rw [aau (by simpa using h2),aaH] at h
       cases e:js[i-m]? with
       |none=>rw [e] at h;cases h
       |some j=>
         rw [e] at h;have h':capS im env j= .shr d:=aaF h
         have hσ:(xg m js σ a)[i]?=some ((σ[j]?).join):=by
           unfold xg;rw [aaU,aar (by simpa using h1)];simp only [abF];rw [aau (by simpa using h2),aaH,e];rfl
         have fin: ∀v,σ[j]?=some (some v)->Rep K (Gc im G env σ) H v d-> ∃v,(xg m js σ a)[i]?=some (some v)/\Rep K (Sf (Gc im G env σ) (xh im m js env) (xg m js σ a)) (upd H a (.lst [])) v d:=fun v e1 r=>by
           refine ⟨v,by rw [hσ,e1];rfl,(r.inDom.grow sm).weak fun b z=>⟨fun o=>?_,z.1⟩⟩;rw [owned b o] at z;exact z.2 ha
         unfold capS at h'
         split at h'
         · rename_i d' hd;cases h';obtain ⟨v,h3,h4⟩:=k.shr j d hd;exact fin v h3 (h4.weak fun c z=>⟨z.2,fun _=>z.1⟩)
         · rename_i d' hd
           split at h'
           · rename_i hi';cases h';obtain ⟨v,h3,h0,h4⟩:=k.own j d hd;exact fin _ h3 (h4.rep (fun c z=>⟨⟨z.2,fun _=>z.1⟩,Z8 k hd h3 c z⟩) ⟨k.g0 _ h0,fun z=>by rw [hi'] at z;cases z⟩)
           · cases h'
         · cases h'
     · rw [aar (by simpa using h2)] at h;simp only [aan] at h
       by_cases h3:i-m-js.length=0
       · rw [h3] at h;cases h
       · rw [aaO (by simp;omega)] at h;cases h
 · obtain ⟨rfl,rfl⟩:=own1 i d h;exact ⟨a,at_n,ha,.lst jB .nil⟩
theorem X9 (use:Option (Value->Sem Unit)) (Q':Value->aaj->Prop) (im:Bool) (N:List Str) (m:Nat) (js:List Nat) (S:CompSc X scope cl N m js) (hc:X.calm=true) (hi:PI X tg iter (tI X.K fi))
   (hb: ∀(C:Addr) (s:aaj) (H:Hp) (fp:List Addr),PG (qA X N scope cl C s H fp) tg (tG X.K t)/\DTs (qA X N scope cl C s H fp) ifs c/\PE (qA X N scope cl C s H fp) elt (tE X.K .s fe))
   (hs: ∀x,abL iter X.env x=pure x) {pins:List (Addr×Obj)} {s:aaj} {σ:L2.St} {H:Hp} {G:Addr->Prop} {H0:Hp} {env:Sl} {d:D} (I:Inv X pins σ H s) (k:EnvOk X.K G H0 env σ H) (ef:qz im m js fi t c fe env= .ok d)
   (hend: ∀(a C:Addr) (s':aaj) (H':Hp) (mm:Str->Option Value) (r:Flow),s'.heap.Ns C mm->(∀h',acK C s'.heap h'->Inv X pins σ H' {s' with heap:=h'})->FpOk X pins H' C->Same H H'->Rep X.K (Sf G env σ) H' (.ref a) d->NewTop H (.ref a)->compPost (model X.prog X.w) X.A X.xe use Q' (.ref a) C (.ok r) s'):
   wpAny (model X.prog X.w) X.A (comprehension (.ListComp elt [⟨tg,iter,ifs,0⟩] scope pos) scope X.env (firstIterPos [⟨tg,iter,ifs,0⟩] pos) (newList []) (firstAsync [⟨tg,iter,ifs,0⟩]) (firstIter [⟨tg,iter,ifs,0⟩] X.env) use) Q' X.xe s:=by
 with_unfolding_all exact (by
  obtain ⟨ds,e1,ef⟩:=jc ef;obtain ⟨envF,e2,ef⟩:=jc ef;obtain ⟨accF,e3,e4⟩:=jc ef;obtain ⟨himF,e4⟩:=jp e4;cases e4;refine wpAny_comprehension_free (use:=use) rfl hs S.clos S.kind S.names ?_;refine thn (hi pins s σ H (fun J H1=> ∃P,Same H H1/\jd0 X.K (Sf G env σ) H1 J ds P/\P H1/\ ∀env' σ' H',Frm env σ H1 env' σ' H'->P H') I ⟨G,H0,env,ds,k,e1,fun J H1 P a b c' d'=>⟨P,a,b,c',d'⟩⟩) fun v s1 h1=>thn h1 fun itv s2 h2=>?_
  obtain ⟨it,fp,tn,J,H2,rfl,I2,T,st2,f2,P,sm,wk,p0,pst⟩:=h2;have k2:=k.grow sm;refine abg (wpAny_newFunctionEnv S.nocell (by intro y hy;simp at hy) (fun h₁ hns₁ hsb₁=>?_) S.kind);dsimp only at hns₁ hsb₁ ⊢;have hfr:H2 s2.heap.objs.size=none:=I2.hok.fresh (aai _)
  let a:=s2.heap.objs.size
  have ha:H2 a=none:=hfr;have I3:Inv X pins σ (upd H2 a (.lst [])) {s2 with heap:=s2.heap.push {cls:= .type "list",dict:=none,data:= .seq ([]:List Value).toArray}}:=I2.lnew (t':=s2.toks) (its:=[]) .nil (abp _)
  let s3:aaj:={s2 with heap:=s2.heap.push {cls:= .type "list",dict:=none,data:= .seq ([]:List Value).toArray}}
  let C:=s3.heap.objs.size
  have f3: ∀b∈fp,FpOk X pins (upd H2 a (.lst [])) b:=fun b hb'=>by
   obtain ⟨z0,z⟩:=f2 b hb';refine ⟨?_,z⟩
   have hb2:b≠a:=by
     obtain ⟨o,ho,_⟩:=T.obj 0 _ st2 b hb';exact aaG (aat ho)
   rw [jT hb2];exact z0
  have hfp: ∀b∈fp,b<s3.heap.objs.size:=fun b hb'=>by
   obtain ⟨o,ho,_⟩:=T.obj 0 _ st2 b hb';refine aaB (aat ho) ?_;show s2.heap.objs.size<=(s2.heap.push {cls:= .type "list",dict:=none,data:= .seq ([]:List Value).toArray}).objs.size;rw [abY];exact adu _
  have XO:=jdO (C:=C) S hc I3 (aai _) f3 hfp;obtain ⟨DGt,DTc,DEe⟩:=hb C s3 (upd H2 a (.lst [])) fp;have old: ∀b o,s3.heap.get? b=some o->h₁.get? b=some o:=fun b o e=>hsb₁.extBut b o (aaG (aat e)) (aac _ e)
  have I4:Inv (qA X N scope cl C s3 (upd H2 a (.lst [])) fp) [] (xg m js σ a) (upd H2 a (.lst [])) {s2 with heap:=h₁,toks:=s2.toks+([]:List (Str×Value)).length}:=by
   refine ⟨XO,rfl,I3.bare,Un.kept old,⟨_,hns₁,fun i y v' h1 h2 h3=>?_⟩,fun y c' h=>?_,I3.hok.fresh (aai _),fun y c' h=>I3.freeC y c' (S.cls y c' h),fun p hp=>absurd hp (by simp [qA]),I3.hok.kept old,?_⟩
   · --a captured name
     have hN1:N[i]?=some y:=h1;unfold xg at h2
     by_cases q1:i<m
     · rw [aaU,aau (by simpa using q1),aaW] at h2
       split at h2<;>cases h2
     · rw [aaU,aar (by simpa using q1)] at h2;simp only [abF] at h2
       by_cases q2:i-m<js.length
       · rw [aau (by simpa using q2),aaH] at h2
         cases e:js[i-m]? with
         |none=>rw [e] at h2;cases h2
         |some j=>
           rw [e] at h2;have h2':(σ[j]?).join=some v':=aaF h2
           have hj:σ[j]?=some (some v'):=by
             cases z:σ[j]? with
             |none=>rw [z] at h2';cases h2'
             |some w'=>rw [z] at h2';simp at h2';rw [h2']
           obtain ⟨y',g1,g2,g3,g4⟩:=S.cap (i-m) j e
           have ey:y'=y:=by
             rw [show m+(i-m)=i by omega,hN1] at g1;exact (aaF g1).symm
           subst ey;obtain ⟨mm,hn,hl⟩:=I3.loc
           have vis:Vis X.env.scope y':=by
             rcases g3 with z|z
             · exact .inr (.inl z)
             · exact .inr (.inr z)
           obtain ⟨u,ru,lk⟩:=hl j y' v' g2 hj vis;refine ⟨u,ru,.inr ⟨?_,?_⟩⟩
           · rcases h3 with z|z
             · exfalso;obtain ⟨k',m1,m2⟩:=zG (env:=X.env) (names:=scope.names) z;have lk2:=S.names _ m1;rcases m2 with w'|w'
               · subst w';have:=lk2 rfl;rw [g4] at this;cases this
               · subst w'
                 have: ∀ {names:List (Str×NameKind)},names.lookup y'=some .free->(names.map fun (n,k)=>if (k==act&&X.env.scope.kind== .function&&X.env.kindOf n==some .cell) then (n,acV) else (n,k)).lookup y'≠some .local:=by
                  intro names
                  induction names with
                  |nil=>intro h;cases h
                  |cons p r ih=>
                   obtain ⟨n,kk⟩:=p;intro h h';have h'':abX y' ((if (kk==act&&X.env.scope.kind== .function&&X.env.kindOf n==some .cell)=true then (n,acV) else (n,kk))::(r.map fun (n,k)=>if (k==act&&X.env.scope.kind== .function&&X.env.kindOf n==some .cell) then (n,acV) else (n,k)))=some .local:=h';simp only [aaT] at h
                   cases hx:y'==n with
                   |true=>
                    rw [hx] at h;cases h
                    split at h''<;>simp [aaT,hx] at h''
                   |false=>
                    rw [hx] at h
                    split at h''<;>(simp only [aaT,hx] at h'';exact ih h h'')
                 exact this g4 z
             · exact z
           · rcases lk with ⟨kk,_⟩| ⟨kk,c',hc',cell'⟩
             · exfalso;have kk':X.env.scope.names.lookup y'=some .local:=kk;rcases g3 with z|z<;>(rw [z] at kk';cases kk')
             · obtain ⟨c2,hc2⟩:=S.free (y',.free) (abA g4) rfl
               have:c2=c':=by
                 have:=S.cls _ _ hc2;rw [hc'] at this;exact (aaF this).symm
               subst this;obtain ⟨o,ho,hd⟩:=cell';exact ⟨c2,hc2,o,old _ _ ho,hd⟩
       · exfalso
         have hi':i=m+js.length:=by
           have hl:i<N.length:=(aay.mp hN1).1;rw [S.len] at hl;omega
         subst hi';have no:=S.last y hN1;rcases h3 with z|z|z<;>
         · obtain ⟨k',m1,_⟩:=zG (env:=X.env) (names:=scope.names) z;exact no _ m1 rfl
   · obtain ⟨v',o,ho,hd⟩:=I3.cell y c' (S.cls y c' h);exact ⟨v',o,old _ _ ho,hd⟩
   · show (xg m js σ a).length=N.length;rw [S.len];simp [xg];omega
  have kC:EnvOk X.K (Gc im G env σ) H2 (xh im m js env) (xg m js σ a) (upd H2 a (.lst [])):=jbo k2 ha
  have fC: ∀b∈fp,FpOk (qA X N scope cl C s3 (upd H2 a (.lst [])) fp) [] (upd H2 a (.lst [])) b:=fun b hb'=>by
   obtain ⟨z0,z1,z2,z3,z4,z5⟩:=f3 b hb';exact ⟨z0,(XO.exf b hb').1,XO.exfs b hb',.inl hb',(XO.exf b hb').2,fun p hp=>absurd hp (by simp [qA])⟩
  have stC:tn 0 h₁:=T.keep 0 _ _ st2 fun b hb' o e=>old b o (aac _ e)
  have loop:codeAny (model X.prog X.w) X.A (.compLoop (.ListComp elt [⟨tg,iter,ifs,0⟩] scope pos) 0 (.ref it) (.ref a) (compEnvC scope cl C X.env))
     (compPost (model X.prog X.w) X.A X.xe use Q' (.ref a) C) {s2 with heap:=h₁,toks:=s2.toks+([]:List (Str×Value)).length}:=by
   refine Ya (fun n s'=> ∃i σ' H' env',n=ds.length+1-i/\i<=ds.length/\Inv (qA X N scope cl C s3 (upd H2 a (.lst [])) fp) [] σ' H' s'/\tn i s'.heap/\(∀b∈fp,H' b=none)/\(∀b,zC env' σ' b->b=a)/\
       EnvOk X.K (Gc im G env σ) H2 env' σ' H'/\Frm (xh im m js env) (xg m js σ a) (upd H2 a (.lst [])) env' σ' H'/\zB (m+js.length) t c fe (ds.drop i) env'= .ok envF) ?_ (ds.length+1)
     ⟨0,_,_,_,rfl,abp _,I4,stC,fun b hb'=>(fC b hb').1,?_,kC,Frm.refl (Same.refl _),by simpa using e2⟩
   · rintro n s' ⟨i,σ',H',env',rfl,hi',Ic,st,fr,hs',kc,fc,ec⟩;have hP:P H':=pst env σ H' (Frm.refl kc.base);obtain ⟨w1,w2,w3⟩:=wk i H' hP;have fpk: ∀ {H':Hp},(∀b∈fp,H' b=none)-> ∀b∈fp,FpOk (qA X N scope cl C s3 (upd H2 a (.lst [])) fp) [] H' b:=fun hn b hb'=>⟨hn b hb',(fC b hb').2⟩
     by_cases hlt:i<ds.length
     · have hd:i<ds.length:=by omega
       rw [acy hd] at ec;obtain ⟨env1,e5,ec⟩:=jc ec;obtain ⟨b,e6,ec⟩:=jc ec;refine thn (T.item (qA X N scope cl C s3 (upd H2 a (.lst [])) fp) rfl rfl rfl rfl i [] s' σ' H' (fun _ _=>False) Ic (fpk fr) st (w1 hlt)) fun r s4 ⟨u,hr,h4⟩=>?_
       subst hr;refine thn h4 fun _ s5 ⟨x,H5,I5,r5,y5,st5,fr5⟩=>?_
       have wkA: ∀b,(Sf G env σ b/\H2 b≠none)->Sf (Gc im G env σ) env' σ' b:=fun b z=>⟨fun o=>(by
         rw [hs' b o] at z
         exact z.2 ha),z.1.2,fun _=>z.1.1⟩
       obtain ⟨sm5,rd'⟩:Same H' H5/\Rep X.K (Sf (Gc im G env σ) env' σ') H5 x ds[i]:=by
         rcases w2 _ (aag hd) x H5 y5 with ⟨rfl,rd⟩| ⟨p,vs,es,hp,rfl,rfl,ed,rds⟩
         · exact ⟨Same.refl _,(rd.inDom.grow kc.base).weak wkA⟩
         · refine ⟨Same.upd hp,?_⟩;rw [ed];exact .tup jB (((rds.inDom.grow kc.base).weak wkA).grow (Same.upd hp))
       have kc5:=kc.grow sm5;have I5':=I5.pinned (fpk fr5) (T.obj _ _ st5);refine thn (DGt _ s5 σ' H5 x u (fun σ1 Hn=>Hn=H5/\EnvOk X.K (Gc im G env σ) H2 env1 σ1 H5/\Frm env' σ' H5 env1 σ1 H5) I5' r5 ⟨_,H2,env',ds[i],env1,kc5,rd',e5,fun σ1 k1 f1=>⟨rfl,k1,f1⟩⟩) fun _ s6 ⟨σ6,H6,I6,z6,k6,ff6⟩=>?_
       subst z6
       have ow6: ∀b,zC env1 σ6 b->b=a:=fun b o=>by
         rcases ff6.more b o with z|z
         · exact hs' b z
         · obtain ⟨uu,hu⟩:=k6.there o;rw [z] at hu;cases hu
       refine thn (DTc _ s6 σ6 H6 (fun b' Hn=>b'=b/\Same H6 Hn) I6 ⟨_,H2,env1,b,k6,e6,fun Hn sn=>⟨rfl,sn⟩⟩) fun ok s7 ⟨H7,I7,z7,sm7⟩=>?_
       subst z7;have k7:=k6.grow sm7;have fr7:=((fc.trans (Frm.refl sm5)).trans ff6).trans (Frm.refl sm7)
       have out: ∀ {s8:aaj} {σ8:L2.St} {H8:Hp} {env8:Sl},Inv (qA X N scope cl C s3 (upd H2 a (.lst [])) fp) ([]++Xz fp s5.heap) σ8 H8 s8->(∀b,zC env8 σ8 b->b=a)->EnvOk X.K (Gc im G env σ) H2 env8 σ8 H8->
           Frm (xh im m js env) (xg m js σ a) (upd H2 a (.lst [])) env8 σ8 H8->zB (m+js.length) t c fe (ds.drop (i+1)) env8= .ok envF->
           ∃mm,mm<ds.length+1-i/\ ∃i σ' H' env',mm=ds.length+1-i/\i<=ds.length/\Inv (qA X N scope cl C s3 (upd H2 a (.lst [])) fp) [] σ' H' s8/\tn i s8.heap/\(∀b∈fp,H' b=none)/\(∀b,zC env' σ' b->b=a)/\
             EnvOk X.K (Gc im G env σ) H2 env' σ' H'/\Frm (xh im m js env) (xg m js σ a) (upd H2 a (.lst [])) env' σ' H'/\zB (m+js.length) t c fe (ds.drop i) env'= .ok envF:=by
         intro s8 σ8 H8 env8 I8 ow8 k8 f8 e8;refine ⟨ds.length+1-(i+1),by omega,i+1,σ8,H8,env8,rfl,hlt,I8.unpinned,T.keep _ _ _ st5 fun b hb' o e=>(I8.pin (b,o) (aaV _ (aaV _ (yx hb' e)))).1,fun b hb'=>?_,ow8,k8,f8,e8⟩;obtain ⟨o,e,_⟩:=T.obj _ _ st5 b hb';exact (I8.pin (b,o) (aaV _ (aaV _ (yx hb' e)))).2.1
       cases ok with
       |false=>
         rw [if_neg aaz] at ec ⊢;exact out I7 ow6 k7 fr7 ec
       |true=>
         rw [if_pos rfl] at ec ⊢;obtain ⟨vd,e7,ec⟩:=jc ec;obtain ⟨acc,e8,ec⟩:=jc ec;obtain ⟨hz,ec⟩:=jp ec;refine thn (DEe _ s7 σ6 H7 (fun y Hn=>Same H7 Hn/\Rep X.K (Sf (Gc im G env σ) env1 σ6) Hn y vd) I7 ⟨_,H2,env1,vd,k7,e7,fun y Hn sn rn _=>⟨sn,rn⟩⟩) fun yv s8 ⟨y,H8,I8,ry,sm8,rep8⟩=>?_
         have k8:=k7.grow sm8;have hi8:=yw e8;obtain ⟨a8,xs8,ha8,hx8,rs8⟩:=yu k8 hi8;have ea:a8=a:=ow6 a8 ⟨_,_,hi8,ha8⟩;subst ea;have W:=k8.write hi8 ha8 hx8 (xs':=xs8++[y]) (ds':=acc++[vd]) (rs8.append (.cons rep8 .nil))
         refine thn (XM (X:=qA X N scope cl C s3 (upd H2 a (.lst [])) fp) _ s8 σ6 H8 (.ref a) [y] (.ref a) [yv] (fun _ Hn=>Hn=upd H8 a (.lst (xs8++[y]))) I8 rfl (.cons ry .nil)
           ⟨a,xs8,y,rfl,rfl,hx8,by rw [rs8.length];exact hz,rfl⟩) fun _ s9 ⟨_,H9,I9,_,z9⟩=>?_
         subst z9;exact out I9 (fun b o=>ow6 b ((wZ hi8).mp o)) W.1 ((fr7.trans (Frm.refl sm8)).trans W.2) ec
     · have he:i=ds.length:=by omega
       rw [ac4 (by omega)] at ec;cases ec;refine thn (T.done (qA X N scope cl C s3 (upd H2 a (.lst [])) fp) rfl rfl rfl rfl i [] s' σ' H' (fun _ _=>False) Ic (fpk fr) st (w3 (by omega))) fun r s4 ⟨hr,I5⟩=>?_
       subst hr;have hiF:=yw e3;obtain ⟨aF,xsF,haF,hxF,rsF⟩:=yu kc hiF;have ea:aF=a:=hs' aF ⟨_,_,hiF,haF⟩;subst ea;obtain ⟨mm,hn,_⟩:=I5.loc;refine hend a C s4 H' mm _ hn (fun h' hsb=>?_) (I3.fpOk (aai _) I5.free) (sm.trans kc.base) (.lst hxF (k.new a (Same.free sm ha)) ?_) (qE sm ha)
       rotate_left
       · cases him:im with
         |true=>exact rsF.imm (himF him)
         |false=>exact rsF.weak fun c z=>⟨⟨z.2.2 him,z.2.1⟩,Z8 kc hiF haF c z⟩
       have nC: ∀b o,H' b=some o->b≠C:=fun b o e z=>by
         have:=I5.free;rw [z] at e;have e':H' C=none:=this;rw [e] at e';cases e'
       have B:=I5.base;have ltC: ∀b o,s3.heap.get? b=some o->b≠C:=fun b o e=>aaG (aat e)
       have U:Un (frs X.stack) fp (upd H2 a (.lst [])) H' s3.heap h':=⟨fun b o e n hb' hx'=>(hsb.2 b (ltC b o e)).trans (B.keep b o e n hb' hx'),
         fun b o e n hb' hx'=>let ⟨sl,z⟩:=B.slot b o e n hb' hx';⟨sl,(hsb.2 b (ltC b o e)).trans z⟩,B.free,
         fun b o e hx'=>let ⟨o',z⟩:=B.there b o e hx';⟨o',(hsb.2 b (ltC b o e)).trans z⟩,B.tups,B.frzs,B.tbls⟩
       refine Inv.call' (ch:=fp) I3 I5.os U (fun b o e=>(I5.hok b o e).stay (fun c' u hc' qq=>(hsb.2 c' ?_).trans qq) (fun _ z=>z) fun _ _ z=>z) I5.bare (fun b hb'=>?_)
       · rcases hc' with z|z
         · rw [z];exact nC b o e
         · exact nC c' _ z
       · obtain ⟨z0,z1,z2,z3,z4,z5⟩:=f3 b hb';exact ⟨z3,z1,z4,z5⟩
   · exact fun b o=>UV o
  exact codeAny_compStart_list loop (T.self _ 0 _ _ _ stC loop))
theorem zN (im:Bool) (N:List Str) (m:Nat) (js:List Nat) (S:CompSc X scope cl N m js) (hc:X.calm=true) (hi:DI X tg iter fi)
   (hb: ∀(C:Addr) (s:aaj) (H:Hp) (fp:List Addr),DG (qA X N scope cl C s H fp) tg t/\DTs (qA X N scope cl C s H fp) ifs c/\DE (qA X N scope cl C s H fp) .s elt fe)
   (hs: ∀x,abL iter X.env x=pure x:=by intro _;rfl):
   DE X .t (.ListComp elt [⟨tg,iter,ifs,0⟩] scope pos) (qz im m js fi t c fe):=by
 with_unfolding_all exact (by
  intro pins s σ H Q I ⟨G,H0,env,d,k,ef,q⟩;rw [eval_ListComp]
  exact X9 none (EP X pins σ Q) im N m js S hc hi hb hs I k ef fun a C s' H' mm r hn hinv hfp sm rep nt=>⟨mm,hn,fun h' hsb=>⟨.ref a,H',hinv h' hsb,rfl,q _ H' sm rep nt⟩⟩)
theorem jbw (sl:D->Slot) (i:Nat) {x:Str} {p ps:Pos} (hW: ∀ {G:Addr->Prop} {H0 H H1:Hp} {env:Sl} {σ:L2.St} {v:V} {d:D},EnvOk X.K G H0 env σ H->Same H H1->Rep X.K (Sf G env σ) H1 v d->NewTop H v->EnvOk X.K G H0 (env.set i (sl d)) (σ.set i (some v)) H1/\Frm env σ H (env.set i (sl d)) (σ.set i (some v)) H1) (hN:X.N.Nodup) (im:Bool) (N:List Str) (m:Nat) (js:List Nat) (S:CompSc X scope cl N m js) (hc:X.calm=true) (hi:DI X tg iter fi)
   (hb: ∀(C:Addr) (s:aaj) (H:Hp) (fp:List Addr),DG (qA X N scope cl C s H fp) tg t/\DTs (qA X N scope cl C s H fp) ifs c/\DE (qA X N scope cl C s H fp) .s elt fe)
   (hxi:X.N[i]?=some x) (hx:Loc X.env.scope x) (hf:X.fn x=true\/X.env.scope.names.lookup x=some .local)
   (hsw:ab1 (.ListComp elt [⟨tg,iter,ifs,0⟩] scope pos) (some (.Name x p)) ps.line X.env=pure true) (hs: ∀x,abL iter X.env x=pure x):
   DS X (.Assign [.Name x p] (.ListComp elt [⟨tg,iter,ifs,0⟩] scope pos) ps) (fun env=>qz im m js fi t c fe env>>=fun d=> .ok (.nx (env.set i (sl d)))):=by
 with_unfolding_all exact (by
  intro pins s σ H E I ⟨G,H0,env,o,k,ef,q⟩;obtain ⟨d,e1,e2⟩:=jc ef;cases e2;rw [exec_Assign_Name_used _ _ _ _ hsw];refine aab (wpAny_standAt (aab ?_));show wpAny _ _ (do let _←comprehension (.ListComp elt [⟨tg,iter,ifs,0⟩] scope pos) scope X.env (firstIterPos [⟨tg,iter,ifs,0⟩] pos) (newList []) (firstAsync [⟨tg,iter,ifs,0⟩]) (firstIter [⟨tg,iter,ifs,0⟩] X.env) (some (ad4 (.Name x p) X.env))) _ _ s;refine aab (thn (X9 (some (ad4 (.Name x p) X.env)) (fun _ s'=>SP X pins E .next s') im N m js S hc hi hb hs I k e1 fun a C s' H' mm r hn hinv hfp sm rep nt=>?_) fun _ s' hq=>aak (aak hq));have I':Inv X pins σ H' s':=hinv s'.heap ⟨rfl,fun _ _=>rfl⟩;obtain ⟨W1,W2⟩:=hW k sm rep nt;obtain ⟨f0,f1,f2,f3,f4,f5⟩:=hfp;show wpAny _ _ (ad4 (.Name x p) X.env (.ref a)) _ _ _;refine wpAny_assign_Name (Xr I' hN hxi hx (show RelV (.ref a) (.ref a) from rfl) (fun s2 I2 hsb=>?_) hf);obtain ⟨b,hsb,hbb⟩:=hsb
  have hCb:C≠b:=by
   rcases hbb with z|z
   · rw [z];exact f1
   · exact fun e=>f4 _ _ z e.symm
  refine ⟨mm,hn.sameBut hsb hCb,fun h' hs'=>⟨_,H',?_,q _ _ W1 W2⟩⟩
  exact I2.turned (it:=C) (t':=s2.toks) (fun b o hb e=>(hs'.2 b hb).trans e) f0 f1 f3 f4 f5)
theorem jbv (i:Nat) {x:Str} {p ps:Pos} (hN:X.N.Nodup) (im:Bool) (N:List Str) (m:Nat) (js:List Nat) (S:CompSc X scope cl N m js) (hc:X.calm=true) (hi:DI X tg iter fi)
  (hb: ∀(C:Addr) (s:aaj) (H:Hp) (fp:List Addr),DG (qA X N scope cl C s H fp) tg t/\DTs (qA X N scope cl C s H fp) ifs c/\DE (qA X N scope cl C s H fp) .s elt fe)
  (hxi:X.N[i]?=some x:=by rfl) (hx:Loc X.env.scope x:=by first|exact abw rfl|exact aa4 rfl) (hf:X.fn x=true\/X.env.scope.names.lookup x=some .local:=by first|exact .inl rfl|exact .inr rfl|assumption)
  (hsw:ab1 (.ListComp elt [⟨tg,iter,ifs,0⟩] scope pos) (some (.Name x p)) ps.line X.env=pure true:=by rfl) (hs: ∀x,abL iter X.env x=pure x:=by intro _;rfl):
  DS X (.Assign [.Name x p] (.ListComp elt [⟨tg,iter,ifs,0⟩] scope pos) ps) (jW i (qz im m js fi t c fe)):=
 jbw .shr i (fun k s r nt=>⟨(k.grow s).setS r,.set s fun _ _ z _=>by cases z⟩) hN im N m js S hc hi hb hxi hx hf hsw hs
end
end M
namespace M
open PySem PySem.Spec L2
open PyProof.Rows hiding St
def qm (n:Nat) (ds:List D):Sl:=ds.map .shr++acw (n-ds.length) .un
theorem uy {K:aaa} {B:Addr->Prop} {N:List Str} {vs:List V} {ds:List D} {H:Hp} (r:Reps K B H vs ds):EnvOk K (fun a=>H a=none\/B a) H (qm N.length ds) (start N vs) H:=by
 have hl:=r.length
 have no: ∀(i:Nat) (d:D),(qm N.length ds)[i]?≠some (.own d):=fun i d h=>by
   unfold qm at h
   by_cases q:i<ds.length
   · rw [aau (by simpa using q),aaH] at h
     cases e:ds[i]? with
     |none=>rw [e] at h;cases h
     |some x=>rw [e] at h;cases h
   · rw [aar (by simpa using q),aaW] at h
     split at h<;>cases h
 refine ⟨by simp [L2.start,qm,hl],Same.refl H,fun _ z=> .inl z,fun i d h=>?_,fun i d h=>(no i d h).elim,fun i j d e a h=>(no i d h).elim⟩;unfold qm at h
 by_cases q:i<ds.length
 · rw [aau (by simpa using q),aaH] at h
   cases e:ds[i]? with
   |none=>rw [e] at h;cases h
   |some x=>
     rw [e] at h;cases h;obtain ⟨v,h1,h2⟩:=r.get e;refine ⟨v,?_,h2.weak fun a z=>⟨fun o=>?_,.inr z⟩⟩
     · unfold L2.start;rw [aau (by simp;omega),aaH,h1];rfl
     · obtain ⟨i',d',z,_⟩:=o;exact no i' d' z
 · rw [aar (by simpa using q),aaW] at h
   split at h<;>cases h
section
variable {P:aaD} {w:World} {K:aaa} {mg:Str->Option Value} {base:Heap}
def Meets (fr:Bool) (n:Nat) (g:Sl->Res Out) (ds:List D) (d:D):Prop:=(∃fr',g (qm n ds)= .ok (.rt fr' d)/\(fr=true->fr'=true))\/(d= .non/\ ∃env',g (qm n ds)= .ok (.nx env'))
theorem jdo {x qual:Str} {st:Stmt} {f:Addr} {fd:abC} {N ps:List Str} {k:Nat} {fr:Bool} {F:List D->Res D} {g:Sl->Res Out} (Fu:Fun K x qual st f fd) (S:FnScope N ps (jf st))
    (hb: ∀(cdv:Value) (A:aaX) (outer:List Env) (s:aaj) (H:Hp) (E:XK),Room k (A.deeper (acR qual (jf st) s.heap.objs.size f cdv))->DSs (cxOf CX0 P w K mg base N qual (jf st) f cdv A outer s H E).nox (ql st) g)
    (hF: ∀ds d,ds.length=ps.length->F ds= .ok d->Meets fr N.length g ds d):
    FnOk P w K mg base CX0 (k+1) f fd ps (spF K fr ps.length F):=by
 with_unfolding_all exact (by
  refine Fu.ok S (fun vs H Q E ⟨B,ds,d,hl,_⟩=>hl) (fun cdv A outer s H vs Q E hr h=>?_);obtain ⟨B,ds,d,hl,r,e,q⟩:=h;refine ⟨_,hb cdv A outer s H E hr,?_⟩;have kk:=uy (N:=N) r;rcases hF ds d (by rw [←r.length];exact hl) e with ⟨fr',z,hf⟩| ⟨rfl,env',z⟩
  · exact ⟨_,H,_,_,kk,z,fun v H' s r nt=>q v H' s r fun hh=>nt (hf hh)⟩
  · exact ⟨_,H,_,_,kk,z,fun σ' H' k' f'=>q .non H' k'.base .non fun _ a e=>by cases e⟩)
end
open PySem.W in
theorem jdS {ns:List Int} (h:WData.layableAll [WData.list (ns.map WData.int)]=true): ∀n∈ns,abB n<=2^20:=fun n hn=>by
 have h1:=layableW_arg h _ aa1;have h2:=layableW_item h1 (.int n) (aaK.mpr ⟨n,hn,rfl⟩);have h3:=(layableW_iff.mp h2).2.2;simpa only [WData.weight,abB] using h3
open PySem.W PySem.Calls Att in
theorem Kw {l:aeb} {n:Nat} {q:aaD} {loose:List Str} {XP:(Str->Option Value)->Heap->Prop} {YP:World->Heap->Prop} {d:DefRec}
  (hn:l.most=some n) (hdf:d.params.defaults=[])
  (call: ∀(w:World) (s₀ s₁:aaj) (mg mb:Str->Option Value) (fa:Addr) (o:Obj) (pm cd doc:Value) (a:Addr) (vs:List Value) (ns:List Int),
   Ground q loose [] XP w s₀ mg mb s₁.heap->YP w s₁.heap->
   s₁.heap.get? fa=some o->o.data= .func (docDef d.name d.params d.body d.scope pm cd doc)->s₁.heap.CodeRec cd d.name->mg d.name=some (.ref fa)->
   s₁.heap.get? a=some {cls:= .type "list",data:= .seq vs.toArray}->IntsAre vs ns->ns.length<=n->(∀n∈ns,abB n<=2^20)->s₁.gens= #[]->
   codeAny (model l.prog w) callerA (.call (.ref fa) ⟨[.ref a],[]⟩) (fun r s'=>r= .ok (.ret (.bool true))/\OldK s₁.heap s'.heap/\s'.os=s₁.os/\ad8 s'.gens) s₁):
  WalkO q loose XP YP l.row.toRowW d [] (fun f vs=>PySem.call f vs):=by
 intro w s₀ s₁ mg mb G Y fa o pm cd doc dV kV ho hd hcd hD hmg hg args vals as hpre hlay hrd hwl hlo;obtain rfl:dV= .none:=Dflts.none hD hdf;obtain rfl:kV= .none:=Dflts.noKw hD;obtain ⟨a,vs,ns,rfl,rfl,hobj,hints,hlen⟩:=kH hn hpre hwl;refine enter_call (codeAny_mono (call w s₀ s₁ mg mb fa o pm cd doc a vs ns G Y ho (fd_plain hd) hcd hmg hobj hints hlen (jdS hlay) hg) fun r s' hq=>?_);obtain ⟨rfl,h2,h3,h4⟩:=hq;exact ⟨.inl ⟨.bool true,.bool true,[],rfl,fun _=>rfl,.bool true,kX l _,fun _=>⟨List.Pairwise.nil,fun _ hm=>(nomatch hm)⟩⟩,h2,h3,h4⟩
theorem jaG {K:aaa} {H:Hp} {a:Addr} {xs:List V} (hO:Only H) (h:SqL K H a xs):LsK K H a xs:=by
 rcases h with (h|h)|h
 · rcases hO a with z| ⟨o,ys,z⟩
   · rw [z] at h;cases h
   · rw [z] at h;cases h
 · exact .inl h
 · exact .inr h
theorem Vl {K:aaa} {A:Addr->Prop} {H:Hp}: ∀ns:List Int,Reps K A H (ns.map V.int) (ns.map D.int)
 | []=> .nil
 |n::r=> .cons (.int n) (Vl r)
theorem walk_law {l:aeb} {n k:Nat} {q:aaD} {loose:List Str} {XP:(Str->Option Value)->Heap->Prop} {YP:World->Heap->Prop} {d:DefRec} {K:Params->aaa} {F:List D->Res D} {x:Str}
  (hn:l.most=some n) (hn2:n<=aae) (hdf:d.params.defaults=[]) (hr:Room k callerA)
  (hY: ∀(w:World) (h:Heap),YP w h->(K w.params).In h)
  (hF: ∀(w:World) (mg:Str->Option Value) (fa:Addr) (h:Heap),(K w.params).In h->h.Ns aav mg->mg d.name=some (.ref fa)->
   ∃fd:abC,(∀(s:aaj) (u:Value),BindsTo s fd ⟨[u],[]⟩ [(x,u)])/\
    ∀base:Heap,(K w.params).In base->base.Ns aav mg->FnOk l.prog w (K w.params) mg base CX0 k fa fd [x] (spF (K w.params) true 1 F))
  (ht: ∀ns:List Int,ns.length<=n->(∀i∈ns,abB i<=2^20)->F [.scr (ns.map D.int)]= .ok (.bl true)):
  PySem.W.WalkO q loose XP YP l.row.toRowW d [] (fun f vs=>PySem.call f vs):=by
 refine Kw hn hdf fun w s₀ s₁ mg mb fa o pm cd doc a vs ns G Y ho hd hcd hmg hobj hints hlen hbits hg=>?_
 have KX:=hY w _ Y;obtain ⟨fd,hb,hFn⟩:=hF w mg fa _ KX G.T.g hmg;refine jaZ KX G.T.g G.T.b G.T.builtins G.T.nolimit hg hobj hints (aaC hlen hn2) hr hFn hb (fun H hO hS=>?_) fun H e s' h=>h
 exact ⟨Any,_,_,rfl,.cons (.lsk (jaG hO hS) (Vl ns)) .nil,ht ns hlen hbits,fun v H' _ r _=>r.blE⟩
end M
namespace M
open PySem PySem.Spec L2
open PyProof.Rows hiding St
section
variable {X:Cx} {K:aaa}
def iOp (C:Int->Int->Prop) [∀i j,Decidable (C i j)] (g:Int->Int->D):D->D->Res D
 | .int i,.int j=>must (C i j) (.ok (g i j))
 |_,_=> .stuck
theorem v4 {C:Int->Int->Prop} [∀i j,Decidable (C i j)] {g:Int->Int->D} {a b d:D} (h:iOp C g a b= .ok d): ∃i j,a= .int i/\b= .int j/\C i j/\d=g i j:=by
 unfold iOp at h
 split at h
 · obtain ⟨h1,h2⟩:=jp h;cases h2;exact ⟨_,_,rfl,rfl,h1,rfl⟩
 · cases h
theorem od_I {C C':Int->Int->Prop} [∀i j,Decidable (C i j)] {h:Int->Int->V} {g:Int->Int->D} (w: ∀i j,C i j->C' i j) (r: ∀i j,Sc K (h i j) (g i j)):OpS K (rI C' h) (iOp C g):=by
 intro x y H a b d Q ra rb e q;obtain ⟨i,j,rfl,rfl,hc,rfl⟩:=v4 e;exact ⟨i,j,ra.intE,rb.intE,w i j hc,q _ (r i j)⟩
abbrev ZT:Int->Int->Prop:=fun _ _=>True
instance: ∀i j,Decidable (ZT i j):=fun _ _=>inferInstanceAs (Decidable True)
theorem jaK {h:Int->Int->V} {g:Int->Int->D} (r: ∀i j,Sc K (h i j) (g i j)):OpS K (rI0 h) (iOp ZT g):=by
 intro x y H a b d Q ra rb e q;obtain ⟨i,j,rfl,rfl,hc,rfl⟩:=v4 e;exact ⟨i,j,ra.intE,rb.intE,q _ (r i j)⟩
theorem jhM {v:V} {d:D} {H:Hp} (h:Sc K v d):NewTop H v:=fun a e=>absurd e (h.2 a)
def addD:D->D->Res D
 | .int i,.int j=> .ok (.int (i+j))
 | .str i,.str j=>must (i.length+j.length<=aae) (.ok (.str (i++j)))
 | .lst a,.lst b=>must (a.length+b.length<=aae) (.ok (.lst (a++b)))
 | .tup a,.tup b=>must (a.isEmpty=false/\a.length+b.length<=aae) (.ok (.tup (a++b)))
 |_,_=> .stuck
theorem jx:OpR X (abG .Add) (fun x y H Q=>rI0 (fun i j=> .int (i+j)) x y H Q\/(∃i j,x= .str i/\y= .str j/\i.length+j.length<=aae/\Q (.str (i++j)) H)\/rCat x y H Q\/kQ X.K x y H Q):=
 op_add.or (op_add_str.or (op_cat.or jcY))
theorem Reps.len_app {A:Addr->Prop} {H:Hp} {xs ys:List V} {a b:List D} (r:Reps K A H xs a) (s:Reps K A H ys b) (h:a.length+b.length<=aae):xs.length+ys.length<=aae:=by rw [r.length,s.length];exact h
theorem orA {A:Addr->Prop} {H:Hp}: ∀c,A c->(H c=none\/A c):=fun _ z=> .inr z
theorem jM:OpD K (fun x y H Q=>rI0 (fun i j=> .int (i+j)) x y H Q\/(∃i j,x= .str i/\y= .str j/\i.length+j.length<=aae/\Q (.str (i++j)) H)\/rCat x y H Q\/kQ K x y H Q) addD:=by
 intro A x y H a b d Q ra rb e q;unfold addD at e
 split at e
 · cases e;exact .inl ⟨_,_,ra.intE,rb.intE,q _ H (Same.refl H) (.int _) (jhM (jhv (K:=K) _))⟩
 · obtain ⟨h1,h2⟩:=jp e;cases h2;have hl: ∀i j:Str,i.length+j.length<=aae->(i++j).length<=aae:=fun i j h=>by rw [strLen_append];exact h
   exact .inr (.inl ⟨_,_,ra.strE.1,rb.strE.1,h1,q _ H (Same.refl H) (.str _ (hl _ _ h1)) (jhM (jhL (K:=K) _ (hl _ _ h1)))⟩)
 · obtain ⟨h3,h4⟩:=jp e;cases h4;obtain ⟨l,xs,rfl,hl,_,rx⟩:=ra.lstE;obtain ⟨l',ys,rfl,hl',_,ry⟩:=rb.lstE;refine .inr (.inr (.inl ⟨l,l',xs,ys,rfl,rfl,hl,hl',rx.low.len_app ry.low h3,fun p hp=>q _ _ (Same.upd hp) ?_ (qE (Same.refl H) hp)⟩));exact .lst jB (.inl hp) (((rx.low.append ry.low).laid hp).weak fun c z=>⟨.inr z.1,z.2⟩)
 · obtain ⟨⟨h3,h4⟩,h5⟩:=jp e;cases h5;obtain ⟨l,xs,rfl,hl,rx⟩:=ra.tupE;obtain ⟨l',ys,rfl,hl',ry⟩:=rb.tupE;refine .inr (.inr (.inr ⟨l,l',xs,ys,rfl,rfl,.of hl,.of hl',fun z=>?_,rx.len_app ry h4,fun z=>?_,fun z p hp=>q _ _ (Same.upd hp) ?_ (qE (Same.refl H) hp)⟩))
   · subst z;cases rx;cases h3
   · subst z;cases ry;rw [abj] at q;refine q _ H (Same.refl H) (.tup hl (rx.weak orA)) fun a e o q' m=>?_
     cases e;rw [hl] at q';cases q';exact m
   · exact .tup jB (((rx.append ry).weak orA).grow (Same.upd hp))
 · cases e
theorem vx:OpS K (rI0 fun i j=> .int (i-j)) (iOp ZT fun i j=> .int (i-j)):=jaK fun i j=>jhv _
abbrev MulC:Int->Int->Prop:=fun i j=>abB i+abB j<=134217728
theorem xS:OpR X (abG .Mult) (rI MulC fun i j=> .int (i*j)):=opI fun _ _ _ _ _ _ _ hc q=>mul_int q (IntMulOk.of_le (aai _) (aai _) hc)
theorem Qp:OpS K (rI MulC fun i j=> .int (i*j)) (iOp MulC fun i j=> .int (i*j)):=od_I (fun _ _ h=>h) fun i j=>jhv _
abbrev DivC:Int->Int->Prop:=fun _ j=>0<j/\j<1073741824
abbrev PosC:Int->Int->Prop:=fun _ j=>0<j
theorem xU:OpS K (rI (fun _ j=>0<j) fun i j=> .int (i%j)) (iOp PosC fun i j=> .int (i%j)):=od_I (fun _ _ h=>h) fun i j=>jhv _
abbrev PowC:Int->Int->Prop:=fun i j=>0<=j/\j<=1000000/\i.natAbs<2^64
theorem K6:OpS K (rI CPow fun i j=> .int (i^j.toNat)) (iOp PowC fun i j=> .int (i^j.toNat)):=od_I (fun _ _ h=>h) fun i j=>jhv _
theorem jfa:OpS K (rI0 fun i j=> .bl (decide (i<j))) (iOp ZT fun i j=> .bl (decide (i<j))):=jaK fun i j=>jho _
theorem UE:OpS K (rI0 fun i j=> .bl (decide (i<=j))) (iOp ZT fun i j=> .bl (decide (i<=j))):=jaK fun i j=>jho _
theorem jc3:OpS K (rI0 fun i j=> .bl (decide (j<i))) (iOp ZT fun i j=> .bl (decide (j<i))):=jaK fun i j=>jho _
def inS (i j:Str):Bool:=!(acO j i 0 j.length 1).isEmpty
def inD:D->D->Res D
 | .str i,.str j=> .ok (.bl (inS i j))
 |_,_=> .stuck
theorem jfb:OpS K (fun x y H Q=> ∃i j,x= .str i/\y= .str j/\Q (.bl (!(acO j i 0 j.length 1).isEmpty)) H) inD:=by
 intro x y H a b d Q ra rb e q;unfold inD at e
 split at e
 · cases e;exact ⟨_,_,ra.strE.1,rb.strE.1,q _ (jho _)⟩
 · cases e
def D.isNon:D->Bool
 | .non=>true
 |_=>false
def isN:D->D->Res D
 |a,.non=> .ok (.bl a.isNon)
 |_,_=> .stuck
def lenD:List D->Res D
 | [.lst ds]=> .ok (.int ds.length)
 | [.scr ds]=> .ok (.int ds.length)
 | [.tup ds]=> .ok (.int ds.length)
 | [.str z]=> .ok (.int z.length)
 |_=> .stuck
theorem qc:CallR X (.builtin "len") (fun xs H Q=>(∃p ys,xs=[.ref p]/\(SqL X.K H p ys\/SqT X.K H p ys)/\Q (.int ys.length) H)\/(∃z,xs=[.str z]/\z.length<=aae/\Q (.int z.length) H)):=call_len_seq.or Yf
theorem wE:jbS K (fun xs H Q=>(∃p ys,xs=[.ref p]/\(SqL K H p ys\/SqT K H p ys)/\Q (.int ys.length) H)\/(∃z,xs=[.str z]/\z.length<=aae/\Q (.int z.length) H)) lenD:=by
 intro xs H ds d Q r e q;unfold lenD at e
 split at e
 · cases e;obtain ⟨v,rfl,r1⟩:=r.one;obtain ⟨p,ys,rfl,hp,_,ry⟩:=r1.lstE;exact .inl ⟨p,ys,rfl,.inl (.of hp),by rw [ry.length];exact q _ (jhv _)⟩
 · cases e;obtain ⟨v,rfl,r1⟩:=r.one;obtain ⟨p,ys,rfl,hp,ry⟩:=r1.scrE;exact .inl ⟨p,ys,rfl,.inl hp.sql,by rw [ry.length];exact q _ (jhv _)⟩
 · cases e;obtain ⟨v,rfl,r1⟩:=r.one;obtain ⟨p,ys,rfl,hp,ry⟩:=r1.tupE;exact .inl ⟨p,ys,rfl,.inr (.of hp),by rw [ry.length];exact q _ (jhv _)⟩
 · cases e;obtain ⟨v,rfl,r1⟩:=r.one;obtain ⟨rfl,hz⟩:=r1.strE;exact .inr ⟨_,rfl,hz,q _ (jhv _)⟩
 · cases e
def yF:List D->Res D
 | [.lst ds]=>(.ok (.tup ds))
 | [.tup ds]=>(.ok (.tup ds))
 |_=> .stuck
theorem kg {H:Hp} {p:Addr} {xs:List V} (h:H p=some (.tup xs)):NewTop H (.ref p):=fun a e o q m=>by
 cases e;rw [h] at q;cases q;exact m
theorem JG:Yo K (fun xs H Q=> ∃p ys,xs=[.ref p]/\((SqL K H p ys/\ ∀l,H l=none->Q (.ref l) (upd H l (.tup ys)))\/(SqT K H p ys/\Q (.ref p) H))) yF:=by
 intro A xs H ds d Q r e q;unfold yF at e
 split at e
 · cases e;obtain ⟨v,rfl,r1⟩:=r.one;obtain ⟨p,ys,rfl,hp,_,ry⟩:=r1.lstE;exact ⟨p,ys,rfl,.inl ⟨.of hp,fun l hl=>q _ _ (Same.upd hl) (.tup jB ((ry.low.weak orA).grow (Same.upd hl))) (qE (Same.refl H) hl)⟩⟩
 · cases e;obtain ⟨v,rfl,r1⟩:=r.one;obtain ⟨p,ys,rfl,hp,ry⟩:=r1.tupE;exact ⟨p,ys,rfl,.inr ⟨.of hp,q _ H (Same.refl H) (.tup hp (ry.weak orA)) (kg hp)⟩⟩
 · cases e
def Kd:List D->Res D
 | [.lst ds]=>(.ok (.lst ds))
 | [.tup ds]=>(.ok (.lst ds))
 |_=> .stuck
theorem Kt:Yo K (fun xs H Q=> ∃p ys,xs=[.ref p]/\(SqL K H p ys\/SqT K H p ys)/\ ∀l,H l=none->Q (.ref l) (upd H l (.lst ys))) Kd:=by
 intro A xs H ds d Q r e q;unfold Kd at e
 split at e
 · cases e;obtain ⟨v,rfl,r1⟩:=r.one;obtain ⟨p,ys,rfl,hp,_,ry⟩:=r1.lstE;exact ⟨p,ys,rfl,.inl (.of hp),fun l hl=>q _ _ (Same.upd hl) (.lst jB (.inl hl) ((ry.low.laid hl).weak fun c z=>⟨.inr z.1,z.2⟩)) (qE (Same.refl H) hl)⟩
 · cases e;obtain ⟨v,rfl,r1⟩:=r.one;obtain ⟨p,ys,rfl,hp,ry⟩:=r1.tupE;exact ⟨p,ys,rfl,.inr (.of hp),fun l hl=>q _ _ (Same.upd hl) (.lst jB (.inl hl) ((ry.laid hl).weak fun c z=>⟨.inr z.1,z.2⟩)) (qE (Same.refl H) hl)⟩
 · cases e
def tyN:D->Option String
 | .non=>some "NoneType"
 | .bl _=>some "bool"
 | .int _=>some "int"
 | .str _=>some "str"
 | .tup _=>some "tuple"
 | .lst _=>some "list"
 | .scr _=>none
 | .dic _ _=>some "dict"
 | .dit _ _=>some "dict"
 | .exn _=>none
 | .fdc _ _=>none
 | .hdc _ _=>none
 | .obj _ _ _=>none
theorem jgd {A:Addr->Prop} {H:Hp} {v:V} {d:D} {n:String} (r:Rep K A H v d) (h:tyN d=some n):TyOf K H v (.type n):=by
 cases r with
 |non=>cases h;exact .non
 |bl b=>cases h;exact .bl b
 |int i=>cases h;exact .int i
 |str x _=>cases h;exact .str x
 |tup e _=>cases h;exact .tup e
 |lst e _ _=>cases h;exact .lst e
 |lsk _ _=>cases h
 |dic e _ _ _ _=>cases h;exact .dK e
 |dit e _ _ _ _=>cases h;exact .dT e
 |exn _ _ _=>cases h
 |fdc _ _ _ _=>cases h
 |hdc _ _ _ _=>cases h
 |obj _ _ _ _ _=>cases h
def isTy (T n:String):Bool:=n==T|| (T== "int" &&n== "bool")
def IsTy (T:String):Prop:= ∀(K:aaa) (n:String),n∈["NoneType", "bool", "int", "str", "tuple", "list", "dict"]->abK K (.type n) (.type T)=some (isTy T n)
theorem jd5 {d:D} {n:String} (h:tyN d=some n):n∈["NoneType", "bool", "int", "str", "tuple", "list", "dict"]:=by
 cases d<;>first| (cases h;done)| (cases h;decide)
theorem Zn {T:String} (h: ∀(K:aaa),abK K (.type "NoneType") (.type T)=some (isTy T "NoneType")/\abK K (.type "bool") (.type T)=some (isTy T "bool")/\abK K (.type "int") (.type T)=some (isTy T "int")/\
  abK K (.type "str") (.type T)=some (isTy T "str")/\abK K (.type "tuple") (.type T)=some (isTy T "tuple")/\abK K (.type "list") (.type T)=some (isTy T "list")/\abK K (.type "dict") (.type T)=some (isTy T "dict")):IsTy T:=by
 intro K n hn;obtain ⟨h1,h2,h3,h4,h5,h6,h7⟩:=h K;simp only [aah,aaq,or_false] at hn;rcases hn with rfl|rfl|rfl|rfl|rfl|rfl|rfl<;>assumption
theorem Vk:IsTy "int" :=Zn fun K=>⟨rfl,rfl,rfl,rfl,rfl,rfl,rfl⟩
theorem XT:IsTy "bool" :=Zn fun K=>⟨rfl,rfl,rfl,rfl,rfl,rfl,rfl⟩
theorem ja7:IsTy "str" :=Zn fun K=>⟨rfl,rfl,rfl,rfl,rfl,rfl,rfl⟩
theorem qi:IsTy "tuple" :=Zn fun K=>⟨rfl,rfl,rfl,rfl,rfl,rfl,rfl⟩
theorem XS:IsTy "list" :=Zn fun K=>⟨rfl,rfl,rfl,rfl,rfl,rfl,rfl⟩
def isiD (T:String) (d:D):Res D:=match tyN d with
 |some n=> .ok (.bl (isTy T n))
 |none=> .stuck
theorem jbK (T:String) (h:IsTy T):CallR X (.builtin "isinstance") (fun xs H Q=> ∃x d,xs=[x,.ty T]/\Rep X.K Any H x d/\ ∃b,isiD T d= .ok (.bl b)/\Q (.bl b) H):=by
 intro pins s σ H xs us Q I r ⟨x,d,ex,rp,b,e,q⟩;subst ex;obtain ⟨u,w',rfl,r1,r2⟩:=jae r;cases (show w'=ac5 T from r2);unfold isiD at e
 split at e
 · rename_i n hn;cases e;refine vW I r1 (jgd rp hn) (h X.K n (jd5 hn)) fun tk=>⟨.bl _,H,I.tok tk,rfl,q⟩
 · cases e
def isiF (T:String) (f:Sl->Res D):Sl->Res D:=fun env=>f env>>=isiD T
theorem zE (T:String) (Ty:Str) {l l':Lv} {e:Expr} {f:Sl->Res D} {p p2 pos:Pos} (ht:IsTy T) (he:DE X l e f) (hg:Gl X "isinstance") (hm:X.mg "isinstance" =none) (hg2:Gl X Ty) (hm2:X.mg Ty=none) (hv:abl Ty=some (.type T))
   (hn:Ty≠ "__name__" :=by decide) (hd:(Ty==("__debug__" :Str))=false:=by decide) (hs:aal [e,.Name Ty p2] X.env=(false,eval e X.env)::aal [.Name Ty p2] X.env:=by exact jl rfl)
   (hs2:aal [.Name Ty p2] X.env=(false,eval (.Name Ty p2) X.env)::aal [] X.env:=by exact jl rfl) (hpl:(abd pos (aal [.Name Ty p2] X.env)).any (·.1)=false:=by exact jK rfl):
   DE X l' (.Call (.Name "isinstance" p) [e,.Name Ty p2] [] pos) (isiF T f):=by
 with_unfolding_all exact (
  PE.imp (QB (jbK T ht) hg hm boot_isinstance (j8 he (j8 (jcS (v:= .ty T) hg2 hm2 hv rfl hn hd) wv hs2) hs) (by decide) (by decide) hs hpl) fun σ H Q ⟨G,H0,env,d,k,ef,q⟩=>by
   obtain ⟨a,e1,e2⟩:=jc ef;refine ⟨G,H0,env,a,k,e1,fun v H' s r _=>?_⟩
   have hb: ∃b,d= .bl b:=by
    unfold isiD at e2
    split at e2
    · cases e2;exact ⟨_,rfl⟩
    · cases e2
   obtain ⟨b,rfl⟩:=hb
   exact ⟨v,a,rfl,r.weak Lv.weak_b,b,e2,q _ H' s (.bl b) (jho (K:=X.K) b).T⟩)
def ZS:List D->Option (List Bool)
 | []=>some []
 | .bl b::r=>(ZS r).map (b:: ·)
 |_=>none
theorem Yi: ∀ {ds:List D} {bs:List Bool},ZS ds=some bs->ds=bs.map D.bl
 | [],bs,h=>by cases h;rfl
 |d::r,bs,h=>by
  cases d with
  |bl b=>
   simp only [ZS,Option.map_eq_some_iff] at h;obtain ⟨bs',h1,rfl⟩:=h;rw [Yi h1];rfl
  |_=>cases h
theorem jbM (bs:List Bool):ZS (bs.map D.bl)=some bs:=by
 induction bs with
 |nil=>rfl
 |cons b r ih=>simp [ZS,ih]
def allD:List D->Res D
 | [.lst ds]=>match ZS ds with
  |some bs=> .ok (.bl (bs.all id))
  |none=> .stuck
 |_=> .stuck
theorem Z3 {A:Addr->Prop} {H:Hp}: ∀ {bs:List Bool} {xs:List V},Reps K A H xs (bs.map D.bl)->xs=bs.map V.bl
 | [],_,.nil=>rfl
 |b::bs,_,.cons h t=>by rw [h.blE,Z3 t];rfl
theorem ZY: ∀ {bs:List Bool} {us:List Value},Vals (bs.map V.bl) us->us=bs.map acr
 | [],_,.nil=>rfl
 |b::bs,_,.cons h t=>by
  rw [ZY t];have:_=acr b:=h;rw [this];rfl
theorem JH (hc:X.calm=true):CallR X (.builtin "all") (fun xs H Q=> ∃(p:Addr) (bs:List Bool),xs=[.ref p]/\SqL X.K H p (bs.map V.bl)/\Q (.bl (bs.all id)) H):=by
 intro pins s σ H xs us Q I r ⟨p,bs,ex,hq,q⟩;subst ex;obtain ⟨u,rfl,ru⟩:=QQ r;cases ru;obtain ⟨its,rv,pl,hz⟩:=I.list hq;have hits:=ZY rv;subst hits;refine call_all_walk (wpAny_pyIter_list pl.isList ?_)
 have hne:p≠s.heap.objs.size:=by
   obtain ⟨o,n,e,_⟩:=pl;exact aaG (aat e)
 refine ⟨s.heap.objs.size,_,_,_,_,_,fun i=>(bs[i]?).getD true,rfl,Walks.list (show X.A.in1.handled=none from I.ok.hd hc) s.heap.objs.size p hne (bs.map acr).toArray,⟨⟨_,aam _ rfl,rfl,rfl⟩,pl.isList.at fun o e=>aac _ e⟩,?_,fun h' tk kk=>?_⟩
 · intro i v s' Q' E' hP hQ;have hP':(bs.map acr)[i]?=some v:=by simpa using hP
   rw [aaH] at hP'
   cases e:bs[i]? with
   |none=>rw [e] at hP';cases hP'
   |some b=>
    rw [e] at hP';cases hP';dsimp only at hQ;rw [e] at hQ;exact abm hQ
 · have hn:(bs.map acr).toArray.size=bs.length:=by simp
   have e:((abx (bs.map acr).toArray.size).all fun i=>(bs[i]?).getD true)=bs.all id:=by
    rw [hn,Bool.eq_iff_iff,abb,abb]
    constructor
    · intro hh b hb;obtain ⟨i,hi,rfl⟩:=List.mem_iff_getElem.mp hb;have:=hh i (abJ.mpr hi);rw [aag hi] at this;exact this
    · intro hh i hi;have hi':=abJ.mp hi;rw [aag hi'];exact hh _ (abT hi')
   rw [e];refine ⟨.bl _,H,?_,rfl,q⟩
   exact I.kept (t':=tk) fun b o e=>kk b o (by
    intro z;have hb:b=s.heap.objs.size:=by simpa using z
    exact absurd (aat e) (by rw [hb];exact abU _)) (aac _ e)
theorem VW:jbS K (fun xs H Q=> ∃(p:Addr) (bs:List Bool),xs=[.ref p]/\SqL K H p (bs.map V.bl)/\Q (.bl (bs.all id)) H) allD:=by
 intro xs H ds d Q r e q;unfold allD at e
 split at e
 · split at e
   · rename_i bs hbs;cases e;obtain ⟨v,rfl,r1⟩:=r.one;obtain ⟨p,ys,rfl,hp,_,ry⟩:=r1.lstE;rw [Yi hbs] at ry;have:=Z3 ry;subst this;exact ⟨p,bs,rfl,.of hp,q _ (jho _)⟩
   · cases e
 · cases e
end
end M
namespace M
open PySem PySem.Spec L2
open PyProof.Rows hiding St
open PySem.SeqAt (EqAt RcAt RcNeAt)
mutual
theorem D.ind {P:D->Prop} (h0:P .non) (h1: ∀b,P (.bl b)) (h2: ∀i,P (.int i)) (h3: ∀x,P (.str x)) (h4: ∀ds,(∀d∈ds,P d)->P (.tup ds)) (h5: ∀ds,(∀d∈ds,P d)->P (.lst ds))
  (h6: ∀ds,(∀d∈ds,P d)->P (.scr ds)) (h7:(∀ks ds,(∀d∈ds,P d)->P (.dic ks ds))/\(∀ks ds,(∀d∈ds,P d)->P (.dit ks ds))/\(∀c,P (.exn c))/\(∀ks ds,(∀d∈ds,P d)->P (.fdc ks ds))/\(∀ks ds,(∀d∈ds,P d)->P (.hdc ks ds))/\ ∀c ns ds,(∀d∈ds,P d)->P (.obj c ns ds)): ∀d,P d
 | .non=>h0
 | .bl b=>h1 b
 | .int i=>h2 i
 | .str x=>h3 x
 | .tup ds=>h4 ds (D.inds h0 h1 h2 h3 h4 h5 h6 h7 ds)
 | .lst ds=>h5 ds (D.inds h0 h1 h2 h3 h4 h5 h6 h7 ds)
 | .scr ds=>h6 ds (D.inds h0 h1 h2 h3 h4 h5 h6 h7 ds)
 | .dic ks ds=>h7.1 ks ds (D.inds h0 h1 h2 h3 h4 h5 h6 h7 ds)
 | .dit ks ds=>h7.2.1 ks ds (D.inds h0 h1 h2 h3 h4 h5 h6 h7 ds)
 | .exn c=>h7.2.2.1 c
 | .fdc ks ds=>h7.2.2.2.1 ks ds (D.inds h0 h1 h2 h3 h4 h5 h6 h7 ds)
 | .hdc ks ds=>h7.2.2.2.2.1 ks ds (D.inds h0 h1 h2 h3 h4 h5 h6 h7 ds)
 | .obj c ns ds=>h7.2.2.2.2.2 c ns ds (D.inds h0 h1 h2 h3 h4 h5 h6 h7 ds)
theorem D.inds {P:D->Prop} (h0:P .non) (h1: ∀b,P (.bl b)) (h2: ∀i,P (.int i)) (h3: ∀x,P (.str x)) (h4: ∀ds,(∀d∈ds,P d)->P (.tup ds)) (h5: ∀ds,(∀d∈ds,P d)->P (.lst ds))
  (h6: ∀ds,(∀d∈ds,P d)->P (.scr ds)) (h7:(∀ks ds,(∀d∈ds,P d)->P (.dic ks ds))/\(∀ks ds,(∀d∈ds,P d)->P (.dit ks ds))/\(∀c,P (.exn c))/\(∀ks ds,(∀d∈ds,P d)->P (.fdc ks ds))/\(∀ks ds,(∀d∈ds,P d)->P (.hdc ks ds))/\ ∀c ns ds,(∀d∈ds,P d)->P (.obj c ns ds)): ∀ds:List D,∀d∈ds,P d
 | [],_,h=>by cases h
 |x::r,d,h=>by
  have p:=D.ind h0 h1 h2 h3 h4 h5 h6 h7 x;have q:=D.inds h0 h1 h2 h3 h4 h5 h6 h7 r;rcases aah.mp h with z|z
  · rw [z];exact p
  · exact q d z
end
mutual
def D.dep:D->Nat
 | .tup ds=>D.deps ds+1
 | .lst ds=>D.deps ds+1
 |_=>0
def D.deps:List D->Nat
 | []=>0
 |d::ds=>max (D.dep d) (D.deps ds)
end
mutual
def D.eqb:D->Bool
 | .scr _=>false
 | .dic _ _=>false
 | .dit _ _=>false
 | .exn _=>false
 | .fdc _ _=>false
 | .hdc _ _=>false
 | .obj _ _ _=>false
 | .tup ds=>D.eqbs ds
 | .lst ds=>D.eqbs ds
 |_=>true
def D.eqbs:List D->Bool
 | []=>true
 |d::ds=>D.eqb d&&D.eqbs ds
end
mutual
def eqD:D->D->Bool
 | .non,.non=>true
 | .bl a,.bl b=>a==b
 | .bl a,.int j=>(if a then 1 else 0)==j
 | .int i,.bl b=>i==(if b then 1 else 0)
 | .int i,.int j=>i==j
 | .str x,.str y=>x==y
 | .tup a,.tup b=>eqDs a b
 | .lst a,.lst b=>eqDs a b
 |_,_=>false
def eqDs:List D->List D->Bool
 | [],[]=>true
 |a::as,b::bs=>eqD a b&&eqDs as bs
 |_,_=>false
end
theorem JE: ∀ {ds:List D} {d:D},d∈ds->D.dep d<=D.deps ds
 |x::r,d,h=>by
  simp only [D.deps];rcases aah.mp h with rfl|h
  · omega
  · have:=JE h;omega
theorem W6: ∀ {ds:List D} {d:D},D.eqbs ds=true->d∈ds->D.eqb d=true
 |x::r,d,hb,h=>by
  simp only [D.eqbs,aap] at hb;rcases aah.mp h with rfl|h
  · exact hb.1
  · exact W6 hb.2 h
theorem yc: ∀ {ds:List D},(∀d∈ds,D.eqb d=true->eqD d d=true)->D.eqbs ds=true->eqDs ds ds=true
 | [],_,_=>by simp [eqDs]
 |d::ds,h,hb=>by
  simp only [D.eqbs,aap] at hb;simp only [eqDs,aap];exact ⟨h d aa1 hb.1,yc (fun x hx=>h x (aaI _ hx)) hb.2⟩
theorem W7 (d:D):D.eqb d=true->eqD d d=true:=by
 refine D.ind (P:=fun d=>D.eqb d=true->eqD d d=true) ?_ ?_ ?_ ?_ ?_ ?_ ?_ ?_ d
 · intro _;simp [eqD]
 · intro b _;simp [eqD]
 · intro i _;simp [eqD]
 · intro x _;simp [eqD]
 · intro ds ih hb;simp only [eqD];exact yc ih (by simpa only [D.eqb] using hb)
 · intro ds ih hb;simp only [eqD];exact yc ih (by simpa only [D.eqb] using hb)
 · intro ds ih hb;simp [D.eqb] at hb
 · exact ⟨by intro ks ds ih hb;simp [D.eqb] at hb,by intro ks ds ih hb;simp [D.eqb] at hb,by intro c hb;simp [D.eqb] at hb,by intro ks ds ih hb;simp [D.eqb] at hb,by intro ks ds ih hb;simp [D.eqb] at hb,by intro c ns ds ih hb;simp [D.eqb] at hb⟩
section
variable {K:aaa} {H:Hp}
theorem Reps.inj_of: ∀ {A A':Addr->Prop} {vs:List V} {ds ds':List D},(∀d∈ds,∀(A A':Addr->Prop) v d',D.eqb d=true->D.eqb d'=true->Rep K A H v d->Rep K A' H v d'->d=d')->D.eqbs ds=true->D.eqbs ds'=true->Reps K A H vs ds->Reps K A' H vs ds'->ds=ds'
 |_,_,_,_,_,_,_,_,.nil,.nil=>rfl
 |_,_,_,_,_,h,hb,hb',.cons r t,.cons r' t'=>by
  simp only [D.eqbs,aap] at hb hb';rw [h _ aa1 _ _ _ _ hb.1 hb'.1 r r',Reps.inj_of (fun d hd=>h d (aaI _ hd)) hb.2 hb'.2 t t']
theorem Rep.inj (d:D): ∀(A A':Addr->Prop) v d',D.eqb d=true->D.eqb d'=true->Rep K A H v d->Rep K A' H v d'->d=d':=by
 refine D.ind (P:=fun d=> ∀(A A':Addr->Prop) v d',D.eqb d=true->D.eqb d'=true->Rep K A H v d->Rep K A' H v d'->d=d') ?_ ?_ ?_ ?_ ?_ ?_ ?_ ?_ d
 · intro A A' v d' _ _ r r';cases r.nonE;cases r';rfl
 · intro b A A' v d' _ _ r r';cases r.blE;cases r';rfl
 · intro b A A' v d' _ _ r r';cases r.intE;cases r';rfl
 · intro b A A' v d' _ _ r r';cases r.strE.1;cases r';rfl
 · intro ds ih A A' v d' hb hd' r r';obtain ⟨a,xs,rfl,ha,rs⟩:=r.tupE;have hb':D.eqbs ds=true:=by simpa only [D.eqb] using hb
   cases r' with
   |tup e rs'=>
    rw [ha] at e;cases e;rw [Reps.inj_of ih hb' (by simpa only [D.eqb] using hd') rs rs']
   |lst e _ _=>rw [ha] at e;cases e
   |lsk e _=>simp [D.eqb] at hd'
   |dic e _ _ _ _=>rw [ha] at e;cases e
   |dit e _ _ _ _=>rw [ha] at e;cases e
   |exn e _ _=>rw [ha] at e;cases e
   |fdc e _ _ _=>rcases e with ⟨e,_⟩| ⟨o,e⟩<;>(rw [ha] at e;cases e)
   |hdc e _ _ _=>obtain ⟨o,e⟩:=e;rw [ha] at e;cases e
   |obj e _ _ _ _=>rw [ha] at e;cases e
 · intro ds ih A A' v d' hb hd' r r';obtain ⟨a,xs,rfl,ha,_,rs⟩:=r.lstE;have hb':D.eqbs ds=true:=by simpa only [D.eqb] using hb
   cases r' with
   |tup e rs'=>rw [ha] at e;cases e
   |lst e _ rs'=>
    rw [ha] at e;cases e;rw [Reps.inj_of ih hb' (by simpa only [D.eqb] using hd') rs rs']
   |lsk e _=>simp [D.eqb] at hd'
   |dic e _ _ _ _=>rw [ha] at e;cases e
   |dit e _ _ _ _=>rw [ha] at e;cases e
   |exn e _ _=>rw [ha] at e;cases e
   |fdc e _ _ _=>rcases e with ⟨e,_⟩| ⟨o,e⟩<;>(rw [ha] at e;cases e)
   |hdc e _ _ _=>obtain ⟨o,e⟩:=e;rw [ha] at e;cases e
   |obj e _ _ _ _=>rw [ha] at e;cases e
 · intro ds ih A A' v d' hb;simp [D.eqb] at hb
 · exact ⟨by intro ks ds ih A A' v d' hb;simp [D.eqb] at hb,by intro ks ds ih A A' v d' hb;simp [D.eqb] at hb,by intro c A A' v d' hb;simp [D.eqb] at hb,by intro ks ds ih A A' v d' hb;simp [D.eqb] at hb,by intro ks ds ih A A' v d' hb;simp [D.eqb] at hb,by intro c ns ds ih A A' v d' hb;simp [D.eqb] at hb⟩
end
def ux (a b:List D) (j:Nat):Bool:=match a[j]?,b[j]? with
 |some x,some y=>eqD x y
 |_,_=>true
theorem yC: ∀(a b:List D),a.length=b.length->eqDs a b=(abx a.length).all (ux a b)
 | [],[],_=>by simp [eqDs]
 |x::a,y::b,h=>by
  have hl:a.length=b.length:=by simpa using h
  rw [aad,List.range_succ_eq_map,adl,List.all_map];simp only [eqDs];rw [yC a b hl];congr 1
theorem JC: ∀(a b:List D),a.length≠b.length->eqDs a b=false
 | [],[],h=>absurd rfl h
 | [],y::b,_=>by simp [eqDs]
 |x::a,[],_=>by simp [eqDs]
 |x::a,y::b,h=>by
  simp only [eqDs];rw [JC a b (by simpa using h),Bool.and_false]
theorem VA (a b:List D):eqDs a b=((abx (min a.length b.length)).all (ux a b)&&a.length==b.length):=by
 by_cases h:a.length=b.length
 · rw [yC a b h,h];simp
 · rw [JC a b h];simp [h]
section
variable {X:Cx} {pins:List (Addr×Obj)} {σ:L2.St} {H:Hp} {s:aaj}
inductive Cm (X:Cx) (H:Hp) (s:aaj):Value->D->Prop where
 |non:Cm X H s .none .non
 |bl (b:Bool):Cm X H s (.bool b) (.bl b)
 |int (i:Int) (t:Tok):Cm X H s (.int i t) (.int i)
 |str (x:Str) (t:Tok):Cm X H s (.str x t) (.str x)
 |tup {a:Addr} {xs:List V} {its:List Value} {ds:List D}:H a=some (.tup xs)->s.heap.IsTuple a its.toArray->Vals xs its->Reps X.K Any H xs ds->Cm X H s (.ref a) (.tup ds)
 |lst {a:Addr} {xs:List V} {its:List Value} {ds:List D}:H a=some (.lst xs)->s.heap.IsList a its.toArray->Vals xs its->Reps X.K Any H xs ds->Cm X H s (.ref a) (.lst ds)
theorem JF (I:Inv X pins σ H s) {v:V} {u:Value} {d:D} (r:Rep X.K Any H v d) (ru:RelV v u) (hb:D.eqb d=true):Cm X H s u d:=by
 cases r with
 |non=>cases ru;exact .non
 |bl b=>cases ru;exact .bl b
 |int i=>obtain ⟨t,rfl⟩:=ru;exact .int i t
 |str x _=>obtain ⟨t,rfl⟩:=ru;exact .str x t
 |tup e rs=>
  cases ru;obtain ⟨its,rv,p,hz⟩:=I.tuple (.of e);exact .tup e p rv rs
 |lst e _ rs=>
  cases ru;obtain ⟨its,rv,p,hz⟩:=I.list (.of e);exact .lst e p.isList rv rs.low
 |lsk _ _=>simp [D.eqb] at hb
 |dic _ _ _ _ _=>simp [D.eqb] at hb
 |dit _ _ _ _ _=>simp [D.eqb] at hb
 |exn _ _ _=>simp [D.eqb] at hb
 |fdc _ _ _ _=>simp [D.eqb] at hb
 |hdc _ _ _ _=>simp [D.eqb] at hb
 |obj _ _ _ _ _=>simp [D.eqb] at hb
theorem jbq {A:aaX} {xs ys:List V} {its its2:List Value} {a b:List D} (ra:Reps X.K Any H xs a) (rb:Reps X.K Any H ys b) (va:Vals xs its) (vb:Vals ys its2)
  (ih: ∀d∈a,∀(v v':V) (u u':Value) (d':D),Rep X.K Any H v d->RelV v u->Rep X.K Any H v' d'->RelV v' u'->D.eqb d=true->D.eqb d'=true->EqAt A.in1 s u u' (eqD d d')) (ha:D.eqbs a=true) (hb:D.eqbs b=true):
  ∀j (h1:j<its.toArray.size) (h2:j<its2.toArray.size),EqAt A.in1 s its.toArray[j] its2.toArray[j] (ux a b j):=by
 intro j h1 h2;have l1:=va.length;have l2:=vb.length;have l3:=ra.length;have l4:=rb.length;have j1:j<a.length:=by simp at h1;omega
 have j2:j<b.length:=by simp at h2;omega
 obtain ⟨v,e1,r1⟩:=ra.get (aag j1);obtain ⟨v',e2,r2⟩:=rb.get (aag j2);obtain ⟨u,e3,r3⟩:=va.get e1;obtain ⟨u',e4,r4⟩:=vb.get e2
 have g1:its.toArray[j]=u:=by
  have:=aay.mp e3;obtain ⟨_,q⟩:=this;simpa using q
 have g2:its2.toArray[j]=u':=by
  have:=aay.mp e4;obtain ⟨_,q⟩:=this;simpa using q
 rw [g1,g2];have e:ux a b j=eqD a[j] b[j]:=by unfold ux;rw [aag j1,aag j2]
 rw [e];exact ih _ (abT j1) v v' u u' _ r1 r3 r2 r4 (W6 ha (abT j1)) (W6 hb (abT j2))
theorem VC (I:Inv X pins σ H s) (d:D): ∀(A:aaX) (v v':V) (u u':Value) (d':D),A.units+d.dep<cLine->Rep X.K Any H v d->RelV v u->Rep X.K Any H v' d'->RelV v' u'->D.eqb d=true->D.eqb d'=true->EqAt A s u u' (eqD d d'):=by
 refine D.ind (P:=fun d=> ∀(A:aaX) (v v':V) (u u':Value) (d':D),A.units+d.dep<cLine->Rep X.K Any H v d->RelV v u->Rep X.K Any H v' d'->RelV v' u'->D.eqb d=true->D.eqb d'=true->EqAt A s u u' (eqD d d')) ?_ ?_ ?_ ?_ ?_ ?_ ?_ ?_ d
 · intro A v v' u u' d' hu r ru r' ru' hb hb';cases JF I r ru hb;have hu':A.units<cLine:=by simp only [D.dep] at hu;omega
   cases JF I r' ru' hb'<;>simp only [eqD]
   · exact EqAt.same _
   · exact EqAt.none_bool _
   · exact EqAt.none_int _ _
   · exact EqAt.none_str _ _
   · exact EqAt.none_tuple (by assumption) hu'
   · exact EqAt.none_list (by assumption) hu'
 · intro b A v v' u u' d' hu r ru r' ru' hb hb';cases JF I r ru hb;have hu':A.units<cLine:=by simp only [D.dep] at hu;omega
   cases JF I r' ru' hb'<;>simp only [eqD]
   · exact EqAt.bool_none _
   · exact EqAt.bool_bool _ _
   · exact EqAt.bool_int _ _ _
   · exact EqAt.bool_str _ _ _
   · exact EqAt.bool_tuple _ (by assumption) hu'
   · exact EqAt.bool_list _ (by assumption) hu'
 · intro i A v v' u u' d' hu r ru r' ru' hb hb';cases JF I r ru hb;have hu':A.units<cLine:=by simp only [D.dep] at hu;omega
   cases JF I r' ru' hb'<;>simp only [eqD]
   · exact EqAt.int_none _ _
   · exact EqAt.int_bool _ _ _
   · exact EqAt.int_int _ _ _ _
   · exact EqAt.int_str _ _ _ _
   · exact EqAt.int_tuple _ _ (by assumption) hu'
   · exact EqAt.int_list _ _ (by assumption) hu'
 · intro x A v v' u u' d' hu r ru r' ru' hb hb';cases JF I r ru hb;have hu':A.units<cLine:=by simp only [D.dep] at hu;omega
   cases JF I r' ru' hb'<;>simp only [eqD]
   · exact EqAt.str_none _ _
   · exact EqAt.str_bool _ _ _
   · exact EqAt.str_int _ _ _ _
   · exact EqAt.str_str _ _ _ _
   · exact EqAt.str_tuple _ _ (by assumption) hu'
   · exact EqAt.str_list _ _ (by assumption) hu'
 · intro ds ih A v v' u u' d' hu r ru r' ru' hb hb';have hu':A.units<cLine:=by simp only [D.dep] at hu;omega
   have c1:=JF I r ru hb;have c2:=JF I r' ru' hb'
   cases c1 with
   |tup e p rv rs=>
     cases c2 with
     |non=>simp only [eqD];exact EqAt.tuple_none p hu'
     |bl b=>simp only [eqD];exact EqAt.tuple_bool _ p hu'
     |int i t=>simp only [eqD];exact EqAt.tuple_int _ _ p hu'
     |str x t=>simp only [eqD];exact EqAt.tuple_str _ _ p hu'
     |lst e2 p2 rv2 rs2=>simp only [eqD];exact EqAt.tuple_list p p2 hu'
     | @tup a2 xs2 its2 ds2 e2 p2 rv2 rs2=>
      rename_i a1 xs1 its1
      by_cases z:a1=a2
      · subst z;have ed:D.tup ds=D.tup ds2:=Rep.inj _ Any Any _ _ hb hb' (Rep.tup e rs) (Rep.tup e2 rs2);rw [←ed,W7 _ hb];exact EqAt.same _
      · have q:=RcAt.tuples (A:=A) (s:=s) p p2 hu' (jbq (A:=A) rs rs2 rv rv2 (fun d hd v v' u u' d' g1 g2 g3 g4 g5 g6=>ih d hd A.in1 v v' u u' d' (by
          have:=JE hd;simp only [D.dep] at hu;show A.units+1+d.dep<cLine
          omega) g1 g2 g3 g4 g5 g6) (by simpa only [D.eqb] using hb) (by simpa only [D.eqb] using hb'))
        have n1:its1.toArray.size=ds.length:=by rw [aaf,←rv.length,rs.length]
        have n2:its2.toArray.size=ds2.length:=by rw [aaf,←rv2.length,rs2.length]
        rw [n1,n2,←VA] at q;simp only [eqD];exact EqAt.of_refs z q
 · intro ds ih A v v' u u' d' hu r ru r' ru' hb hb';have hu':A.units<cLine:=by simp only [D.dep] at hu;omega
   have c1:=JF I r ru hb;have c2:=JF I r' ru' hb'
   cases c1 with
   |lst e p rv rs=>
     cases c2 with
     |non=>simp only [eqD];exact EqAt.list_none p hu'
     |bl b=>simp only [eqD];exact EqAt.list_bool _ p hu'
     |int i t=>simp only [eqD];exact EqAt.list_int _ _ p hu'
     |str x t=>simp only [eqD];exact EqAt.list_str _ _ p hu'
     |tup e2 p2 rv2 rs2=>simp only [eqD];exact EqAt.list_tuple p p2 hu'
     | @lst a2 xs2 its2 ds2 e2 p2 rv2 rs2=>
      rename_i a1 xs1 its1;have n1:its1.toArray.size=ds.length:=by rw [aaf,←rv.length,rs.length]
      have n2:its2.toArray.size=ds2.length:=by rw [aaf,←rv2.length,rs2.length]
      by_cases z:a1=a2
      · subst z
        have ed:D.lst ds=D.lst ds2:=by
          rw [e] at e2;cases e2;rw [Reps.inj_of (fun d _ A A' v d'=>Rep.inj d A A' v d') (by simpa only [D.eqb] using hb) (by simpa only [D.eqb] using hb') rs rs2]
        rw [←ed,W7 _ hb];exact EqAt.same _
      · simp only [eqD]
        by_cases hl:ds.length=ds2.length
        · have q:=RcAt.lists (A:=A) (s:=s) p p2 (by rw [n1,n2];exact hl) hu' (jbq (A:=A) rs rs2 rv rv2 (fun d hd v v' u u' d' g1 g2 g3 g4 g5 g6=>ih d hd A.in1 v v' u u' d' (by
           have:=JE hd;simp only [D.dep] at hu;show A.units+1+d.dep<cLine
           omega) g1 g2 g3 g4 g5 g6) (by simpa only [D.eqb] using hb) (by simpa only [D.eqb] using hb'))
          rw [n1,←yC ds ds2 hl] at q;exact EqAt.of_refs z q
        · rw [JC ds ds2 hl];exact EqAt.of_refs z (RcAt.lists_lengths p p2 (by rw [n1,n2];simp [hl]) hu')
 · intro ds ih A v v' u u' d' hu r ru r' ru' hb;simp [D.eqb] at hb
 · exact ⟨by intro ks ds ih A v v' u u' d' hu r ru r' ru' hb;simp [D.eqb] at hb,by intro ks ds ih A v v' u u' d' hu r ru r' ru' hb;simp [D.eqb] at hb,by intro c A v v' u u' d' hu r ru r' ru' hb;simp [D.eqb] at hb,by intro ks ds ih A v v' u u' d' hu r ru r' ru' hb;simp [D.eqb] at hb,by intro ks ds ih A v v' u u' d' hu r ru r' ru' hb;simp [D.eqb] at hb,by intro c ns ds ih A v v' u u' d' hu r ru r' ru' hb;simp [D.eqb] at hb⟩
theorem KU (I:Inv X pins σ H s) {A:aaX} {v v':V} {u u':Value} {d d':D} (hu:A.units+d.dep<cLine) (r:Rep X.K Any H v d) (ru:RelV v u) (r':Rep X.K Any H v' d') (ru':RelV v' u') (hb:D.eqb d=true) (hb':D.eqb d'=true):
  RcAt A s u u' (eqD d d')/\RcNeAt A s u u' (!eqD d d'):=by
 have hu':A.units<cLine:=by omega
 have c1:=JF I r ru hb;have c2:=JF I r' ru' hb'
 cases c1 with
 |non=>
  cases c2<;>simp only [eqD,abE,aa9]
  · exact ⟨RcAt.none_none,RcNeAt.none_none⟩
  · exact ⟨RcAt.none_bool _,RcNeAt.none_bool _⟩
  · exact ⟨RcAt.none_int _ _,RcNeAt.none_int _ _⟩
  · exact ⟨RcAt.none_str _ _,RcNeAt.none_str _ _⟩
  · exact ⟨RcAt.none_tuple (by assumption) hu',RcNeAt.none_tuple (by assumption) hu'⟩
  · exact ⟨RcAt.none_list (by assumption) hu',RcNeAt.none_list (by assumption) hu'⟩
 |bl b=>
  cases c2<;>simp only [eqD,abE,aa9]
  · exact ⟨RcAt.bool_none _,RcNeAt.bool_none _⟩
  · exact ⟨RcAt.bool_bool _ _,RcNeAt.bool_bool _ _⟩
  · exact ⟨RcAt.bool_int _ _ _,RcNeAt.bool_int _ _ _⟩
  · exact ⟨RcAt.bool_str _ _ _,RcNeAt.bool_str _ _ _⟩
  · exact ⟨RcAt.bool_tuple _ (by assumption) hu',RcNeAt.bool_tuple _ (by assumption) hu'⟩
  · exact ⟨RcAt.bool_list _ (by assumption) hu',RcNeAt.bool_list _ (by assumption) hu'⟩
 |int i t=>
  cases c2<;>simp only [eqD,abE,aa9]
  · exact ⟨RcAt.int_none _ _,RcNeAt.int_none _ _⟩
  · exact ⟨RcAt.int_bool _ _ _,RcNeAt.int_bool _ _ _⟩
  · exact ⟨RcAt.int_int _ _ _ _,RcNeAt.int_int _ _ _ _⟩
  · exact ⟨RcAt.int_str _ _ _ _,RcNeAt.int_str _ _ _ _⟩
  · exact ⟨RcAt.int_tuple _ _ (by assumption) hu',RcNeAt.int_tuple _ _ (by assumption) hu'⟩
  · exact ⟨RcAt.int_list _ _ (by assumption) hu',RcNeAt.int_list _ _ (by assumption) hu'⟩
 |str x t=>
  cases c2<;>simp only [eqD,abE,aa9]
  · exact ⟨RcAt.str_none _ _,RcNeAt.str_none _ _⟩
  · exact ⟨RcAt.str_bool _ _ _,RcNeAt.str_bool _ _ _⟩
  · exact ⟨RcAt.str_int _ _ _ _,RcNeAt.str_int _ _ _ _⟩
  · exact ⟨RcAt.str_str _ _ _ _,RcNeAt.str_str _ _ _ _⟩
  · exact ⟨RcAt.str_tuple _ _ (by assumption) hu',RcNeAt.str_tuple _ _ (by assumption) hu'⟩
  · exact ⟨RcAt.str_list _ _ (by assumption) hu',RcNeAt.str_list _ _ (by assumption) hu'⟩
 | @tup a1 xs1 its1 ds e p rv rs=>
  cases c2 with
  |non=>simp only [eqD,aa9];exact ⟨RcAt.tuple_none p hu',RcNeAt.tuple_none p hu'⟩
  |bl b=>simp only [eqD,aa9];exact ⟨RcAt.tuple_bool _ p hu',RcNeAt.tuple_bool _ p hu'⟩
  |int i t=>simp only [eqD,aa9];exact ⟨RcAt.tuple_int _ _ p hu',RcNeAt.tuple_int _ _ p hu'⟩
  |str x t=>simp only [eqD,aa9];exact ⟨RcAt.tuple_str _ _ p hu',RcNeAt.tuple_str _ _ p hu'⟩
  |lst e2 p2 rv2 rs2=>simp only [eqD,aa9];exact ⟨RcAt.tuple_list p p2 hu',RcNeAt.tuple_list p p2 hu'⟩
  | @tup a2 xs2 its2 ds2 e2 p2 rv2 rs2=>
    have n1:its1.toArray.size=ds.length:=by rw [aaf,←rv.length,rs.length]
    have n2:its2.toArray.size=ds2.length:=by rw [aaf,←rv2.length,rs2.length]
    have el:=jbq (A:=A) (s:=s) rs rs2 rv rv2 (fun d hd v v' u u' d' g1 g2 g3 g4 g5 g6=>VC I d A.in1 v v' u u' d' (by
      have:=JE hd;simp only [D.dep] at hu;show A.units+1+d.dep<cLine
      omega) g1 g2 g3 g4 g5 g6) (by simpa only [D.eqb] using hb) (by simpa only [D.eqb] using hb')
    have q:=RcAt.tuples p p2 hu' el;have q2:=RcNeAt.tuples p p2 hu' el;rw [n1,n2,←VA] at q q2;simp only [eqD];exact ⟨q,q2⟩
 | @lst a1 xs1 its1 ds e p rv rs=>
  cases c2 with
  |non=>simp only [eqD,aa9];exact ⟨RcAt.list_none p hu',RcNeAt.list_none p hu'⟩
  |bl b=>simp only [eqD,aa9];exact ⟨RcAt.list_bool _ p hu',RcNeAt.list_bool _ p hu'⟩
  |int i t=>simp only [eqD,aa9];exact ⟨RcAt.list_int _ _ p hu',RcNeAt.list_int _ _ p hu'⟩
  |str x t=>simp only [eqD,aa9];exact ⟨RcAt.list_str _ _ p hu',RcNeAt.list_str _ _ p hu'⟩
  |tup e2 p2 rv2 rs2=>simp only [eqD,aa9];exact ⟨RcAt.list_tuple p p2 hu',RcNeAt.list_tuple p p2 hu'⟩
  | @lst a2 xs2 its2 ds2 e2 p2 rv2 rs2=>
    have n1:its1.toArray.size=ds.length:=by rw [aaf,←rv.length,rs.length]
    have n2:its2.toArray.size=ds2.length:=by rw [aaf,←rv2.length,rs2.length]
    simp only [eqD]
    by_cases hl:ds.length=ds2.length
    · have el:=jbq (A:=A) (s:=s) rs rs2 rv rv2 (fun d hd v v' u u' d' g1 g2 g3 g4 g5 g6=>VC I d A.in1 v v' u u' d' (by
       have:=JE hd;simp only [D.dep] at hu;show A.units+1+d.dep<cLine
       omega) g1 g2 g3 g4 g5 g6) (by simpa only [D.eqb] using hb) (by simpa only [D.eqb] using hb')
      have q:=RcAt.lists p p2 (by rw [n1,n2];exact hl) hu' el;have q2:=RcNeAt.lists p p2 (by rw [n1,n2];exact hl) hu' el;rw [n1,←yC ds ds2 hl] at q q2;exact ⟨q,q2⟩
    · rw [JC ds ds2 hl];exact ⟨RcAt.lists_lengths p p2 (by rw [n1,n2];simp [hl]) hu',RcNeAt.lists_lengths p p2 (by rw [n1,n2];simp [hl]) hu'⟩
end
section
variable {X:Cx}
def ZZ:D->D->Bool
 | .lst a,.lst b=>a.length !=b.length
 |_,_=>false
theorem Xo {a b:D} (h:ZZ a b=true):eqD a b=false:=by
 unfold ZZ at h
 split at h
 · simp only [eqD];exact JC _ _ (by simpa using h)
 · cases h
def EqC (a b:D):Prop:=(D.eqb a=true/\D.eqb b=true/\a.dep<=190)\/ZZ a b=true
instance (a b:D):Decidable (EqC a b):=inferInstanceAs (Decidable (_\/_))
def rEqD (K:aaa) (neg:Bool):R2:=fun x y H Q=> ∃a b,Rep K Any H x a/\Rep K Any H y b/\EqC a b/\Q (.bl (if neg then !eqD a b else eqD a b)) H
theorem Xp {pins:List (Addr×Obj)} {σ:L2.St} {H:Hp} {s:aaj} (I:Inv X pins σ H s) {A:aaX} {v v':V} {u u':Value} {d d':D} (hu:A.units<cLine) (r:Rep X.K Any H v d) (ru:RelV v u) (r':Rep X.K Any H v' d') (ru':RelV v' u') (h:ZZ d d'=true):
   RcAt A s u u' false/\RcNeAt A s u u' true:=by
 unfold ZZ at h
 split at h
 · obtain ⟨a,xs,rfl,ha,_,rs⟩:=r.lstE;obtain ⟨a',xs',rfl,ha',_,rs'⟩:=r'.lstE;cases ru;cases ru';obtain ⟨its,rv,p,_⟩:=I.list (.of ha);obtain ⟨its',rv',p',_⟩:=I.list (.of ha')
   have e:(its.toArray.size !=its'.toArray.size)=true:=by
    rw [aaf,aaf,←rv.length,←rv'.length,rs.length,rs'.length];exact h
   exact ⟨RcAt.lists_lengths p.isList p'.isList e hu,RcNeAt.lists_lengths p.isList p'.isList e hu⟩
 · cases h
theorem xH (hu:X.A.units+200<cLine):OpR X (abv .Eq) (rEqD X.K false):=by
 intro pins s σ H x y v u Q I rx ry ⟨a,b,ra,rb,hc,q⟩;rcases hc with ⟨ha,hb,hd⟩|hc
 · exact (KU I (A:=X.A) (by omega) ra rx rb ry ha hb).1 X.prog X.w X.xe _ ⟨.bl _,H,I,rfl,q⟩
 · have q':Q (.bl false) H:=by have:=Xo hc;simpa [this] using q
   exact (Xp I (A:=X.A) (by omega) ra rx rb ry hc).1 X.prog X.w X.xe _ ⟨.bl _,H,I,rfl,q'⟩
theorem wJ (hu:X.A.units+200<cLine):OpR X (abv .NotEq) (rEqD X.K true):=by
 intro pins s σ H x y v u Q I rx ry ⟨a,b,ra,rb,hc,q⟩;rcases hc with ⟨ha,hb,hd⟩|hc
 · exact (KU I (A:=X.A) (by omega) ra rx rb ry ha hb).2 X.prog X.w X.xe _ ⟨.bl _,H,I,rfl,q⟩
 · have q':Q (.bl true) H:=by have:=Xo hc;simpa [this] using q
   exact (Xp I (A:=X.A) (by omega) ra rx rb ry hc).2 X.prog X.w X.xe _ ⟨.bl _,H,I,rfl,q'⟩
def eqR (a b:D):Res D:=must (EqC a b) (.ok (.bl (eqD a b)))
def neR (a b:D):Res D:=must (EqC a b) (.ok (.bl (!eqD a b)))
theorem Zc {K:aaa}:OpS K (rEqD K false) eqR:=fun x y H a b d Q ra rb e q=>by
 obtain ⟨h1,e2⟩:=jp e;cases e2;exact ⟨a,b,ra,rb,h1,q _ (jho _)⟩
theorem J4 {K:aaa}:OpS K (rEqD K true) neR:=fun x y H a b d Q ra rb e q=>by
 obtain ⟨h1,e2⟩:=jp e;cases e2;exact ⟨a,b,ra,rb,h1,q _ (jho _)⟩
theorem Room.u200 {k:Nat} {A:aaX} (r:Room k A):A.units+200<cLine:=by have:=r.un;omega
end
end M
namespace M
open PySem PySem.Spec L2
open PyProof.Rows hiding St
section
variable {X:Cx} {K:aaa}
theorem W3 {prog:aaD} {w:World} {A:aaX} {E:Value->aaj->Prop} {s:aaj} {t sl:Addr} {items:Array Value} {vl vu:Value} {lo hi:Option Int} {Q:Value->aaj->Prop} (ht:IsTup s.heap t items) (hs:s.heap.IsSliceOf sl vl vu .none) (pl:IsPart vl lo) (pu:IsPart vu hi)
  (hw:HT.sIx items.size 0 lo=0/\HT.sIx items.size items.size hi=items.size) (h:Q (.ref t) s):wpAny (model prog w) A (getItem (.ref t) (.ref sl)) Q E s:=by
 obtain ⟨os,hos,hcs,hds⟩:=id hs;have hTs:s.TypeIs (.ref sl) "slice" :=⟨os,hos,hcs⟩
 unfold getItem
 try with_reducible refine ab8 ?_
 first|refine aab (aak ?_)|skip
 refine aab (wpAny_sequenceKey ht.typeIs (by decide) ?_)
 refine aab (aa6 (name:=acm "__getitem__") ht.typeIs aaS
  (aba aaS ht.typeIs entry_tuple_getitem ?_ (args_tuple_getitem _ _)))
 show wpAny _ _ (adD (.ref t)>>=_) _ _ s;refine aab (tupleItemsOf_ ht ?_);refine aab (wpAny_typeOf hTs ?_);rw [if_pos (by decide)];refine aab (HT.sliceApplied_gen hs pl pu ?_)
 have hyes:(((HT.sIx items.size 0 lo:Nat):Int)==0&&(1:Int)==1&&(HT.sIx items.size items.size hi-HT.sIx items.size 0 lo)==items.size)=true:=by
  rw [hw.1,hw.2];simp
 show wpAny _ _ (if (((HT.sIx items.size 0 lo:Nat):Int)==0&&(1:Int)==1&&(HT.sIx items.size items.size hi-HT.sIx items.size 0 lo)==items.size)=true then _ else _) _ _ s;rw [if_pos hyes];show wpAny _ _ (adE (.ref t)>>=_) _ _ s;unfold adE;refine aab (aab (wpAny_typeOf ht.typeIs (aak ?_)));show wpAny _ _ (if (ac5 "tuple" ==ac5 "tuple")=true then _ else _) _ _ s;rw [if_pos (by decide)]
 first
  |exact aab (ado (aab (aak (aak ⟨_,rfl,aak h⟩))))
  |exact aab (ado (aak ⟨_,rfl,aak h⟩))
  |exact aab (ado (aab (aak ⟨_,rfl,aak h⟩)))
def rSlW (K:aaa):V->Option Int->Option Int->Hp->VK->Prop:=fun x lo hi H Q=> ∃a xs,x= .ref a/\SqT K H a xs/\(HT.sIx xs.length 0 lo=0/\HT.sIx xs.length xs.length hi=xs.length)/\Q (.ref a) H
theorem sl_whole:SlR X (rSlW X.K):=by
 intro pins s σ H x v vl vu lo hi sl Q I rx hs pl pu ⟨a,xs,ex,hx,hw,q⟩;subst ex;cases rx;obtain ⟨its,r,ht,hz⟩:=I.tuple hx;have hlen:its.toArray.size=xs.length:=by rw [aaf];exact r.length.symm
 exact ⟨"tuple",_,aaS.lookup,ht.typeIs,W3 ht hs pl pu (by rw [hlen];exact hw) ⟨.ref a,H,I,rfl,q⟩⟩
def cutS (z:Str) (lo hi:Option Int):Str:=
 if ((aaE lo hi 1 z.length).length==z.length)=true then z else ⟨((aaE lo hi 1 z.length).filterMap (z.cps[·]?)).toArray⟩
theorem VO (z:Str) (lo hi:Option Int):(cutS z lo hi).length<=z.length:=by
 unfold cutS
 split
 · exact aai _
 · show ((aaE lo hi 1 z.length).filterMap (z.cps[·]?)).toArray.size<=z.length;rw [aaf];exact aaC (List.length_filterMap_le _ _) (PyProof.Rows.indices_len_le lo hi z.length)
def rSlS:V->Option Int->Option Int->Hp->VK->Prop:=fun x lo hi H Q=> ∃z,x= .str z/\z.length<=aae/\Q (.str (cutS z lo hi)) H
theorem vh {v:Value} {o:Option Int} (h:IsPart v o): ∃p:Option (Int×Tok),v=partValue p/\p.map (·.1)=o:=by
 cases h with
 |none=>exact ⟨none,rfl,rfl⟩
 |int i t=>exact ⟨some (i,t),rfl,rfl⟩
theorem jeh:SlR X rSlS:=by
 intro pins s σ H x v vl vu lo hi sl Q I rx hs pl pu ⟨z,ex,hz,q⟩;subst ex;obtain ⟨t,rfl⟩:=rx;obtain ⟨l,rfl,el⟩:=vh pl;obtain ⟨u,rfl,eu⟩:=vh pu;refine ⟨"str",_,F.slot_str_getitem.lookup,typeIs_str s z t,wpAny_getItem_str_slice (l:=l) (u:=u) (st:=none) hs rfl ?_⟩;have hp:slicePicked z l u none=aaE lo hi 1 z.length:=by unfold slicePicked;rw [el,eu];rfl
 unfold sliceMade;rw [hp]
 by_cases hc:((aaE lo hi 1 z.length).length==z.length)=true
 · have e:cutS z lo hi=z:=by unfold cutS;rw [if_pos hc]
   rw [e] at q;rw [if_pos (by simpa using hc)];exact ⟨.str z,H,I,⟨t,rfl⟩,q⟩
 · have e:cutS z lo hi=⟨((aaE lo hi 1 z.length).filterMap (z.cps[·]?)).toArray⟩:=by unfold cutS;rw [if_neg hc]
   have hl:=VO z lo hi;rw [e] at q hl;rw [if_neg (by simpa using hc)];exact ⟨aaC hl hz,.str _,H,I.tok _,⟨_,rfl⟩,q⟩
def slD:D->Option Int->Option Int->Res D
 | .tup ds,lo,hi=>(.ok (.tup (cutD ds lo hi)))
 | .lst ds,lo,hi=>(.ok (.lst (cutD ds lo hi)))
 | .str z,lo,hi=> .ok (.str (cutS z lo hi))
 |_,_,_=> .stuck
theorem uR {ds:List D} {lo hi:Option Int} (h1:HT.sIx ds.length 0 lo=0) (h2:HT.sIx ds.length ds.length hi=ds.length):cutD ds lo hi=ds:=by
 unfold cutD;rw [h1,h2];simp
theorem jcB {A:Addr->Prop} {x:V} {H:Hp} {a d:D} {lo hi:Option Int} {Q:VK} (r3:Rep X.K A H x a) (e4:slD a lo hi= .ok d) (q: ∀v H',Same H H'->Rep X.K (fun c=>H c=none\/A c) H' v d->NewTop H v->Q v H'):
  rSlT X.K x lo hi H Q\/rSlW X.K x lo hi H Q\/rSlL X.K x lo hi H Q\/rSlS x lo hi H Q:=by
 cases a with
 |tup ds=>
  cases e4;obtain ⟨b,xs,rfl,hb,rs⟩:=r3.tupE;have hl:=rs.length
  by_cases hw:HT.sIx xs.length 0 lo=0/\HT.sIx xs.length xs.length hi=xs.length
  · refine .inr (.inl ⟨b,xs,rfl,.of hb,hw,?_⟩);rw [hl] at hw;rw [uR hw.1 hw.2] at q;exact q _ H (Same.refl H) (.tup hb (rs.weak orA)) (kg hb)
  · exact .inl ⟨b,xs,rfl,.of hb,hw,fun p hp=>q _ _ (Same.upd hp) (.tup jB (((Kr rs).weak orA).grow (Same.upd hp))) (qE (Same.refl H) hp)⟩
 |lst ds=>
  cases e4;obtain ⟨b,xs,rfl,hb,_,rs⟩:=r3.lstE;exact .inr (.inr (.inl ⟨b,xs,rfl,.of hb,fun p hp=>q _ _ (Same.upd hp) (.lst jB (.inl hp) (((Kr rs.low).laid hp).weak fun c z=>⟨.inr z.1,z.2⟩)) (qE (Same.refl H) hp)⟩))
 |str z=>
  cases e4;obtain ⟨rfl,hz⟩:=r3.strE;have hl:=aaC (VO z lo hi) hz;exact .inr (.inr (.inr ⟨z,rfl,hz,q _ H (Same.refl H) (.str _ hl) (jhM (jhL (K:=X.K) _ hl))⟩))
 |_=>cases e4
theorem qO {e:Expr} {lo hi:Option Expr} {p2 pos:Pos} {f:Sl->Res D} {fl fh:Sl->Res (Option Int)} (he:DE X .s e f) (hl:DO X lo fl) (hh:DO X hi fh):
   DE X .t (.Subscript e (.Slice lo hi none p2) pos) (j7 f fl fh slD):=by
 with_unfolding_all exact (
  PE.imp (K3 (sl_tup.or (sl_whole.or (sl_list.or jeh))) he hl hh) fun σ H Q ⟨G,H0,env,d,k,ef,q⟩=>by
   obtain ⟨a,e1,ef⟩:=jc ef;obtain ⟨lo',e2,ef⟩:=jc ef;obtain ⟨hi',e3,e4⟩:=jc ef;refine ⟨G,H0,env,a,k,e1,fun x H1 s1 r1 _=>⟨G,H0,env,lo',k.grow s1,e2,fun H2 s2=>⟨G,H0,env,hi',(k.grow s1).grow s2,e3,fun H3 s3=>?_⟩⟩⟩;have sm:=s1.trans (s2.trans s3)
   exact jcB ((r1.grow s2).grow s3) e4 fun v H4 s4 r4 nt=>q v H4 (sm.trans s4) (r4.weak fun c z=>z.elim (fun z=>k.new c (Same.free sm z)) fun z=>z) (nt.grow sm))
def cD:Sl->Res D:=fun _=> .ok (.dic [] [])
theorem QK {pos:Pos}:DE X .t (.Dict [] [] pos) cD:=by
 with_unfolding_all exact (PE.imp jaA fun σ H Q ⟨G,H0,env,d,k,ef,q⟩=>by
  cases ef
  exact fun p hp=>q _ _ (Same.upd hp) (.dic jB (k.new p hp) rfl rfl .nil) (qE (Same.refl H) hp))
def negD:D->Res D
 | .int i=> .ok (.int (-i))
 |_=> .stuck
def negF (f:Sl->Res D):Sl->Res D:=fun env=>f env>>=negD
theorem uL {l l':Lv} {e:Expr} {pos:Pos} {f:Sl->Res D} (h:DE X l e f):DE X l' (.UnaryOp .USub e pos) (negF f):=by
 with_unfolding_all exact (PE.imp (jgx jd4 h) fun σ H Q ⟨G,H0,env,d,k,ef,q⟩=>by
  obtain ⟨a,e1,e2⟩:=jc ef;refine ⟨G,H0,env,a,k,e1,fun v H' s r _=>?_⟩
  cases a with
  |int i=>cases e2;exact ⟨i,r.intE,q _ H' s (.int _) (jhv (K:=X.K) _).T⟩
  |_=>cases e2)
end
end M
namespace M
open PySem PySem.Spec L2
open PyProof.Rows hiding St
abbrev subI:D->D->Res D:=iOp ZT fun i j=> .int (i-j)
abbrev mulI:D->D->Res D:=iOp MulC fun i j=> .int (i*j)
abbrev divI:D->D->Res D:=iOp DivC fun i j=> .int (i/j)
abbrev modI:D->D->Res D:=iOp PosC fun i j=> .int (i%j)
abbrev powI:D->D->Res D:=iOp PowC fun i j=> .int (i^j.toNat)
abbrev ltI:D->D->Res D:=iOp ZT fun i j=> .bl (decide (i<j))
abbrev leI:D->D->Res D:=iOp ZT fun i j=> .bl (decide (i<=j))
abbrev gtI:D->D->Res D:=iOp ZT fun i j=> .bl (decide (j<i))
structure Av (P:aaD) (w:World) (K:aaa) (mg:Str->Option Value) (base:Heap) (k:Nat) (x:Str) (ps:List Str) (fr:Bool) (F:List D->Res D):Prop where
 ex: ∃f fd,FnOk P w K mg base CX0 k f fd ps (spF K fr ps.length F)/\mg x=some (.ref f)/\aaR K (.ref f)=true/\Binds K fd ps []
theorem Av.mono {P:aaD} {w:World} {K:aaa} {mg:Str->Option Value} {base:Heap} {j k:Nat} {x:Str} {ps:List Str} {fr:Bool} {F:List D->Res D} (h:Av P w K mg base j x ps fr F) (hj:j<=k):Av P w K mg base k x ps fr F:=
 let ⟨f,fd,a,b⟩:=h.ex
 ⟨f,fd,a.mono hj,b⟩
section
variable {X:Cx} {k:Nat} {x:Str} {ps:List Str} {fr:Bool} {F:List D->Res D} {e:Expr} {es:List Expr} {p pos:Pos} {g:Sl->Res (List D)}
theorem Av.call {n:Nat} (A:Av X.prog X.w X.K X.mg X.base k x ps fr F) (hr:Room k X.A) (ha:DA X .s (e::es) g) (hn:ps.length=n:=by rfl) (hg:Gl X x:=by rfl) (hdb:(x==("__debug__" :Str))=false:=by decide)
  (he:aal (e::es) X.env=(false,eval e X.env)::aal es X.env:=by exact jl rfl) (hpl:(abd pos (aal es X.env)).any (·.1)=false:=by exact jK rfl):DE X .s (.Call (.Name x p) (e::es) [] pos) (jg n F g):=by
 subst hn;obtain ⟨f,fd,h1,h2,h3,h4⟩:=A.ex;exact jdK h1 hr hg h2 h3 h4 YQ ha hdb he hpl
theorem Av.callT {n:Nat} (A:Av X.prog X.w X.K X.mg X.base k x ps true F) (hr:Room k X.A) (ha:DA X .s (e::es) g) (hn:ps.length=n:=by rfl) (hg:Gl X x:=by rfl) (hdb:(x==("__debug__" :Str))=false:=by decide)
  (he:aal (e::es) X.env=(false,eval e X.env)::aal es X.env:=by exact jl rfl) (hpl:(abd pos (aal es X.env)).any (·.1)=false:=by exact jK rfl):DE X .t (.Call (.Name x p) (e::es) [] pos) (jg n F g):=by
 subst hn;obtain ⟨f,fd,h1,h2,h3,h4⟩:=A.ex;exact jbB h1 hr hg h2 h3 h4 YQ ha hdb he hpl
theorem Av.callA {n:Nat} (A:Av X.prog X.w X.K X.mg X.base k x ps fr F) (hr:Room k X.A) (ha:DA X .b (e::es) g) (hn:ps.length=n:=by rfl) (hg:Gl X x:=by rfl) (hdb:(x==("__debug__" :Str))=false:=by decide)
  (he:aal (e::es) X.env=(false,eval e X.env)::aal es X.env:=by exact jl rfl) (hpl:(abd pos (aal es X.env)).any (·.1)=false:=by exact jK rfl):DE X .b (.Call (.Name x p) (e::es) [] pos) (jg n F g):=by
 subst hn;obtain ⟨f,fd,h1,h2,h3,h4⟩:=A.ex;exact jbC h1 hr hg h2 h3 h4 YQ ha hdb he hpl
end
def runF (fr:Bool) (n:Nat) (g:Sl->Res Out) (ds:List D):Res D:=match g (qm n ds) with
 | .ok (.rt fr' d)=>if fr=true/\fr'=false then .stuck else .ok d
 | .ok (.nx _)=> .ok .non
 |_=> .stuck
theorem JY {fr:Bool} {n:Nat} {g:Sl->Res Out} {ds:List D} {d:D} (h:runF fr n g ds= .ok d):Meets fr n g ds d:=by
 unfold runF at h
 split at h
 · rename_i fr' d' e
   split at h
   · cases h
   · rename_i hn;cases h;refine .inl ⟨fr',e,fun hf=>?_⟩
     cases fr' with
     |true=>rfl
     |false=>exact absurd ⟨hf,rfl⟩ hn
 · rename_i env' e;cases h;exact .inr ⟨rfl,env',e⟩
 · cases h
section
variable {P:aaD} {w:World} {K:aaa} {mg:Str->Option Value} {base:Heap}
theorem jg2 {x:Str} {st:Stmt} {f:Addr} {fd:abC} {N ps:List Str} {k:Nat} (fr:Bool) {g:Sl->Res Out} (Fu:Fun K x x st f fd) (hmg:mg x=some (.ref f)) (S:FnScope N ps (jf st)) (hbi:Binds K fd ps [])
  (hb: ∀(cdv:Value) (A:aaX) (outer:List Env) (s:aaj) (H:Hp) (E:XK),Room k (A.deeper (acR x (jf st) s.heap.objs.size f cdv))->DSs (cxOf CX0 P w K mg base N x (jf st) f cdv A outer s H E).nox (ql st) g):
  Av P w K mg base (k+1) x ps fr (runF fr N.length g):=
 ⟨f,fd,jdo Fu S hb fun ds d _ h=>JY h,hmg,Fu.kp,hbi⟩
theorem jdT {x:Str} {st:Stmt} {f:Addr} {fd:abC} {ps:List Str} {k:Nat} (fr:Bool) (Fu:Fun K x x st f fd) (hmg:mg x=some (.ref f)) (hbi:Binds K fd ps []):Av P w K mg base k x ps fr (fun _=> .stuck):=
 ⟨f,fd,⟨fun vs H Q E ⟨B,ds,d,hl,_⟩=>hl,fun A outer s H args us vs Q E _ _ _ _ ⟨B,ds,d,_,_,e,_⟩=>by cases e⟩,hmg,Fu.kp,hbi⟩
end
theorem UQ {P:aaD} {w:World} {K:aaa} {mg:Str->Option Value} {base:Heap} {x:Str} {st:Stmt} {f:Addr} {fd:abC} {N ps:List Str} {k:Nat} (fr:Bool) {g:Sl->Res Out} (Fu:Fun K x x st f fd) (S:FnScope N ps (jf st))
 (hb: ∀(cdv:Value) (A:aaX) (outer:List Env) (s:aaj) (H:Hp) (E:XK),Room k (A.deeper (acR x (jf st) s.heap.objs.size f cdv))->DSs (cxOf CX0 P w K mg base N x (jf st) f cdv A outer s H E).nox (ql st) g):
 FnOk P w K mg base CX0 (k+1) f fd ps (spF K fr ps.length (runF fr N.length g)):=jdo Fu S hb fun ds d _ h=>JY h
theorem wo:abl "list" =some (.type "list"):=by decide+kernel
def jgX (N0:List Str) (sc0 scope:Scope) (N:List Str) (m:Nat) (js:List Nat):Bool:=(abx js.length).all fun k=>match N[m+k]?,(js[k]?).bind (N0[·]?) with
 |some y,some y'=>y==y'&&(sc0.names.lookup y==some .cell||sc0.names.lookup y==some .free)&&scope.names.lookup y==some .free
 |_,_=>false
def scOk (N0:List Str) (sc0 scope:Scope) (cl:List (Str×Addr)) (N:List Str) (m:Nat) (js:List Nat):Bool:=
 (scope.names.all fun x=>x.2 != .local||scope.names.lookup x.1==some .local)&&(scope.names.all fun x=>x.2 != .cell)&&(scope.names.all fun y=>y.2 != .free||cl.any fun p=>p.1==y.1)&&
  jgX N0 sc0 scope N m js&&(match N[m+js.length]? with
   |some y=>scope.names.all fun p=>p.1 !=y
   |none=>true)&&N.length==m+js.length+1
theorem U0 {cl:List (Str×Addr)} {y:Str} (h:(cl.any fun p=>p.1==y)=true): ∃c,cl.lookup y=some c:=by
 induction cl with
 |nil=>cases h
 |cons p r ih=>
  obtain ⟨n,c⟩:=p;rw [acT,Bool.or_eq_true] at h;simp only [aaT]
  cases e:y==n with
  |true=>exact ⟨c,rfl⟩
  |false=>
   rcases h with h|h
   · have:n=y:=by simpa using h
     subst this;simp at e
   · exact ih h
theorem zp {X:Cx} {scope:Scope} {cl:List (Str×Addr)} {N:List Str} {m:Nat} {js:List Nat} (clos:closureFor scope X.env=pure cl) (kind:scope.kind= .function) (nd:N.Nodup) (cl2: ∀p∈cl,X.env.cells.lookup p.1=some p.2)
   (h:scOk X.N X.env.scope scope cl N m js=true):CompSc X scope cl N m js:=by
 simp only [scOk,aap,abb,beq_iff_eq] at h;obtain ⟨⟨⟨⟨⟨h1,h2⟩,h3⟩,h4⟩,h5⟩,h6⟩:=h;refine ⟨clos,kind,fun x hx e=>?_,fun y hy e=>?_,fun x c e=>cl2 (x,c) (abA e),fun y hy e=>?_,nd,h6,fun k j e=>?_,fun y e p hp=>?_⟩
 · have:=h1 x hx;rw [e] at this;simpa using this
 · have:=h2 y hy;rw [e] at this;simp at this
 · have:=h3 y hy;rw [e] at this;exact U0 (by simpa using this)
 · have hk:k<js.length:=(aay.mp e).1;have:=abb.mp h4 k (abJ.mpr hk);rw [e] at this;simp only [abt] at this
   cases e1:N[m+k]? with
   |none=>rw [e1] at this;cases this
   |some y=>
    cases e2:X.N[j]? with
    |none=>rw [e1,e2] at this;cases this
    |some y'=>
     rw [e1,e2] at this;simp only [aap,Bool.or_eq_true,beq_iff_eq] at this;obtain ⟨⟨g1,g2⟩,g3⟩:=this;subst g1;exact ⟨y,rfl,rfl,g2,g3⟩
 · rw [e] at h5;have:=abb.mp h5 p hp;simpa using this
end M
namespace M
open PySem PySem.Spec L2
theorem zk {body:D->Sl->Res Out} {d:D} {ds:List D} {env env':Sl} (h:body d env= .ok (.nx env')):forD body (d::ds) env=forD body ds env':=by
 show (body d env>>=_)=_;rw [h];rfl
theorem Zs {α:Type} {body:D->Sl->Res Out} (E:α->Sl) (step:α->D->α) (P:List D->α->Prop)
  (hb: ∀d ds a,P (d::ds) a->body d (E a)= .ok (.nx (E (step a d)))/\P ds (step a d)): ∀(ds:List D) (a:α),P ds a->forD body ds (E a)= .ok (.nx (E (ds.foldl step a)))
 | [],a,_=>rfl
 |d::ds,a,h=>by
  obtain ⟨h1,h2⟩:=hb d ds a h;rw [zk h1,Zs E step P hb ds _ h2];rfl
theorem ZB {n:Nat} {t:D->Sl->Res Sl} {fe:Sl->Res D} {E:D->List D->Sl} (h:D->D) (P:D->Prop)
  (hn: ∀x acc,ownL n (E x acc)= .ok acc) (hs: ∀x acc acc',(E x acc).set n (.own (.lst acc'))=E x acc')
  (ht: ∀x d acc,t d (E x acc)= .ok (E d acc)) (hf: ∀d acc,P d->fe (E d acc)= .ok (h d)):
  ∀(ds:List D) (x:D) (acc:List D),(∀d∈ds,P d)->acc.length+ds.length<=aae-> ∃y,zB n t j4 fe ds (E x acc)= .ok (E y (acc++ds.map h))
 | [],x,acc,_,_=>⟨x,by simp [zB]⟩
 |d::ds,x,acc,hP,hl=>by
  simp only [aad] at hl;obtain ⟨y,hy⟩:=ZB h P hn hs ht hf ds d (acc++[h d]) (fun e he=>hP e (by simp [he])) (by simp only [aao,aad,aas];omega);refine ⟨y,?_⟩
  have h1:zB n t j4 fe (d::ds) (E x acc)=zB n t j4 fe ds (E d (acc++[h d])):=by
   show (t d (E x acc)>>=_)=_;rw [ht];show (fe (E d acc)>>=_)=_;rw [hf d acc (hP d (by simp))];show (ownL n (E d acc)>>=_)=_;rw [hn];show must _ _=_;rw [jk (by omega),hs]
  rw [h1,hy];simp
theorem jbH {fi:Sl->Res (List D)} {fe:Sl->Res D} {env:Sl} {ds:List D} (h:D->D) (P:D->Prop) (hi:fi env= .ok ds) (hP: ∀d∈ds,P d) (hl:ds.length<=aae)
  (hf: ∀d acc,P d->fe [.shr d,.own (.lst acc)]= .ok (h d)):qz false 1 [] fi (gN 0) j4 fe env= .ok (.lst (ds.map h)):=by
 show (fi env>>=_)=_;rw [hi];show (zB 1 (gN 0) j4 fe ds [.un,.own (.lst [])]>>=_)=_
 cases ds with
 |nil=>rfl
 |cons d ds=>
  simp only [aad] at hl;obtain ⟨y,hy⟩:=ZB (n:=1) (t:=gN 0) (fe:=fe) (E:=fun x acc=>[.shr x,.own (.lst acc)]) h P (fun _ _=>rfl) (fun _ _ _=>rfl) (fun _ _ _=>rfl) hf ds d [h d] (fun e he=>hP e (by simp [he])) (by simp only [aad,aas];omega)
  have h1:zB 1 (gN 0) j4 fe (d::ds) [.un,.own (.lst [])]=zB 1 (gN 0) j4 fe ds [.shr d,.own (.lst [h d])]:=by
   show (fe [.shr d,.own (.lst [])]>>=_)=_;rw [hf d [] (hP d (by simp))];exact jk (c:=([]:List D).length<aae) (by simp only [aas];omega)
  rw [h1,hy];rfl
end M
namespace M
open PySem PySem.Spec L2
variable {env env':Sl} {f f1 f2 f3:Sl->Res D} {g g1 g2:Sl->Res Out} {t t1 t2:Sl->Res Bool} {fa:Sl->Res (List D)} {i:Nat} {d:D} {b:Bool}
@[simp] theorem wB {α β:Type} {a:α} {f:α->Res β}:(Res.ok a>>=f)=f a:=rfl
@[simp] theorem uo {α β:Type} {c:Prop} [Decidable c] {a b:Res α} {f:α->Res β}:((if c then a else b)>>=f)=if c then a>>=f else b>>=f:=by split<;>rfl
def outK (g:Sl->Res Out):Out->Res Out
 | .nx e=>g e
 |o=> .ok o
@[simp] theorem vk:outK g (.nx env)=g env:=rfl
@[simp] theorem YV {fr:Bool}:outK g (.rt fr d)= .ok (.rt fr d):=rfl
@[simp] theorem xI:seqO g1 g2 env=(g1 env>>=outK g2):=by
 show (g1 env>>=_)=_;congr 1;funext o;cases o<;>rfl
@[simp] theorem jdq:setO i f env=(f env>>=fun d=> .ok (.nx (env.set i (Jj d)))):=rfl
@[simp] theorem Vw:jW i f env=(f env>>=fun d=> .ok (.nx (env.set i (.shr d)))):=rfl
@[simp] theorem Qd:retO f env=(f env>>=fun d=> .ok (.rt true d)):=rfl
@[simp] theorem jdr:retS f env=(f env>>=fun d=> .ok (.rt false d)):=rfl
@[simp] theorem jch:nxO env= .ok (.nx env):=rfl
@[simp] theorem Wm:ifO t g1 g2 env=(t env>>=fun b=>if b=true then g1 env else g2 env):=rfl
@[simp] theorem Km:andB t1 t2 env=(t1 env>>=fun b=>if b=true then t2 env else .ok false):=rfl
@[simp] theorem um:orB t1 t2 env=(t1 env>>=fun b=>if b=true then .ok true else t2 env):=rfl
@[simp] theorem Kj:notB t env=(t env>>=fun b=> .ok (!b)):=rfl
def asBD:D->Res Bool
 | .bl b=> .ok b
 |_=> .stuck
@[simp] theorem KA:asBD (.bl b)= .ok b:=rfl
@[simp] theorem Vy:asB f env=(f env>>=asBD):=rfl
@[simp] theorem Vu {h:D->D->Res D}:two f1 f2 h env=(f1 env>>=fun x=>f2 env>>=fun y=>h x y):=rfl
@[simp] theorem jdv {j:Int}:cI j env= .ok (.int j):=rfl
@[simp] theorem jfK:cB b env= .ok (.bl b):=rfl
@[simp] theorem JB:jb f fa env=(f env>>=fun d=>fa env>>=fun ds=> .ok (d::ds)):=rfl
@[simp] theorem Kk:nil1 env= .ok []:=rfl
@[simp] theorem X3 {h:List D->Res D}:app fa h env=(fa env>>=h):=rfl
@[simp] theorem Vx {n:Nat} {F:List D->Res D}:jg n F fa env=(fa env>>=fun ds=>must (ds.length=n) (F ds)):=rfl
@[simp] theorem jdp:tupF fa env=(fa env>>=fun ds=>must (ds.length<=aae) (.ok (.tup ds))):=rfl
@[simp] theorem jdu:lstF fa env=(fa env>>=fun ds=>must (ds.length<=aae) (.ok (.lst ds))):=rfl
@[simp] theorem xy {T:String}:isiF T f env=(f env>>=isiD T):=rfl
@[simp] theorem jds:notF f env=(f env>>=notD):=rfl
@[simp] theorem jfJ:ifD t f1 f2 env=(t env>>=fun b=>if b=true then f1 env else f2 env):=rfl
@[simp] theorem uq:itF f env=(f env>>=vV):=rfl
@[simp] theorem Kl {tt:D->Sl->Res Sl} {fi:Sl->Res (List D)}:forO fi tt g env=(fi env>>=fun ds=>forD (qp tt g) ds env):=rfl
@[simp] theorem jbm {fl fh:Sl->Res (Option Int)} {h:D->Option Int->Option Int->Res D}:j7 f fl fh h env=(f env>>=fun a=>fl env>>=fun lo=>fh env>>=fun hi=>h a lo hi):=rfl
@[simp] theorem jbl:qQ f env=(f env>>=asI):=rfl
@[simp] theorem ul:rdS i env=match env[i]? with|some (.shr d)=> .ok d|_=> .stuck:=rfl
def toK (g:Res D) (w:Bool):D->Res D
 | .bl b=>if b=w then g else .ok (.bl b)
 |_=> .stuck
@[simp] theorem jbU {r:Res D} {w:Bool}:toK r w (.bl b)=if b=w then r else .ok (.bl b):=rfl
@[simp] theorem Vv {w:Bool}:toB f1 f2 w env=(f1 env>>=toK (f2 env) w):=by
 show (f1 env>>=_)=_;congr 1
def chK (f:Res D) (g':D->D->Res D) (y:D):D->Res D
 | .bl true=>f>>=fun w=>g' y w
 | .bl false=> .ok (.bl false)
 |_=> .stuck
@[simp] theorem VU {r:Res D} {h:D->D->Res D} {y:D}:chK r h y (.bl b)=if b=true then r>>=fun w=>h y w else .ok (.bl false):=by cases b<;>rfl
@[simp] theorem QI {h h':D->D->Res D}:Ks f1 f2 f3 h h' env=(f1 env>>=fun x=>f2 env>>=fun y=>h x y>>=chK (f3 env) h' y):=by
 show (f1 env>>=_)=_;congr 1
@[simp] theorem jdt {α:Type} {c:Prop} [Decidable c] {r:Res α}:must c r=if c then r else .stuck:=rfl
@[simp] theorem ur {C:Int->Int->Prop} [∀i j,Decidable (C i j)] {h:Int->Int->D} {m n:Int}:iOp C h (.int m) (.int n)=if C m n then .ok (h m n) else .stuck:=rfl
def runK (fr:Bool):Out->Res D
 | .rt fr' d=>if fr=true/\fr'=false then .stuck else .ok d
 | .nx _=> .ok .non
 |_=> .stuck
theorem yb {fr:Bool} {n:Nat} {ds:List D} {o:Out} (h:g (qm n ds)= .ok o):runF fr n g ds=runK fr o:=by
 unfold runF;rw [h];cases o<;>rfl
end M
namespace M
theorem Ji {n:Nat} {t:Sl->Res Bool} {g:Sl->Res Out} {env env':Sl} (ht:t env= .ok true) (h:g env= .ok (.nx env')):q0 (n+1) t g env=q0 n t g env':=by
 rw [q0,ht,wB,if_pos rfl,h];rfl
theorem QO {n:Nat} {t:Sl->Res Bool} {g:Sl->Res Out} {env:Sl} {fr:Bool} {d:D} (ht:t env= .ok true) (h:g env= .ok (.rt fr d)):q0 (n+1) t g env= .ok (.rt fr d):=by
 rw [q0,ht,wB,if_pos rfl,h];rfl
theorem ZW {n:Nat} {t:Sl->Res Bool} {g:Sl->Res Out} {env:Sl} (ht:t env= .ok false):q0 (n+1) t g env= .ok (.nx env):=by
 rw [q0,ht,wB,if_neg (by simp)]
end M
namespace M
open PySem PySem.Spec L2
def kids:D->List D
 | .tup (_::r)=>r
 |_=>[]
mutual
def num:D->Nat
 | .tup (_::r)=>1+nums r
 |_=>1
def nums:List D->Nat
 | []=>0
 |d::r=>num d+nums r
end
mutual
def hgt:D->Nat
 | .tup (_::r)=>1+hgts r
 |_=>1
def hgts:List D->Nat
 | []=>0
 |d::r=>max (hgt d) (hgts r)
end
mutual
def pts:D->List D
 | .tup (x::r)=> .tup (x::r)::ptss r
 |d=>[d]
def ptss:List D->List D
 | []=>[]
 |d::r=>pts d++ptss r
end
def jc5:D->Bool| .scr _=>false| .exn _=>false| .fdc _ _=>false| .hdc _ _=>false| .obj _ _ _=>false|_=>true
mutual
def fine:D->Bool
 | .scr _=>false
 | .exn _=>false
 | .fdc _ _=>false
 | .hdc _ _=>false
 | .obj _ _ _=>false
 | .tup ds=>decide (ds.length<=11)&&fines ds
 |_=>true
def fines:List D->Bool
 | []=>true
 |d::r=>fine d&&fines r
end
theorem Wa (d:D):num d=1+nums (kids d):=by
 cases d with
 |tup ds=>cases ds<;>simp [num,kids,nums]
 |_=>simp [num,kids,nums]
theorem XY (d:D):hgt d=1+hgts (kids d):=by
 cases d with
 |tup ds=>cases ds<;>simp [hgt,kids,hgts]
 |_=>simp [hgt,kids,hgts]
theorem jet (d:D):pts d=d::ptss (kids d):=by
 cases d with
 |tup ds=>cases ds<;>simp [pts,kids,ptss]
 |_=>simp [pts,kids,ptss]
theorem WO (a b:List D):nums (a++b)=nums a+nums b:=by
 induction a with
 |nil=>simp [nums]
 |cons d r ih=>simp [nums,ih];omega
theorem jbc (a b:List D):hgts (a++b)=max (hgts a) (hgts b):=by
 induction a with
 |nil=>simp [hgts]
 |cons d r ih=>simp [hgts,ih]
theorem QG {d:D} (h:fine d=true):jc5 d=true:=by
 cases d<;>first|rfl| (simp [fine] at h)
theorem xa: ∀ {ds:List D} {d:D},fines ds=true->d∈ds->fine d=true
 |x::r,d,h,hm=>by
  simp only [fines,aap] at h;rcases aah.mp hm with rfl|hm
  · exact h.1
  · exact xa h.2 hm
theorem QF: ∀ {ds:List D},(∀d∈ds,fine d=true)->fines ds=true
 | [],_=>rfl
 |x::r,h=>by simp only [fines,aap];exact ⟨h x (by simp),QF fun d hd=>h d (by simp [hd])⟩
theorem Jz {d:D} (h:fine d=true):fines (kids d)=true/\(kids d).length<=10:=by
 cases d with
 |tup ds=>
  cases ds with
  |nil=>exact ⟨rfl,by simp [kids]⟩
  |cons x r=>
   simp only [fine,fines,aap,decide_eq_true_eq,aad] at h;exact ⟨h.2.2,by simp only [kids];omega⟩
 |_=>exact ⟨rfl,by simp [kids]⟩
def wF (row:List D):List D:=row.flatMap kids
theorem Z9 (row:List D):nums row=row.length+nums (wF row):=by
 induction row with
 |nil=>rfl
 |cons d r ih=>
  have:wF (d::r)=kids d++wF r:=rfl;rw [this,WO];simp only [nums,aad,ih,Wa d];omega
theorem UN (row:List D) (h:row≠[]):hgts row=1+hgts (wF row):=by
 induction row with
 |nil=>exact absurd rfl h
 |cons d r ih=>
  have e:wF (d::r)=kids d++wF r:=rfl;rw [e,jbc];simp only [hgts,XY d]
  cases r with
  |nil=>simp [hgts,wF]
  |cons x r=>rw [ih (by simp)];omega
theorem Kg {row:List D} (h:fines row=true):fines (wF row)=true:=
 QF fun d hd=>by
  obtain ⟨x,hx,hk⟩:=aca.mp hd;exact xa (Jz (xa h hx)).1 hk
theorem uZ {row:List D} (h:fines row=true):(wF row).length<=10*row.length:=by
 induction row with
 |nil=>simp [wF]
 |cons d r ih=>
  simp only [fines,aap] at h;have e:wF (d::r)=kids d++wF r:=rfl;have:=ih h.2;have:=(Jz h.1).2;rw [e,aao,aad];omega
theorem Ze (d:D):1<=num d:=by rw [Wa];omega
theorem xY (d:D):1<=hgt d:=by rw [XY];omega
theorem jaX (ds:List D):ds.length<=nums ds:=by rw [Z9];omega
mutual
theorem Q4: ∀d:D,(pts d).length=num d
 | .tup (x::r)=>by simp [pts,num,ptss_len r];omega
 | .tup []=>by simp [pts,num]
 | .non=>by simp [pts,num]
 | .bl _=>by simp [pts,num]
 | .int _=>by simp [pts,num]
 | .str _=>by simp [pts,num]
 | .lst _=>by simp [pts,num]
 | .scr _=>by simp [pts,num]
 | .dic _ _=>by simp [pts,num]
 | .dit _ _=>by simp [pts,num]
 | .exn _=>by simp [pts,num]
 | .fdc _ _=>by simp [pts,num]
 | .hdc _ _=>by simp [pts,num]
 | .obj _ _ _=>by simp [pts,num]
theorem ptss_len: ∀ds:List D,(ptss ds).length=nums ds
 | []=>rfl
 |d::r=>by simp [ptss,nums,Q4 d,ptss_len r]
end
mutual
theorem K1: ∀d:D,fine d=true->fines (pts d)=true
 | .tup (x::r),h=>by
  have h2:=(Jz h).1;simp only [kids] at h2;simp only [pts,fines,aap];exact ⟨h,ptss_fine r h2⟩
 | .tup [],h=>rfl
 | .non,h=>rfl
 | .bl _,h=>rfl
 | .int _,h=>rfl
 | .str _,h=>rfl
 | .lst _,h=>rfl
 | .scr _,h=>by simp [fine] at h
 | .dic _ _,h=>rfl
 | .dit _ _,h=>rfl
 | .exn _,h=>by simp [fine] at h
 | .fdc _ _,h=>by simp [fine] at h
 | .hdc _ _,h=>by simp [fine] at h
 | .obj _ _ _,h=>by simp [fine] at h
theorem ptss_fine: ∀ds:List D,fines ds=true->fines (ptss ds)=true
 | [],_=>rfl
 |d::r,h=>by
  simp only [fines,aap] at h;refine QF fun e he=>?_
  rcases aaL.mp (show e∈pts d++ptss r from he) with he|he
  · exact xa (K1 d h.1) he
  · exact xa (ptss_fine r h.2) he
end
end M
namespace M
open PySem PySem.Spec L2
theorem atI_nat {α:Type} {xs:List α} {k:Nat}:atI xs (k:Int)=xs[k]?:=by
 unfold atI ixN
 by_cases h:k<xs.length
 · rw [if_pos (by omega),if_pos (by omega)];simp
 · rw [if_pos (by omega),if_neg (by omega)];simp;omega
theorem ix0 {x:D} {r:List D}:ixD (.tup (x::r)) (.int 0)= .ok x:=by
 have:=atI_nat (xs:=x::r) (k:=0);simp only [ixD];rw [show ((0:Int))=((0:Nat):Int) from rfl,this];rfl
end M
namespace M
open PySem PySem.Spec L2
section
variable {env env':Sl} {f f1 f2 f3:Sl->Res D} {g g1 g2:Sl->Res Out} {t t1 t2:Sl->Res Bool} {fa:Sl->Res (List D)} {i:Nat} {d x y z:D} {b:Bool} {ds:List D}
theorem jr {h:D->D->Res D} (h1:f1 env= .ok x) (h2:f2 env= .ok y) (h3:h x y= .ok z):two f1 f2 h env= .ok z:=by rw [Vu,h1,wB,h2,wB,h3]
theorem yt (h:f env= .ok d):jW i f env= .ok (.nx (env.set i (.shr d))):=by rw [Vw,h];rfl
theorem Wx (h:f env= .ok d):setO i f env= .ok (.nx (env.set i (Jj d))):=by rw [jdq,h];rfl
theorem qC (h:f env= .ok d):retO f env= .ok (.rt true d):=by rw [Qd,h];rfl
theorem JZ (h:f env= .ok d):retS f env= .ok (.rt false d):=by rw [jdr,h];rfl
theorem jU (h:g1 env= .ok (.nx env')):seqO g1 g2 env=g2 env':=by rw [xI,h];rfl
theorem Z1 {fr:Bool} (h:g1 env= .ok (.rt fr d)):seqO g1 g2 env= .ok (.rt fr d):=by rw [xI,h];rfl
theorem if_t (h:t env= .ok true):ifO t g1 g2 env=g1 env:=by rw [Wm,h];rfl
theorem if_f (h:t env= .ok false):ifO t g1 g2 env=g2 env:=by rw [Wm,h];rfl
theorem ji (h1:f env= .ok d) (h2:fa env= .ok ds):jb f fa env= .ok (d::ds):=by rw [JB,h1,wB,h2];rfl
theorem zX {h:List D->Res D} (h1:fa env= .ok ds) (h2:h ds= .ok d):app fa h env= .ok d:=by rw [X3,h1,wB,h2]
theorem jH {n:Nat} {F:List D->Res D} (h1:fa env= .ok ds) (hn:ds.length=n) (h2:F ds= .ok d):jg n F fa env= .ok d:=by rw [Vx,h1,wB,jk hn,h2]
theorem wr (h1:fa env= .ok ds) (hn:ds.length<=aae):tupF fa env= .ok (.tup ds):=by rw [jdp,h1,wB,jk hn]
theorem Zh (h1:fa env= .ok ds) (hn:ds.length<=aae):lstF fa env= .ok (.lst ds):=by rw [jdu,h1,wB,jk hn]
theorem qf (h:f env= .ok (.bl b)):asB f env= .ok b:=by rw [Vy,h];rfl
theorem YW {b2:Bool} (h1:t1 env= .ok b) (h2:t2 env= .ok b2):orB t1 t2 env= .ok (b||b2):=by rw [um,h1,wB,h2];cases b<;>rfl
theorem jgb {b2:Bool} (h1:t1 env= .ok b) (h2:t2 env= .ok b2):andB t1 t2 env= .ok (b&&b2):=by rw [Km,h1,wB,h2];cases b<;>rfl
theorem wx (h1:t1 env= .ok b):notB t1 env= .ok (!b):=by rw [Kj,h1];rfl
theorem u3 (h1:ownL i env= .ok ds) (h2:f env= .ok d) (h3:ds.length<aae):Ja i f env= .ok (.nx (env.set i (.own (.lst (ds++[d]))))):=by
 show (ownL i env>>=_)=_;rw [h1];show (f env>>=_)=_;rw [h2];exact jk h3
theorem qU {fl fh:Sl->Res (Option Int)} {h:D->Option Int->Option Int->Res D} {lo hi:Option Int} (h1:f env= .ok x) (h2:fl env= .ok lo) (h3:fh env= .ok hi) (h4:h x lo hi= .ok z):j7 f fl fh h env= .ok z:=by
 rw [jbm,h1,wB,h2,wB,h3,wB,h4]
theorem qT {j:Int} (h:f env= .ok (.int j)):qQ f env= .ok (some j):=by rw [jbl,h];rfl
theorem yI {tt:D->Sl->Res Sl} {fi:Sl->Res (List D)} (h:fi env= .ok ds):forO fi tt g env=forD (qp tt g) ds env:=by rw [Kl,h];rfl
theorem Qq (h:f env= .ok d) (h2:vV d= .ok ds):itF f env= .ok ds:=by rw [uq,h,wB,h2]
theorem jfZ (h:f env= .ok d) (hd:d.imm=true):chk f env= .ok d:=by
 show (f env>>=_)=_;rw [h];exact jk hd
end
theorem XV {C:Int->Int->Prop} [∀i j,Decidable (C i j)] {g:Int->Int->D} {i j:Int} (h:C i j):iOp C g (.int i) (.int j)= .ok (g i j):=if_pos h
theorem jV {i j:Int} (h:PowC i j):powI (.int i) (.int j)= .ok (.int (i^j.toNat)):=XV h
theorem jfj {i j:Int} (h:MulC i j):mulI (.int i) (.int j)= .ok (.int (i*j)):=XV h
theorem jb9 {i j:Int} (h:0<j):modI (.int i) (.int j)= .ok (.int (i%j)):=XV (C:=PosC) h
theorem jfT {i j:Int} (h:0<j/\j<1073741824):divI (.int i) (.int j)= .ok (.int (i/j)):=XV (C:=DivC) h
theorem wQ {t:D->Sl->Res Sl} {g:Sl->Res Out} {d:D} {env env':Sl} (h:t d env= .ok env'):qp t g d env=g env':=by
 show (t d env>>=g)=_;rw [h];rfl
theorem zU {fr:Bool} {n:Nat} {g:Sl->Res Out} {ds:List D} {d:D} (h:g (qm n ds)= .ok (.rt true d)):runF fr n g ds= .ok d:=by rw [yb h];simp [runK]
theorem WC {n:Nat} {g:Sl->Res Out} {ds:List D} {d:D} (h:g (qm n ds)= .ok (.rt false d)):runF false n g ds= .ok d:=by rw [yb h];simp [runK]
theorem Q1 {fa:Sl->Res (List D)} {env:Sl} {j:Int} (h:fa env= .ok [.int j]) (hb: -(2^62)<=j/\j<2^62):rngF fa env= .ok (wb 0 j.toNat):=by
 show (fa env>>=rng1)=_;rw [h];exact jk hb
theorem jcF {fa:Sl->Res (List D)} {env:Sl} {i j:Int} (h:fa env= .ok [.int i,.int j]) (hb:(-(2^62)<=i/\i<2^62)/\ -(2^62)<=j/\j<2^62):YE fa env= .ok (wb i (j-i).toNat):=by
 show (fa env>>=rng2)=_;rw [h];exact jk hb
theorem Jb {a b:List D} (h1:a.isEmpty=false) (h2:a.length+b.length<=aae):addD (.tup a) (.tup b)= .ok (.tup (a++b)):=jk (c:=_/\_) ⟨h1,h2⟩
theorem KB {a b:List D} (h2:a.length+b.length<=aae):addD (.lst a) (.lst b)= .ok (.lst (a++b)):=jk h2
theorem uv {a b:Int}:eqR (.int a) (.int b)= .ok (.bl (a==b)):=by
 unfold eqR;rw [jk (by left;simp [D.eqb,D.dep])];simp [eqD]
theorem Jy {body:D->Sl->Res Out} (I:List D->Sl->Prop)
  (hb: ∀d ds env,I (d::ds) env-> ∃env',body d env= .ok (.nx env')/\I ds env'): ∀(ds:List D) (env:Sl),I ds env-> ∃env',forD body ds env= .ok (.nx env')/\I [] env'
 | [],env,h=>⟨env,rfl,h⟩
 |d::ds,env,h=>by
  obtain ⟨e1,h1,h2⟩:=hb d ds env h;obtain ⟨e2,h3,h4⟩:=Jy I hb ds e1 h2;exact ⟨e2,by rw [zk h1,h3],h4⟩
theorem UM (lo:Int) (n:Nat):wb lo (n+1)= .int lo::wb (lo+1) n:=by
 unfold wb;rw [List.range_succ_eq_map,aaw,ab6];congr 1
 · simp
 · apply acG;intro i _;simp only [acH];congr 1;omega
theorem xX {lo:Int} {n:Nat} {d:D} (h:d∈wb lo n): ∃k:Int,d= .int k/\lo<=k/\k<lo+n:=by
 unfold wb at h;obtain ⟨i,hi,e⟩:=aaK.mp h;have:=abJ.mp hi;exact ⟨_,e.symm,by omega,by omega⟩
theorem qS (lo:Int) (n:Nat):(wb lo n).length=n:=by simp [wb]
theorem jcu {α:Type} {xs:List α} {i:Int} (h0:0<=i) (h1:i<xs.length): ∃x,atI xs i=some x/\x∈xs:=by
 obtain ⟨k,rfl⟩:=Int.eq_ofNat_of_zero_le h0;have hk:k<xs.length:=by omega
 exact ⟨xs[k],by rw [M.atI_nat];exact aag hk,abT hk⟩
theorem ixL {ds:List D} {i:Int} (h0:0<=i) (h1:i<ds.length): ∃d,ixD (.lst ds) (.int i)= .ok d/\d∈ds:=by
 obtain ⟨c,hc,hm⟩:=jcu (xs:=ds) h0 h1;exact ⟨c,by simp only [ixD];rw [hc],hm⟩
open Builtin.Int (intBits)
theorem jdQ {fi:Sl->Res (List D)} {fe:Sl->Res D} {env:Sl} {ds:List D} {j:Nat} {c:Slot} (hc:capS false env j=c) (h:D->D) (P:D->Prop) (hi:fi env= .ok ds) (hP: ∀d∈ds,P d) (hl:ds.length<=aae)
  (hf: ∀d acc,P d->fe [.shr d,c,.own (.lst acc)]= .ok (h d)):qz false 1 [j] fi (gN 0) j4 fe env= .ok (.lst (ds.map h)):=by
 show (fi env>>=_)=_;rw [hi];show (zB 2 (gN 0) j4 fe ds [.un,capS false env j,.own (.lst [])]>>=_)=_;rw [hc]
 cases ds with
 |nil=>rfl
 |cons d ds=>
  simp only [aad] at hl;obtain ⟨y,hy⟩:=ZB (n:=2) (t:=gN 0) (fe:=fe) (E:=fun x acc=>[.shr x,c,.own (.lst acc)]) h P (fun _ _=>rfl) (fun _ _ _=>rfl) (fun _ _ _=>rfl) hf ds d [h d] (fun e he=>hP e (by simp [he])) (by simp only [aad,aas];omega)
  have h1:zB 2 (gN 0) j4 fe (d::ds) [.un,c,.own (.lst [])]=zB 2 (gN 0) j4 fe ds [.shr d,c,.own (.lst [h d])]:=by
   show (fe [.shr d,c,.own (.lst [])]>>=_)=_;rw [hf d [] (hP d (by simp))];exact jk (c:=([]:List D).length<aae) (by simp only [aas];omega)
  rw [h1,hy];rfl
theorem hgts_le {k:Nat}: ∀ {ds:List D},(∀d∈ds,hgt d<=k)->hgts ds<=k
 | [],_=>by simp [hgts]
 |d::ds,h=>by
  simp only [hgts];have:=h d (by simp);have:=hgts_le (ds:=ds) fun e he=>h e (by simp [he])
  omega
theorem qe: ∀ {ds:List D} {d:D},d∈ds->hgt d<=hgts ds
 |x::r,d,h=>by
  simp only [hgts];rcases aah.mp h with rfl|h
  · omega
  · have:=qe h;omega
end M
namespace M
open PySem PySem.Spec L2
open PyProof.Rows hiding St
def keyD:D->Option Key
 | .int i=>some (.inl i)
 | .str x=>some (.inr x)
 |_=>none
def hasK (ks:List Key) (k:Key):Bool:=ks.any fun x=>decide (x=k)
def valD (ks:List Key) (ds:List D) (k:Key):Option D:=((ks.zip ds).find? fun p=>decide (p.1=k)).map (·.2)
def wX (ks:List Key) (k:Key):List Key:=if hasK ks k=true then ks else ks++[k]
def wY (ks:List Key) (ds:List D) (k:Key) (d:D):List D:=if hasK ks k=true then (ks.zip ds).map (fun p=>if p.1=k then d else p.2) else ds++[d]
section
variable {K:aaa} {A:Addr->Prop} {H:Hp}
theorem Zm {y:V} {d:D} {k:Key} (r:Rep K A H y d) (h:keyD d=some k):y=kV k:=by
 cases r with
 |int i=>cases h;rfl
 |str x _=>cases h;rfl
 |_=>cases h
theorem WD: ∀ {kvs:List (Key×V)} {ds:List D} (k:Key),Reps K A H (kvs.map (·.2)) ds->(∀d,valD (kvs.map (·.1)) ds k=some d-> ∃v,valV kvs k=some v/\Rep K A H v d)/\(valD (kvs.map (·.1)) ds k=none->valV kvs k=none)
 | [],ds,k,r=>⟨fun d h=>by simp [valD] at h,fun _=>rfl⟩
 | (k',v)::kvs,ds,k,r=>by
  cases r with
  | @cons _ _ _ d' _ ds' r1 r2=>
   have ih:=WD (kvs:=kvs) (ds:=ds') k r2
   by_cases hk:k'=k
   · subst hk;have e1:valD ((((k',v)::kvs)).map (·.1)) (d'::ds') k'=some d':=by simp [valD]
     have e2:valV ((k',v)::kvs) k'=some v:=by simp [valV]
     rw [e1,e2];exact ⟨fun d h=>by cases h;exact ⟨v,rfl,r1⟩,fun h=>by cases h⟩
   · have e1:valD ((((k',v)::kvs)).map (·.1)) (d'::ds') k=valD (kvs.map (·.1)) ds' k:=by simp [valD,hk]
     have e2:valV ((k',v)::kvs) k=valV kvs k:=by simp [valV,hk]
     rw [e1,e2];exact ih
theorem jdX (kvs:List (Key×V)) (k:Key):(kvs.any fun kv=>decide (kv.1=k))=hasK (kvs.map (·.1)) k:=by
 unfold hasK;rw [List.any_map];rfl
theorem KS {v:V} {d:D} (k:Key) (rv:Rep K A H v d): ∀ {kvs:List (Key×V)} {ds:List D},Reps K A H (kvs.map (·.2)) ds->Reps K A H ((kvs.map (fun kv=>if kv.1=k then (kv.1,v) else kv)).map (·.2)) (((kvs.map (·.1)).zip ds).map (fun p=>if p.1=k then d else p.2))
 | [],_,.nil=> .nil
 | (k',v')::kvs,_,.cons r1 r2=>by
  have ih:=KS k rv r2
  by_cases hk:k'=k
  · simp only [aaw,abr,hk,if_true];exact .cons rv (by simpa [hk] using ih)
  · simp only [aaw,abr,hk,if_false];exact .cons r1 ih
theorem jcG {v:V} {d:D} {kvs:List (Key×V)} {ds:List D} (k:Key) (r:Reps K A H (kvs.map (·.2)) ds) (rv:Rep K A H v d):
   (putK kvs k v).map (·.1)=wX (kvs.map (·.1)) k/\Reps K A H ((putK kvs k v).map (·.2)) (wY (kvs.map (·.1)) ds k d):=by
 unfold putK wX wY;rw [jdX]
 by_cases h:hasK (kvs.map (·.1)) k=true
 · rw [if_pos h,if_pos h,if_pos h];refine ⟨?_,KS k rv r⟩;rw [ab6];apply acG;intro p _;simp only [acH]
   split<;>rfl
 · rw [if_neg h,if_neg h,if_neg h];refine ⟨by simp,?_⟩;rw [abO];exact r.append (.cons rv .nil)
theorem Rep.dicE {v:V} {ks:List Key} {ds:List D} (r:Rep K A H v (.dic ks ds)): ∃a kvs,v= .ref a/\H a=some (.dK kvs)/\A a/\kvs.map (·.1)=ks/\Reps K (fun c=>A c/\c≠a) H (kvs.map (·.2)) ds:=by
 cases r with
 |dic e a k1 k2 r=>subst k2;exact ⟨_,_,rfl,e,a,k1,r⟩
end
theorem EnvOk.writeG {K:aaa} {G:Addr->Prop} {H0 H:Hp} {env:Sl} {σ:L2.St} {i:Nat} {d0 d':D} {a:Addr} {o0 o':HO} (k:EnvOk K G H0 env σ H) (hi:env[i]?=some (.own d0)) (ha:σ[i]?=some (some (.ref a))) (hx:H a=some o0) (hm:Mut (some o0))
   (top: ∀(A':Addr->Prop) (H':Hp),Stay (Sf G env σ) H H'->H' a=some o'->(∀b,Sf G env σ b->A' b)->Top K A' H' a d'):EnvOk K G H0 (env.set i (.own d')) σ (upd H a o')/\Frm env σ H (env.set i (.own d')) σ (upd H a o'):=by
 have hl:i<env.length:=(aay.mp hi).1;have ow:zC env σ a:=⟨i,_,hi,ha⟩
 have st:Stay (Sf G env σ) H (upd H a o'):=fun c o e m=>by
   rw [jT ?_]
   · exact e
   · rintro rfl;rw [hx] at e;cases e;exact (m hm).1 ow
 have w: ∀c,Sf G env σ c->Sf G (env.set i (.own d')) σ c:=fun c n=>⟨fun o=>n.1 ((wZ hi).mp o),n.2⟩
 refine ⟨⟨by simp [k.len],fun c o e=>?_,k.g0,fun j d1 h=>?_,fun j d1 h=>?_,fun j j' d1 d2 b q1 q2 q3 q4=>?_⟩,⟨fun c o e n=>?_,fun c o=> .inl ((wZ hi).mp o),fun c e=>?_⟩⟩
 · have hc:c≠a:=by
     rintro rfl;obtain ⟨b,h1,h0,_⟩:=k.own i _ hi;rw [ha] at h1;cases h1;rw [h0] at e;cases e
   rw [jT hc];exact k.base c o e
 · by_cases z:i=j
   · subst z;obtain ⟨q,_⟩:=jA h;cases q
   · rw [jq z] at h;obtain ⟨v,h1,h2⟩:=k.shr j d1 h;exact ⟨v,h1,h2.stay st w⟩
 · by_cases z:i=j
   · subst z;obtain ⟨q,_⟩:=jA h;cases q;obtain ⟨b,h1,h0,_⟩:=k.own i _ hi;rw [ha] at h1;cases h1;exact ⟨a,ha,h0,top _ _ st jB w⟩
   · rw [jq z] at h;obtain ⟨b,h1,h0,h2⟩:=k.own j d1 h
     have hb:b≠a:=by
       rintro rfl;exact z (k.dis i j _ _ b hi h ha h1)
     exact ⟨b,h1,h0,h2.stay st w fun o e=>by rw [jT hb];exact e⟩
 · have real: ∀(j:Nat) (d1:D),(env.set i (.own d'))[j]?=some (.own d1)-> ∃d0:D,env[j]?=some (.own d0):=fun j d1 q=>by
     by_cases z:i=j
     · subst z;exact ⟨_,hi⟩
     · rw [jq z] at q;exact ⟨_,q⟩
   obtain ⟨e1,z1⟩:=real j d1 q1;obtain ⟨e2,z2⟩:=real j' d2 q2;exact k.dis j j' e1 e2 b z1 z2 q3 q4
 · have hc:c≠a:=by
     rintro rfl;exact n ow
   rw [jT hc];exact e
 · by_cases hc:c=a
   · subst hc;rw [jB] at e;cases e
   · rw [jT hc] at e;exact e
theorem WH {K:aaa} {G:Addr->Prop} {H0 H:Hp} {env:Sl} {σ:L2.St} {i:Nat} {ks:List Key} {ds:List D} (k:EnvOk K G H0 env σ H) (hi:env[i]?=some (.own (.dic ks ds))): ∃a kvs,σ[i]?=some (some (.ref a))/\H a=some (.dK kvs)/\kvs.map (·.1)=ks/\Reps K (Sf G env σ) H (kvs.map (·.2)) ds:=by
 obtain ⟨a,h1,h0,h2⟩:=k.own i _ hi
 cases h2 with
 |dic e k1 k2 r=>subst k2;exact ⟨a,_,h1,e,k1,r⟩
def ownK (i:Nat) (env:Sl):Res (List Key×List D):=match env[i]? with
 |some (.own (.dic ks ds))=> .ok (ks,ds)
 |_=> .stuck
theorem Jn {i:Nat} {env:Sl} {p:List Key×List D} (h:ownK i env= .ok p):env[i]?=some (.own (.dic p.1 p.2)):=by
 unfold ownK at h
 split at h
 · cases h;assumption
 · cases h
theorem EnvOk.putD {K:aaa} {G:Addr->Prop} {H0 H:Hp} {env:Sl} {σ:L2.St} {i:Nat} {ks:List Key} {ds:List D} {a:Addr} {kvs:List (Key×V)} {v:V} {d:D} {kk:Key} (k:EnvOk K G H0 env σ H) (hi:env[i]?=some (.own (.dic ks ds))) (ha:σ[i]?=some (some (.ref a))) (hx:H a=some (.dK kvs)) (hk:kvs.map (·.1)=ks)
  (r:Reps K (Sf G env σ) H (kvs.map (·.2)) ds) (rv:Rep K (Sf G env σ) H v d):EnvOk K G H0 (env.set i (.own (.dic (wX ks kk) (wY ks ds kk d)))) σ (upd H a (.dK (putK kvs kk v)))/\Frm env σ H (env.set i (.own (.dic (wX ks kk) (wY ks ds kk d)))) σ (upd H a (.dK (putK kvs kk v))):=by
 subst hk;obtain ⟨p1,p2⟩:=jcG kk r rv;exact k.writeG hi ha hx trivial fun A' H' st e w=> .dic e p1 rfl (p2.stay st w)
section
variable {X:Cx} {K:aaa}
variable {a b:Expr} {f1 f2:Sl->Res D} {l2:Lv} {pos p:Pos}
def jgv:V->List V->Hp->VK->Prop:=fun x xs H Q=> ∃a kvs k z,x= .ref a/\xs=[kV k,z]/\H a=some (.dK kvs)/\Q ((valV kvs k).getD z) H
theorem jc7 (hu:X.A.units+1<cLine):MtR X "dict.get" jgv:=by
 intro pins s σ H x xs v us Q I rx rs h;obtain ⟨a,kvs,k,z,rfl,rfl,ha,q⟩:=h;obtain rfl:v=aaJ a:=rx
 obtain ⟨u1,u2,rfl,r1,r2⟩: ∃u1 u2,us=[u1,u2]/\RelV (kV k) u1/\RelV z u2:=by
  cases rs with
  |cons h1 t=>cases t with|cons h2 t=>cases t;exact ⟨_,_,rfl,h1,h2⟩
 exact jfX hu I (DGet.k ha) r1 r2 fun w' s' I' rw'=>⟨_,H,I',rw',q⟩
def get2:D->List D->Res D
 | .dic ks ds,[kd,z]=>match keyD kd with
  |some k=> .ok ((valD ks ds k).getD z)
  |none=> .stuck
 |_,_=> .stuck
def jdn (f f1 f2:Sl->Res D):Sl->Res D:=fun env=>f env>>=fun a=>f1 env>>=fun kd=>f2 env>>=fun z=>get2 a [kd,z]
theorem uN {l1:Lv} {e1 e2 o:Expr} {f fk fz:Sl->Res D} {apos cpos:Pos} (hu:X.A.units+1<cLine) (ho:DE X .s o f) (h1:DE X l1 e1 fk) (h2:DE X .s e2 fz)
   (hbase:abf o "get" X.env (eval o X.env)=eval o X.env:=by rfl)
   (hfew:((abd cpos (aal [e1,e2] X.env)).all (fun x=>!x.1)&&(acs cpos (abz [] X.env)).all (fun x=>x.1.isSome)
    &&decide ([e1,e2].length+([]:List acn).length+(if ([]:List acn).isEmpty then 0 else 1)<30))=true:=by exact x0 rfl rfl)
   (hline:(apos.endLine==cpos.line)=true:=by rfl) (hs:aal [e1,e2] X.env=(false,eval e1 X.env)::aal [e2] X.env:=by exact jl rfl) (hplain:(abd cpos (aal [e2] X.env)).any (·.1)=false:=by exact jK rfl)
   (hs2:aal [e2] X.env=(false,eval e2 X.env)::aal [] X.env:=by exact jl rfl):
   DE X .s (.Call (.Attribute o "get" apos) [e1,e2] [] cpos) (jdn f fk fz):=by
 with_unfolding_all exact (
  PE.imp (vg acW ada PySem.F.type_dict_get (jc7 hu) ho (j8 h1 (j8 h2 wv hs2) hs) hbase hfew hline hs hplain) fun σ H Q ⟨G,H0,env,d,k,ef,q⟩=>by
   obtain ⟨a',e1,ef⟩:=jc ef;obtain ⟨kd,e2,ef⟩:=jc ef;obtain ⟨z,e3,e4⟩:=jc ef
   cases a' with
   |dic ks ds=>
    unfold get2 at e4;dsimp only at e4
    cases hkk:keyD kd with
    |none=>rw [hkk] at e4;cases e4
    |some kk=>
     rw [hkk] at e4;cases e4;refine ⟨G,H0,env,_,k,e1,fun x H1 s1 r1 _=>?_⟩;obtain ⟨p,kvs,rfl,hp,_,rfl,r⟩:=r1.dicE;refine ⟨.inr (.inr (.inl ⟨rfl,.inl ⟨kvs,hp⟩⟩)),G,H0,env,_,k.grow s1,e2,fun y H2 s2 r2 _=>⟨G,H0,env,_,(k.grow s1).grow s2,e3,fun w H3 s3 r3 _=>?_⟩⟩;have hp3:=s3 _ _ (s2 _ _ hp);refine ⟨p,kvs,kk,w,rfl,by rw [Zm (r2.weak (A':=Any) Lv.weak_b) hkk],hp3,?_⟩;have rr:=((r.low.grow s2).grow s3)
     cases hval:valD (kvs.map (·.1)) ds kk with
     |none=>
      rw [(WD (K:=X.K) kk rr).2 hval];exact q _ H3 ((s1.trans s2).trans s3) (by rw [hval];exact r3) trivial
     |some d'=>
      obtain ⟨v,g1,g2⟩:=(WD (K:=X.K) kk rr).1 _ hval;rw [g1];exact q _ H3 ((s1.trans s2).trans s3) (by rw [hval];exact g2) trivial
   |_=>cases e4)
end
end M
namespace M
open PySem PySem.Spec L2
open PyProof.Rows hiding St
section
variable {X:Cx} {K:aaa} {l1 l2:Lv} {e1 e2:Expr} {fk fv:Sl->Res D} {pos cpos apos p:Pos} {x:Str}
def Xc (i:Nat) (fk fv:Sl->Res D):Sl->Res Out:=fun env=>ownK i env>>=fun q=>fv env>>=fun d=>fk env>>=fun kd=>match keyD kd with
 |some k=>must (q.1.length<aae) (.ok (.nx (env.set i (.own (.dic (wX q.1 k) (wY q.1 q.2 k d))))))
 |none=> .stuck
theorem uE (i:Nat) (hu:X.A.units+1<cLine) (hk:DE X l1 e1 fk) (hv:DE X .s e2 fv) (hN:X.N[i]?=some x:=by rfl) (hvs:Vis X.env.scope x:=by first|exact abw rfl|exact aa4 (abw rfl)|exact aa4 (aa4 rfl))
   (hd:(x==("__debug__" :Str))=false:=by decide) (hcd:(x==("__classdict__" :Str))=false:=by decide)
   (hs:ab1 e2 (some (.Subscript (.Name x p) e1 apos)) pos.line X.env=pure false:=by rfl):
   DS X (.Assign [.Subscript (.Name x p) e1 apos] e2 pos) (Xc i fk fv):=by
 with_unfolding_all exact (
  PS.imp (kW hu (wu (i:=i) hN hvs hd hcd) hk hv hs) fun E σ H ⟨G,H0,env,o,k,ef,q⟩=>by
   obtain ⟨ks,c1,ef⟩:=jc ef;obtain ⟨d,c2,ef⟩:=jc ef;obtain ⟨kd,c3,c4⟩:=jc ef;have hi:=Jn c1;obtain ⟨a,kvs,ha,hx,hkk,rs⟩:=WH k hi
   cases hkey:keyD kd with
   |none=>rw [hkey] at c4;cases c4
   |some kk=>
    rw [hkey] at c4;obtain ⟨hz,c5⟩:=jp c4;cases c5;refine ⟨G,H0,env,d,k,c2,fun v H1 s1 r1 _=>⟨.ref a,ha,G,H0,env,kd,k.grow s1,c3,fun y H2 s2 r2 _=>?_⟩⟩;have hx2:=s2 _ _ (s1 _ _ hx);have hy:=Zm (r2.weak (A':=Any) Lv.weak_b) hkey;subst hy;have hl:kvs.length<aae:=by rw [←hkk,aan] at hz;exact hz
    refine ⟨a,_,rfl,DPut.k hx2 hl,?_⟩;have W:=((k.grow s1).grow s2).putD (kk:=kk) hi ha hx2 hkk ((rs.grow s1).grow s2) (r1.grow s2)
    exact q σ _ W.1 ((W.2.grow s2).grow s1))
def jgu:V->List V->Hp->VK->Prop:=fun x xs H Q=> ∃a kvs k z,x= .ref a/\xs=[kV k,z]/\H a=some (.dK kvs)/\kvs.length<aae/\(∀v,valV kvs k=some v->Q v H)/\(valV kvs k=none->Q z (upd H a (.dK (putK kvs k z))))
theorem vG:MtR X "dict.setdefault" jgu:=by
 intro pins s σ H x xs v us Q I rx rs h;obtain ⟨a,kvs,k,z,rfl,rfl,ha,hl,q1,q2⟩:=h;obtain rfl:v=aaJ a:=rx
 obtain ⟨u1,u2,rfl,r1,r2⟩: ∃u1 u2,us=[u1,u2]/\RelV (kV k) u1/\RelV z u2:=by
   cases rs with
   |cons h1 t=>cases t with|cons h2 t=>cases t;exact ⟨_,_,rfl,h1,h2⟩
 obtain ⟨hz,hd,vs,rel,dd⟩:=jdF I.hok ha;have hvl:vs.length<=aae:=by rw [←rel.length];exact hz
 have hpl:(putK kvs k z).length<=aae:=by have:=yW kvs k z;omega
 refine call_meetsIn acg dd.typeIs PySem.F.entry_dict_setdefault (PySem.F.args_dict_setdefault_3 _ _ _) (kt_meets_setdefault (qr X.prog X.w) a (ja4 r1) hd u2) ⟨vs,dd,hvl,fun w hw=>?_,fun hn h' dd' hs=>?_⟩
 · have hv:=rel.val k;rw [hw] at hv
   cases hvv:valV kvs k with
   |none=>rw [hvv] at hv;exact hv.elim
   |some v'=>
    rw [hvv] at hv;exact ⟨v',H,I.tok _,hv,q1 v' hvv⟩
 · have hv:=rel.val k;rw [hn] at hv
   cases hvv:valV kvs k with
   |some v'=>rw [hvv] at hv;exact hv.elim
   |none=>
    have he: ∃q,h'.get? a=some q:=let ⟨q,_,_,hq,_⟩:=dd';⟨q,hq⟩
    exact ⟨z,_,Kq I (by rw [ha];exact ab3) hs he (jcl hpl hd (rel.put k r2) dd'),r2,q2 hvv⟩
def kD:Key->D
 | .inl i=> .int i
 | .inr x=> .str x
theorem vU {P:aaD} {w:World}: ∀ {ks:List (Key×Value)} {its:List Value},its.length=ks.length->(∀(j:Nat) (v:Value),its[j]?=some v-> ∃k x,ks[j]?=some (k,x)/\(qr P w).is k v=true)->Vals (ks.map fun q=>kV q.1) its
 | [],[],_,_=> .nil
 | [],_::_,h,_=>by simp at h
 |_::_,[],h,_=>by simp at h
 | (k,x)::ks,v::its,h,hv=>by
  obtain ⟨k',x',e,hk⟩:=hv 0 v rfl;simp at e;obtain ⟨rfl,rfl⟩:=e;refine .cons ?_ (vU (by simpa using h) fun j u hu=>hv (j+1) u (by simpa using hu))
  cases k with
  |inl i=>
   obtain ⟨t,rfl⟩:=adT (k:=i) (v:=v) hk;exact ⟨t,rfl⟩
  |inr z=>
   obtain ⟨t,rfl⟩:=Value.isStrOf_shape (x:=z) (v:=v) hk;exact ⟨t,rfl⟩
theorem UX (hc:X.calm=true):CallR X (.type "list") (fun xs H Q=> ∃a kvs,xs=[.ref a]/\H a=some (.dK kvs)/\ ∀l,H l=none->Q (.ref l) (upd H l (.lst (kvs.map fun q=>kV q.1)))):=by
 intro pins s σ H xs us Q I r h;obtain ⟨a,kvs,rfl,ha,q⟩:=h;obtain ⟨u,rfl,rx⟩:=QQ r;cases rx;obtain ⟨hz,hd,vs,rel,dd⟩:=jdF I.hok ha;have hvl:vs.length<=aae:=by rw [←rel.length];exact hz
 obtain ⟨ep,hat⟩:=dd.dictAt;refine PySem.W.kdl_call (PySem.W.kdl_dict (knd:=qr X.prog X.w) (kvs:=vs) (ep:=ep) hd) (I.ok.hd hc) hat hvl fun h' tk acc' c' hk hS hacc=>?_
 have hv:=vU (P:=X.prog) (w:=X.w) (ks:=vs) (its:=acc'.toList) (by rw [aby];exact hacc.1) fun j v e=>hacc.2 j v (by rw [←aco];exact e)
 have hkeys:(vs.map fun q=>kV q.1)=(kvs.map fun q=>kV q.1):=by
  have:=rel.keys;have h2:=congrArg (List.map kV) this;simp only [ab6] at h2;exact h2.symm
 rw [hkeys] at hv;refine ⟨.ref s.heap.objs.size,_,I.laid (t':=tk) hk (aai _) (show ObjOk X.prog X.w _ h' _ (.lst (kvs.map fun q=>kV q.1)) from ⟨by rw [aan];exact hz,acc'.toList,c',hv,by rw [Array.toArray_toList];exact hS⟩),rfl,q _ (I.hok.fresh (aai _))⟩
def jaW:List D->Res D
 | [.dic ks _]=>must ((ks.all fun k=>match k with| .inl _=>true| .inr _=>false)=true) (.ok (.lst (ks.map kD)))
 |_=> .stuck
theorem jbJ:Yo K (fun xs H Q=> ∃a kvs,xs=[.ref a]/\H a=some (.dK kvs)/\ ∀l,H l=none->Q (.ref l) (upd H l (.lst (kvs.map fun q=>kV q.1)))) jaW:=by
 intro A xs H ds d Q r e q;unfold jaW at e
 split at e
 · rename_i ks vs;obtain ⟨hall,e2⟩:=jp e;cases e2;obtain ⟨v,rfl,r1⟩:=r.one;obtain ⟨p,kvs,rfl,hp,_,rfl,_⟩:=r1.dicE;refine ⟨p,kvs,rfl,hp,fun l hl=>q _ _ (Same.upd hl) (.lst jB (.inl hl) ?_) (qE (Same.refl H) hl)⟩
   have key: ∀(kvs:List (Key×V)),((kvs.map (·.1)).all fun k=>match k with| .inl _=>true| .inr _=>false)=true-> ∀(A':Addr->Prop) (H':Hp),Reps K A' H' (kvs.map fun q=>kV q.1) ((kvs.map (·.1)).map kD):=by
    intro kvs
    induction kvs with
    |nil=>intro _ A' H';exact .nil
    |cons q r ih=>
     intro h A' H';simp only [aaw,adl,aap] at h;obtain ⟨k,v⟩:=q
     cases k with
     |inl i=>exact .cons (.int i) (ih h.2 A' H')
     |inr z=>cases h.1
   exact key kvs hall _ _
 · cases e
end
end M
namespace M
open PySem PySem.Spec L2
open PyProof.Rows hiding St
section
variable {X:Cx} {tg a b c:Expr} {ta:TA} {p pos:Pos}
def jb7:Sl->Res Out:=fun _=> .stuck
theorem uA {sts:List Stmt}:DSs X sts jb7:=by
 with_unfolding_all exact (PSs.imp kT fun E σ H ⟨G,H0,env,o,k,ef,q⟩=>by cases ef)
end
end M
namespace M
open PySem PySem.W PyProof.Rows
def Wk {α:Type} (lt:Nat->Nat->Bool) (n:Nat) (R:α->Prop):KasT α->Prop
 | .ret a=>R a
 | .ask i j k=>i<n/\j<n/\Wk lt n R (k (lt i j))
theorem Wk.bind {α β:Type} {lt:Nat->Nat->Bool} {n:Nat} {R:α->Prop} {R':β->Prop} {f:α->KasT β} (hf: ∀a,R a->Wk lt n R' (f a)): ∀ {t:KasT α},Wk lt n R t->Wk lt n R' (t.bind f)
 | .ret a,h=>hf a h
 | .ask i j k,h=>⟨h.1,h.2.1,Wk.bind hf h.2.2⟩
theorem Wk.imp {α:Type} {lt:Nat->Nat->Bool} {n:Nat} {R R':α->Prop} (hr: ∀a,R a->R' a): ∀ {t:KasT α},Wk lt n R t->Wk lt n R' t
 | .ret a,h=>hr a h
 | .ask i j k,h=>⟨h.1,h.2.1,Wk.imp hr h.2.2⟩
theorem jcc {α:Type} {lt:Nat->Nat->Bool} {n:Nat} {R:α->Prop} {Q:α->aaj->Prop} {P:aaj->Prop} {cmp:Nat->Nat->(Bool->aaj->Prop)->aaj->Prop}
  (hc: ∀i j C s,i<n->j<n->P s->(∀s',P s'->C (lt i j) s')->cmp i j C s) (hQ: ∀a s,R a->P s->Q a s): ∀(t:KasT α) (s:aaj),Wk lt n R t->P s->t.kasWp cmp Q s
 | .ret a,s,h,hs=>hQ a s h hs
 | .ask i j k,s,h,hs=>hc i j _ s h.1 h.2.1 hs fun s' hs'=>jcc hc hQ _ s' h.2.2 hs'
structure Ord (lt:Nat->Nat->Bool) (n:Nat):Prop where
 asym: ∀i j,lt i j=true->lt j i=false
 trans: ∀i j k,i<n->j<n->k<n->lt i j=true->lt j k=true->lt i k=true
 total: ∀i j,i<n->j<n->i≠j->lt i j=true\/lt j i=true
abbrev at0 (p:Array Nat) (i:Nat):Nat:=p.getD i 0
structure Pm (p:Array Nat) (n:Nat):Prop where
 size:p.size=n
 perm:p.toList.Perm (abx n)
theorem y9 {p:Array Nat} {i:Nat} (h:i<p.size):p[i]?=some (at0 p i):=by
 rw [Array.getElem?_eq_getElem h];simp [at0,adX,h]
theorem Pm.lt {p:Array Nat} {n i:Nat} (h:Pm p n) (hi:i<n):at0 p i<n:=by
 have hi':i<p.size:=by rw [h.size];exact hi
 have:at0 p i∈p.toList:=by simp [at0,adX,hi']
 exact abJ.mp (h.perm.mem_iff.mp this)
theorem Pm.ne {p:Array Nat} {n i j:Nat} (h:Pm p n) (hi:i<n) (hj:j<n) (hij:i≠j):at0 p i≠at0 p j:=by
 have nd:p.toList.Nodup:=h.perm.nodup_iff.mpr List.nodup_range;have hi':i<p.toList.length:=by simp [h.size,hi]
 have hj':j<p.toList.length:=by simp [h.size,hj]
 intro e;have e1:at0 p i=p.toList[i]:=by simp [at0,adX,h.size,hi]
 have e2:at0 p j=p.toList[j]:=by simp [at0,adX,h.size,hj]
 rw [e1,e2] at e;have pw:=acz.mp nd;rcases Nat.lt_or_gt_of_ne hij with z|z
 · exact pw i j hi' hj' z e
 · exact pw j i hj' hi' z e.symm
theorem Pm.of {p q:Array Nat} {n:Nat} (h:Pm p n) (hs:q.size=p.size) (hp:q.Perm p):Pm q n:=⟨by rw [hs,h.size],(Array.perm_iff_toList_perm.mp hp).trans h.perm⟩
theorem Pm.rev {p:Array Nat} {n:Nat} (h:Pm p n) (i j:Nat):Pm (kas_rev p i j) n:=h.of (mirror_size _ _ _ _) (mirror_perm _ _ _ _)
theorem u0 {p:Array Nat} {n j k:Nat} (h:Pm p n) (hj:j<=n) (hk:k<n):at0 (kas_rev p 0 j) k=if k<j then at0 p (j-1-k) else at0 p k:=by
 have hR:=h.rev 0 j;have e:=getElem?_mirror_all (xs:=p) (i:=0) (j:=j) (by rw [h.size];exact hj) k;have e1:=y9 (p:=kas_rev p 0 j) (i:=k) (by rw [hR.size];exact hk);unfold kas_rev at e1;rw [e] at e1;simp only [abp,true_and,adJ] at e1;show at0 (mirror p 0 j ((j-0)/2)) k=_
 split at e1
 · rename_i hkj;rw [if_pos hkj];rw [y9 (by rw [h.size];omega)] at e1;exact (aaF e1).symm
 · rename_i hkj;rw [if_neg hkj];rw [y9 (by rw [h.size];exact hk)] at e1;exact (aaF e1).symm
section
variable {lt:Nat->Nat->Bool} {n:Nat} (O:Ord lt n)
def Up (lt:Nat->Nat->Bool) (p:Array Nat) (k:Nat):Prop:= ∀i j,i<j->j<k->lt (at0 p i) (at0 p j)=true
def Down (lt:Nat->Nat->Bool) (p:Array Nat) (k:Nat):Prop:= ∀i j,i<j->j<k->lt (at0 p j) (at0 p i)=true
include O
theorem Up.snoc {p:Array Nat} {k:Nat} (hp:Pm p n) (hk:k+1<n) (h:Up lt p (k+1)) (hl:lt (at0 p k) (at0 p (k+1))=true):Up lt p (k+2):=fun i j hij hj=>by
 by_cases e:j=k+1
 · subst e
   by_cases e2:i=k
   · subst e2;exact hl
   · exact O.trans _ _ _ (hp.lt (by omega)) (hp.lt (by omega)) (hp.lt hk) (h i k (by omega) (by omega)) hl
 · exact h i j hij (by omega)
theorem Down.snoc {p:Array Nat} {k:Nat} (hp:Pm p n) (hk:k+1<n) (h:Down lt p (k+1)) (hl:lt (at0 p (k+1)) (at0 p k)=true):Down lt p (k+2):=fun i j hij hj=>by
 by_cases e:j=k+1
 · subst e
   by_cases e2:i=k
   · subst e2;exact hl
   · exact O.trans _ _ _ (hp.lt hk) (hp.lt (by omega)) (hp.lt (by omega)) hl (h i k (by omega) (by omega))
 · exact h i j hij (by omega)
theorem jd2 {p:Array Nat} {i j:Nat} (hp:Pm p n) (hi:i<n) (hj:j<n) (hij:i≠j) (h:lt (at0 p i) (at0 p j)=false):lt (at0 p j) (at0 p i)=true:=by
 rcases O.total _ _ (hp.lt hi) (hp.lt hj) (hp.ne hi hj hij) with z|z
 · rw [h] at z;cases z
 · exact z
theorem jdV {p:Array Nat} (hp:Pm p n): ∀(f m:Nat),1<=m->m+f=n->Up lt p m->Wk lt n (fun r=>m<=r/\r<=n/\Up lt p r/\(r<n->lt (at0 p r) (at0 p (r-1))=true)) (kas_asc p f m)
 |0,m,h1,h2,h=>⟨aai _,by omega,h,fun z=>by omega⟩
 |f+1,m,h1,h2,h=>by
  refine ⟨hp.lt (by omega),hp.lt (by omega),?_⟩
  cases hc:lt (p.getD m 0) (p.getD (m-1) 0) with
  |true=>
   exact ⟨aai _,by omega,h,fun _=>hc⟩
  |false=>
   have hup:Up lt p (m+1):=by
    have e:m=(m-1)+1:=by omega
    have hl:=jd2 O hp (i:=m) (j:=m-1) (by omega) (by omega) (by omega) hc;rw [e] at h ⊢;exact Up.snoc O hp (by omega) h (by rw [←e];exact hl)
   have ih:=jdV hp f (m+1) (by omega) (by omega) hup;exact Wk.imp (fun r ⟨a,b,c,d⟩=>⟨by omega,b,c,d⟩) ih
theorem jcm {p:Array Nat} (hp:Pm p n): ∀(f m:Nat),1<=m->m+f=n->Down lt p m->Wk lt n (fun r=>r.1=p/\m<=r.2.1/\r.2.1<=n/\Down lt p r.2.1/\r.2.2=0) (kas_desc f p m 0)
 |0,m,h1,h2,h=>⟨rfl,aai _,(show m<=n by omega),h,rfl⟩
 |f+1,m,h1,h2,h=>by
  refine ⟨hp.lt (by omega),hp.lt (by omega),?_⟩
  cases hc:lt (p.getD m 0) (p.getD (m-1) 0) with
  |true=>
   have hdn:Down lt p (m+1):=by
    have e:m=(m-1)+1:=by omega
    have hl:lt (at0 p m) (at0 p (m-1))=true:=hc;rw [e] at h ⊢;exact Down.snoc O hp (by omega) h (by rw [←e];exact hl)
   have ih:=jcm hp f (m+1) (by omega) (by omega) hdn;exact Wk.imp (fun r ⟨a,b,c,d,e⟩=>⟨a,by omega,c,d,e⟩) ih
  |false=>
   have hl:=jd2 O hp (i:=m) (j:=m-1) (by omega) (by omega) (by omega) hc;refine ⟨hp.lt (by omega),hp.lt (by omega),?_⟩;show Wk lt n _ (if lt (at0 p (m-1)) (at0 p m)=true then _ else _);rw [if_pos hl];exact ⟨rfl,aai _,(show m<=n by omega),h,rfl⟩
theorem Down.rev {p:Array Nat} {k:Nat} (hp:Pm p n) (hk:k<=n) (h:Down lt p k):Up lt (kas_rev p 0 k) k:=fun i j hij hj=>by
 rw [u0 hp hk (by omega),u0 hp hk (by omega),if_pos (by omega),if_pos hj];exact h _ _ (by omega) (by omega)
theorem jd9 {p:Array Nat} {k:Nat} (hp:Pm p n) (h1:1<=k) (hk:k<=n) (h:Down lt p k):Wk lt n (fun r=>1<=r.1/\r.1<=n/\Pm r.2 n/\Up lt r.2 r.1) (kas_tail3 k n p):=by
 unfold kas_tail3;refine Wk.bind (fun r ⟨a,b,c,_⟩=>?_) (jdV O (hp.rev 0 k) (n-k) k h1 (by omega) (Down.rev O hp hk h));exact ⟨by omega,b,hp.rev 0 k,c⟩
theorem jdN {p:Array Nat} (hp:Pm p n) (hn:1<=n):Wk lt n (fun r=>1<=r.1/\r.1<=n/\Pm r.2 n/\Up lt r.2 r.1) (kas_count n p):=by
 unfold kas_count;refine Wk.bind (fun r ⟨a,b,c,d⟩=>?_) (jdV O hp (n-1) 1 (aai _) (by omega) (fun i j hij hj=>by omega))
 by_cases e:r=n
 · subst e;rw [if_pos (by simp)];exact ⟨a,b,hp,c⟩
 · rw [if_neg (by simpa using e)]
   by_cases h1:r>1
   · rw [if_pos h1];refine ⟨hp.lt (by omega),hp.lt (by omega),?_⟩;have:lt (p.getD 0 0) (p.getD (r-1) 0)=true:=c 0 (r-1) (by omega) (by omega);show Wk lt n _ (if lt (p.getD 0 0) (p.getD (r-1) 0)=true then _ else _);rw [if_pos this];exact ⟨a,b,hp,c⟩
   · rw [if_neg h1];have hr:r=1:=by omega
     subst hr;unfold kas_descPart
     have hd:Down lt p 2:=fun i j hij hj=>by
      have:i=0/\j=1:=by omega
      obtain ⟨rfl,rfl⟩:=this;exact d (by omega)
     refine Wk.bind (fun q ⟨q1,q2,q3,q4,q5⟩=>?_) (jcm O hp (n-2) 2 (by omega) (by omega) hd);rw [if_neg (by omega),q1];exact jd9 O hp (by omega) q3 q4
theorem YO {p:Array Nat} {k:Nat} (hp:Pm p n) (hk:k<n) (hu:Up lt p k): ∀(f l r:Nat),l<=r->r<=k->r-l<=f->(∀i,i<l->lt (at0 p i) (at0 p k)=true)->(∀i,r<=i->i<k->lt (at0 p k) (at0 p i)=true)->
  Wk lt n (fun m=>m<=k/\(∀i,i<m->lt (at0 p i) (at0 p k)=true)/\ ∀i,m<=i->i<k->lt (at0 p k) (at0 p i)=true) (kas_place p k f l r)
 |0,l,r,h1,h2,h3,hl,hr=>⟨by omega,hl,fun i a b=>hr i (by omega) b⟩
 |f+1,l,r,h1,h2,h3,hl,hr=>by
  unfold kas_place
  by_cases e:l>=r
  · rw [if_pos e];exact ⟨by omega,hl,fun i a b=>hr i (by omega) b⟩
  · rw [if_neg e];have hm:(l+r)/2<r:=by omega
    refine ⟨hp.lt hk,hp.lt (by omega),?_⟩
    cases hc:lt (p.getD k 0) (p.getD ((l+r)/2) 0) with
    |true=>
     refine YO hp hk hu f l ((l+r)/2) (by omega) (by omega) (by omega) hl fun i a b=>?_
     by_cases e2:i=(l+r)/2
     · rw [e2];exact hc
     · exact O.trans _ _ _ (hp.lt hk) (hp.lt (show (l+r)/2<n by omega)) (hp.lt (by omega)) hc (hu _ _ (by omega) b)
    |false=>
     have hl2:=jd2 O hp (i:=k) (j:=(l+r)/2) hk (by omega) (by omega) hc;refine YO hp hk hu f ((l+r)/2+1) r (by omega) h2 (by omega) (fun i a=>?_) hr
     by_cases e2:i=(l+r)/2
     · rw [e2];exact hl2
     · exact O.trans _ _ _ (hp.lt (by omega)) (hp.lt (show (l+r)/2<n by omega)) (hp.lt hk) (hu _ _ (by omega) (by omega)) hl2
theorem Wq {p:Array Nat} {k l i:Nat} (hp:Pm p n) (hk:k<n) (hl:l<=k) (hi:i<n):at0 (bubble p k (k-l)) i=if i=l then at0 p k else if l<i/\i<=k then at0 p (i-1) else at0 p i:=by
 have hB:Pm (bubble p k (k-l)) n:=hp.of (bubble_size _ _ _) (bubble_perm _ _ _);have e:=getElem?_bubble (xs:=p) (src:=k) (by rw [hp.size];exact hk) (k-l) (by omega) i;rw [y9 (by rw [hB.size];exact hi)] at e;have ekl:k-(k-l)=l:=by omega
 rw [ekl] at e
 split at e
 · rename_i z;rw [if_pos z];rw [y9 (by rw [hp.size];exact hk)] at e;exact aaF e
 · rename_i z;rw [if_neg z]
   split at e
   · rename_i z2;rw [if_pos z2];rw [y9 (by rw [hp.size];omega)] at e;exact aaF e
   · rename_i z2;rw [if_neg z2];rw [y9 (by rw [hp.size];exact hi)] at e;exact aaF e
theorem jf0 : ∀ (f : Nat) (p : Array Nat) (k : Nat), Pm p n -> k + f = n -> Up lt p k -> Wk lt n (fun q => Pm q n /\ Up lt q n) (kas_bin f p k)
  | 0, p, k, hp, hk, h => ⟨hp, by have : k = n := by omega
                                  rw [this] at h; exact h⟩
  | f + 1, p, k, hp, hk, h => by
    unfold kas_bin
    refine Wk.bind (fun l ⟨a, b, c⟩ => ?_) (YO O hp (by omega) h k 0 k (by omega) (aai _) (by omega) (fun i z => by omega) (fun i z w => by omega))
    refine jf0 f _ (k + 1) (hp.of (bubble_size _ _ _) (bubble_perm _ _ _)) (by omega) fun i j hij hj => ?_
    rw [Wq O hp (by omega) a (by omega), Wq O hp (by omega) a (by omega)]
    by_cases e1 : i = l
    · rw [if_pos e1, if_neg (by omega), if_pos (by omega)]
      exact c _ (by omega) (by omega)
    · rw [if_neg e1]
      by_cases e2 : l < i /\ i <= k
      · rw [if_pos e2, if_neg (by omega), if_pos (by omega)]
        exact h _ _ (by omega) (by omega)
      · rw [if_neg e2]
        by_cases e3 : j = l
        · rw [if_pos e3]; exact b _ (by omega)
        · rw [if_neg e3]
          by_cases e4 : l < j /\ j <= k
          · rw [if_pos e4]
            by_cases e5 : i = j - 1
            · omega
            · exact h _ _ (by omega) (by omega)
          · rw [if_neg e4]; exact h _ _ hij (by omega)
theorem jeg (hn:1<=n):Wk lt n (fun q=>Pm q n/\Up lt q n) (kas_sort n):=by
 have hp:Pm (acM (abx n)) n:=⟨by simp,by simp⟩
 unfold kas_sort;refine Wk.bind (fun r ⟨a,b,c,d⟩=>?_) (jdN O hp hn)
 by_cases e:r.1<n
 · rw [if_pos e];have:max r.1 1=r.1:=by omega
   rw [this];exact jf0 O _ _ _ c (by omega) d
 · rw [if_neg e];have:r.1=n:=by omega
   rw [this] at d;exact ⟨c,d⟩
end
end M
namespace M
open PySem PySem.W PyProof.Rows
section
variable {prog:aaD} {w:World} {A:aaX} {E:Value->aaj->Prop} {s:aaj} {a:Addr} {vs:List Value} {n:Nat}
def zg (h:Heap) (a:Addr) (vs:List Value):Heap:=((h.update a (ac8 fun _=>(#[]:Array Value))).push (acA "tuple" vs.toArray 0)).push (acA "list" #[] 0)
def YT (vs:List Value) (p:Array Nat):List Value:=p.toList.map fun i=>vs.getD i abh
theorem JM {h:Heap} {b:Addr} {o:Obj} (hb:b≠a) (e:h.get? b=some o):(zg h a vs).get? b=some o:=
 aac _ (aac _ ((ace _ _ (acF hb)).trans e))
theorem WT {P:PySem.Fin->aaj->Prop} {lt:Nat->Nat->Bool} (O:Ord lt vs.length) (κ:SortKind) (ho:s.heap.get? a=some (acA "list" vs.toArray n)) (h2:2<=vs.length) (h64:vs.length<64)
  (hk: ∀Q:SortKind->aaj->Prop,Q κ {s with heap:=zg s.heap a vs}->wpAny (model prog w) A (keyKind' vs.toArray) Q (fun _ _=>False) {s with heap:=zg s.heap a vs})
  (hc: ∀i j C,i<vs.length->j<vs.length->C (lt i j) {s with heap:=zg s.heap a vs}->kas_ask prog w A κ vs i j C {s with heap:=zg s.heap a vs})
  (h: ∀p h' c,Pm p vs.length->Up lt p vs.length->(∀b o,b≠a->s.heap.get? b=some o->h'.get? b=some o)->h'.get? a=some (acA "list" (acM (YT vs p)) c)->P (.done (.ret .none)) {s with heap:=h'}):
  wpAny (model prog w) A (adv.«list.sort» ⟨[.ref a],[]⟩) P E s:=by
 obtain ⟨c1,b1⟩: ∃c1,(s.heap.update a (ac8 fun _=>(#[]:Array Value))).get? a=some (acA "list" #[] c1):=⟨_,adx ho fun _=> #[]⟩
 have b2:(zg s.heap a vs).get? a=some (acA "list" #[] c1):=aac _ (aac _ b1);have big:vs.length<=aae:=by rw [ack];omega
 have walk:(kas_sort vs.length).kasWp (kas_ask prog w A κ vs) (fun p t=>t={s with heap:=zg s.heap a vs}/\Pm p vs.length/\Up lt p vs.length) {s with heap:=zg s.heap a vs}:=
  jcc (P:=fun t=>t={s with heap:=zg s.heap a vs}) (R:=fun p=>Pm p vs.length/\Up lt p vs.length) (fun i j C t hi hj ht hC=>by subst ht;exact hc i j C hi hj (hC _ rfl)) (fun p t hp ht=>⟨ht,hp⟩) _ _ (jeg O (by omega)) rfl
 rw [list_sort_plain];refine aab (listItems_at (s:=s) ho rfl (aab (listUpdate_at (s:=s) ho rfl (aab (seqEpoch_at b1 rfl (aab (wpAny_newTuple (aab (wpAny_newList (ab8 ?_) (abp _))) (by show vs.length<=aae;exact big))))) (by rw [aaf];exact big) (abp _))));show wpAny (model prog w) A _ P E {s with heap:=zg s.heap a vs};dsimp only;have small: ¬vs.toArray.size<2:=by rw [aaf];omega
 rw [if_neg small,if_neg small];refine aab (acb (hk (fun κ' t=>κ'=κ/\t={s with heap:=zg s.heap a vs}) ⟨rfl,rfl⟩) (fun κ' t hkt=>?_) fun _ _ z=>z.elim);obtain ⟨rfl,rfl⟩:=hkt;refine aab (acb (kat_run (κ:=κ') (Q:=fun st t=> ∃p:Array Nat,p.size=vs.length/\arrOf st=p.map (kas_item (vs.toArray.zip vs.toArray))/\failedOf st=none/\t={s with heap:=zg s.heap a vs}/\Pm p vs.length/\Up lt p vs.length) rfl h2 h64 (fun p st t z1 z2 z3 z4=>⟨p,z1,z2,z3,z4⟩) walk) ?_ fun _ _ z=>z);rintro ⟨⟨⟩,st⟩ t ⟨p,hp,har,hf,rfl,hpm,hup⟩;dsimp only;have hsz:(acM (YT vs p)).size<=aae:=by rw [aaf];unfold YT;rw [aan,aby,hp];exact big
 rw [kat_snds rfl har];obtain ⟨c2,hc2⟩: ∃c2,((zg s.heap a vs).update a (ac8 fun _=>acM (YT vs p))).get? a=some (acA "list" (acM (YT vs p)) c2):=⟨_,adx b2 fun _=>acM (YT vs p)⟩
 refine aab (seqEpoch_at b2 rfl (aab (listUpdate_at b2 rfl ?_ (abp _) (Nat.le_succ_of_le hsz))));rw [hf];simp only [bne_self_eq_false,aaN,if_false];exact aak (h p _ c2 hpm hup (fun b o hb e=>(ace _ _ (acF hb)).trans (JM hb e)) hc2)
end
end M
namespace M
open PySem PySem.W PyProof.Rows
def DAt (h:Heap) (d:Addr) (ks:List Value) (ep:Nat):Prop:= ∃o es,h.get? d=some o/\o.ExactDict/\o.data= .dict es ep/\es.toList.map (·.key)=ks
section
variable {prog:aaD} {w:World} {A:aaX} {E:Value->aaj->Prop} {s:aaj} {d it:Addr} {ks:List Value} {ep i:Nat}
theorem DAt.typeIs (x:DAt s.heap d ks ep):s.TypeIs (.ref d) "dict" :=let ⟨o,es,ho,hc,_⟩:=x;⟨o,ho,hc.1⟩
theorem DAt.at {h h':Heap} (x:DAt h d ks ep) (e: ∀o,h.get? d=some o->h'.get? d=some o):DAt h' d ks ep:=let ⟨o,es,ho,r⟩:=x;⟨o,es,e _ ho,r⟩
theorem DAt.lt {h:Heap} (x:DAt h d ks ep):d<h.objs.size:=let ⟨_,_,ho,_⟩:=x;aat ho
theorem jbD {Q:Value->aaj->Prop} (hd:(d==abR)=false) (hm:DAt s.heap d ks ep)
  (hQ:Q (.ref s.heap.objs.size) {s with heap:=s.heap.push {cls:= .type "dict_keyiterator",data:= .fields #[.ref d,.int 0 0,.int ks.length 0,.int ep 0]}}):wpAny (model prog w) A (pyIter (.ref d)) Q E s:=by
 obtain ⟨o,es,ho,hc,hdat,hkeys⟩:=id hm;have T:=hm.typeIs;have hsz:es.size=ks.length:=by rw [←hkeys];simp
 refine wpAny_pyIter_slot T PySem.F.slot_dict_iter (aba PySem.F.slot_dict_iter T PySem.F.entry_dict_iter ?_ (PySem.F.args_dict_iter_1 _));unfold adv.«dict.__iter__» Builtin.Dict.dictSlotNone;refine aab (aab (wpAny_notOrdered_dict T (show wpAny _ _ (pure (aaJ d)) _ _ s from aak ?_)));show wpAny _ _ (aec d>>=_) _ _ s;unfold aec;rw [if_neg (by rw [hd];exact aaz)];refine aab (aak (aab (wpAny_dictEntries ho hdat (aab (wpAny_dictEpoch ho hdat (aab (abg (aak ⟨_,rfl, "dict_keyiterator",_,⟨_,aam _ rfl,rfl⟩,aa7.lookup,?_⟩))))))));simpa [adV,hsz] using hQ
theorem jbE {Q:Option Value->aaj->Prop} {k:Value} (hit:s.heap.IsKeyIter it d i ks.length ep) (hm:DAt s.heap d ks ep) (hx:ks[i]?=some k)
  (hQ: ∀h',h'.IsKeyIter it d (i+1) ks.length ep->acK it s.heap h'->Q (some k) {s with heap:=h'}):wpAny (model prog w) A (pyNext (.ref it)) Q E s:=by
 obtain ⟨o,ho,hc,hf⟩:=id hit;obtain ⟨od,es,hod,hcd,hdd,hkeys⟩:=id hm;have hsz:es.size=ks.length:=by rw [←hkeys];simp
 have hlt:i<es.size:=by
  rw [hsz];rcases Nat.lt_or_ge i ks.length with z|z
  · exact z
  · rw [aaO z] at hx;cases hx
 have hk:es[i].key=k:=by
  have:(es.toList.map (·.key))[i]?=some k:=by rw [hkeys];exact hx
  rw [aaH] at this;simpa [hlt] using this
 unfold pyNext;refine aab (wpAny_attempt (aa6 (name:=acm "__next__") hit.typeIs aa7 (aba aa7 hit.typeIs acI ?_ (acB _))));refine aab (aak (aab (aab ?_)))
 first|refine aab (abI hit.typeIs (aak (aab (adP ho hf ?_))))|refine aab (ab5 hit.typeIs (aak (aab (adP ho hf ?_))))
 simp only [show adm "dict_keyiterator" =false by decide,aaN,if_false];show wpAny _ _ (if (aaJ d==abh)=true then _ else _) _ _ s;rw [if_neg (show¬((aaJ d==abh)=true) by exact aaz)];refine aab (aak (aab (wpAny_dictEntries hod hdd ?_)));rw [if_neg (by rw [hsz];simp)];refine aab (aak (aab (wpAny_dictEpoch hod hdd ?_)));rw [if_neg (by simp)];refine aak ?_;simp only [show¬((i:Int)<0) by omega,if_false,abo,Array.getElem?_eq_getElem hlt];refine aab ?_
 first|refine aab (abI hit.typeIs (aak (aab (adb hit.typeIs ?_))))|refine aab (ab5 hit.typeIs (aak (aab (adb hit.typeIs ?_))))
 show wpAny _ _ (setField (.ref it) 1 (adV ((i:Int)+1))>>=_) _ _ s;refine aab (adQ ho hf (by simp) (aab (ab8 ?_)))
 have hit2:(s.heap.update it (Obj.mapFields (·.setIfInBounds 1 (adV ((i:Int)+1))))).IsKeyIter it d (i+1) ks.length ep:=
  ⟨_,Heap.get?_update_self _ ho (Obj.isFreed_of_fields (acX hf _)),(Obj.cls_mapFields ..).trans hc,by rw [acX hf];simp [adV]⟩
 refine aab (adb (s:={s with heap:=s.heap.update it (Obj.mapFields (·.setIfInBounds 1 (adV ((i:Int)+1))))}) hit2.typeIs ?_);show wpAny _ _ (pure es[i].key) _ _ _;rw [hk];exact aak (aak ⟨_,rfl,aak (hQ _ hit2 (acJ ..))⟩)
theorem jdM {Q:Option Value->aaj->Prop} (hh:A.handled=none) (hit:s.heap.IsKeyIter it d ks.length ks.length ep) (hm:DAt s.heap d ks ep)
  (hQ: ∀h',Heap.ExtBut it s.heap h'->Q none {s with heap:=h'}):wpAny (model prog w) A (pyNext (.ref it)) Q E s:=by
 obtain ⟨o,ho,hc,hf⟩:=id hit;obtain ⟨od,es,hod,hcd,hdd,hkeys⟩:=id hm;have hsz:es.size=ks.length:=by rw [←hkeys];simp
 unfold pyNext;refine aab (wpAny_attempt (aa6 (name:=acm "__next__") hit.typeIs aa7 (aba aa7 hit.typeIs acI ?_ (acB _))));refine aab (aak (aab (aab ?_)))
 first|refine aab (abI hit.typeIs (aak (aab (adP ho hf ?_))))|refine aab (ab5 hit.typeIs (aak (aab (adP ho hf ?_))))
 simp only [show adm "dict_keyiterator" =false by decide,aaN,if_false];show wpAny _ _ (if (aaJ d==abh)=true then _ else _) _ _ s;rw [if_neg (show¬((aaJ d==abh)=true) by exact aaz)];refine aab (aak (aab (wpAny_dictEntries hod hdd ?_)));rw [if_neg (by rw [hsz];simp)];refine aab (aak (aab (wpAny_dictEpoch hod hdd ?_)));rw [if_neg (by simp)];refine aak ?_;simp only [show¬(((ks.length:Nat):Int)<0) by omega,if_false,abo,Array.getElem?_eq_none (show es.size<=ks.length by omega)];refine aab ?_
 first|refine aab (abI hit.typeIs (aak ?_))|refine aab (ab5 hit.typeIs (aak ?_))
 show wpAny _ _ (setField (.ref it) 0 .none>>=_) _ _ s;refine aab (adQ ho hf (by simp) ?_);show wpAny _ _ (newExc (.type "StopIteration") []>>=_) _ _ _;refine aab ?_;simp only [newExc,newTuple];refine aab (abg (aab (m:=adR _ _) (wpAny_of_eq (a:=abh) (by first|rfl| (simp only [adR];rfl)) (abg ?_ (by size_fits)))) (by size_fits));simp only [raiseNew];refine aab (wpAny_handled ?_);rw [show A.in1.handled=none from hh];refine aab (aak (wpAny_throw ?_));refine aab (adf (b:=true) (T:= "StopIteration") ⟨_,aam _ rfl,rfl⟩ isSubtype_stop ?_);exact aak (hQ _ (((acJ ..).extBut.push _).push _))
theorem jdL (lo:(d==abR)=false):KdlSrc prog w "dict" d d ks.length (fun i v=>ks[i]?=some v) (fun h=>DAt h d ks ep) where
 type:=fun _ hm=>hm.typeIs
 there:=fun _ hm=>⟨hm.lt,hm.lt⟩
 keep:=fun _ _ hm hk=>hm.at fun o e=>hk d (.inl rfl) o e
 notList:=by decide
 notTuple:=by decide
 hint:=fun _ _ _ _ hm hq=>kdl_hint_dict hm.typeIs hq
 iter:=fun A s hh hm=>⟨_,(fun i h=>h.IsKeyIter s.heap.objs.size d i ks.length ep/\DAt h d ks ep),(fun _ _ hq=>jbD lo hm hq),{
  sub:=fun b hb=>by simp at hb;simp [hb]
  frame:=fun _ _ _ st hk=>⟨let ⟨o,ho,r⟩:=st.1;⟨o,hk _ (by simp) o ho,r⟩,st.2.at fun o e=>hk d (by simp) o e⟩
  item:=fun i t Q E hi st hQ=>by
   have hx:ks[i]?=some ks[i]:=by simp [hi]
   exact jbE st.1 st.2 hx fun h' hit' hs'=>hQ _ h' t.toks hx ⟨hit',st.2.at fun o e=>hs'.extBut d o (aaG hm.lt) e⟩ fun b o hb e=>hs'.extBut b o (fun z=>hb (by simp [z])) e
  done:=fun t Q E st hQ=>jdM hh st.1 st.2 fun h' he'=>hQ h' t.toks fun b o hb e=>he' b o (fun z=>hb (by simp [z])) e
  self:=fun _ _ _ _ st hQ=>wpAny_pyIter_keyiter st.1 hQ},⟨⟨_,aam _ rfl,rfl,rfl⟩,hm.at fun o e=>aac _ e⟩⟩
end
end M
namespace M
open PySem PySem.W PyProof.Rows
abbrev Hd:=Str×Int
def hlt (a b:Hd):Bool:=if a.1=b.1 then decide (a.2<b.2) else decide (a.1.cps.toList<b.1.cps.toList)
theorem jcz {a b:Str} (h:a.cps.toList=b.cps.toList):a=b:=by
 cases a;cases b;simp only [Str.mk.injEq];exact Array.toList_inj.mp h
theorem Vo {a b:Hd} (h:hlt a b=true):hlt b a=false:=by
 unfold hlt at h ⊢
 by_cases e:a.1=b.1
 · rw [if_pos e] at h;rw [if_pos e.symm];simp only [decide_eq_true_eq] at h;simp only [decide_eq_false_iff_not];omega
 · rw [if_neg e] at h;rw [if_neg fun z=>e z.symm];simp only [decide_eq_true_eq] at h;simp only [decide_eq_false_iff_not];exact List.lt_asymm h
theorem XW {a b c:Hd} (h1:hlt a b=true) (h2:hlt b c=true):hlt a c=true:=by
 unfold hlt at h1 h2 ⊢
 by_cases e:a.1=b.1
 · rw [if_pos e] at h1
   by_cases e2:b.1=c.1
   · rw [if_pos e2] at h2;rw [if_pos (e.trans e2)];simp only [decide_eq_true_eq] at h1 h2 ⊢;omega
   · rw [if_neg e2] at h2;rw [if_neg (by rw [e];exact e2),e];exact h2
 · rw [if_neg e] at h1;simp only [decide_eq_true_eq] at h1
   by_cases e2:b.1=c.1
   · rw [if_pos e2] at h2;rw [if_neg (by rw [←e2];exact e),←e2];simpa using h1
   · rw [if_neg e2] at h2;simp only [decide_eq_true_eq] at h2;have h3:=List.lt_trans h1 h2;have e3:a.1≠c.1:=fun z=>List.lt_irrefl _ (by rw [z] at h3;exact h3)
     rw [if_neg e3];simpa using h3
theorem XX {a b:Hd} (h:a≠b):hlt a b=true\/hlt b a=true:=by
 unfold hlt
 by_cases e:a.1=b.1
 · have e2:a.2≠b.2:=fun z=>h (Prod.ext e z)
   rw [if_pos e,if_pos e.symm];simp only [decide_eq_true_eq];omega
 · rw [if_neg e,if_neg fun z=>e z.symm];simp only [decide_eq_true_eq];have:a.1.cps.toList≠b.1.cps.toList:=fun z=>e (jcz z)
   by_cases z:a.1.cps.toList<b.1.cps.toList
   · exact .inl z
   · exact .inr (Std.lt_of_le_of_ne z (acF this))
def hltI (hs:List Hd) (i j:Nat):Bool:=match hs[i]?,hs[j]? with
 |some a,some b=>hlt a b
 |_,_=>false
theorem vm {hs:List Hd} (nd:hs.Nodup):Ord (hltI hs) hs.length where
 asym:=fun i j h=>by
  unfold hltI at h ⊢
  cases hi:hs[i]? with
  |none=>rw [hi] at h;cases h
  |some a=>
    cases hj:hs[j]? with
    |none=>rfl
    |some b=>rw [hi,hj] at h;exact Vo h
 trans:=fun i j k hi hj hk h1 h2=>by
  unfold hltI at h1 h2 ⊢;rw [aag hi,aag hj] at h1;rw [aag hj,aag hk] at h2;rw [aag hi,aag hk];exact XW h1 h2
 total:=fun i j hi hj hij=>by
  unfold hltI;rw [aag hi,aag hj];refine XX fun e=>?_
  have pw:=acz.mp nd;rcases Nat.lt_or_gt_of_ne hij with z|z
  · exact pw i j hi hj z e
  · exact pw j i hj hi z e.symm
def IsHd (h:Heap) (v:Value) (a:Hd):Prop:= ∃b o n t u,v= .ref b/\h.get? b=some o/\o.cls= .type "tuple" /\o.data= .seq #[.str a.1 t,.int a.2 u] n
section
variable {prog:aaD} {w:World} {A:aaX} {E:Value->aaj->Prop} {s:aaj}
theorem jfC {x y:Addr} {ox oy:Obj} {a b:Hd} {n m:Nat} {t u t' u':Tok} {Q:Bool->aaj->Prop} (hx:s.heap.get? x=some ox) (dx:ox.data= .seq #[.str a.1 t,.int a.2 u] n) (hy:s.heap.get? y=some oy) (dy:oy.data= .seq #[.str b.1 t',.int b.2 u'] m) (h:Q (hlt a b) s):
   wpAny (model prog w) A (keyLt' (tuples' true) (.ref x) (.ref y)) Q E s:=by
 refine kat_lt hx dx hy dy ?_;show KatLex prog w A true false Q [(.str a.1 t,.str b.1 t'),(.int a.2 u,.int b.2 u')] 0 s;refine kat_cons (eqBool_str (kat_go (fun e=>kat_yes (kat_cons (wpAny_eqBool_int (kat_go (fun e2=>kat_yes (kat_nil ?_)) fun e2=>kat_no (kat_one _ _ (wpAny_lt_int ?_)))))) fun e=>kat_no (oneLt_str ?_)))
 · have h1:a.1=b.1:=by simpa using e
   have h2:a.2=b.2:=by simpa using e2
   have:hlt a b=false:=by unfold hlt;rw [if_pos h1];simp [h2]
   rw [this] at h;exact h
 · have h1:a.1=b.1:=by simpa using e
   have:hlt a b=decide (a.2<b.2):=by unfold hlt;rw [if_pos h1]
   rw [this] at h;exact (show Q (decide (a.2<b.2)) s from h)
 · have h1:a.1≠b.1:=by simpa using e
   have:hlt a b=decide (a.1.cps.toList<b.1.cps.toList):=by unfold hlt;rw [if_neg h1]
   rw [this] at h;exact h
theorem IsHd.keep {h h':Heap} {v:Value} {a:Hd} (x:IsHd h v a) (k: ∀b o,h.get? b=some o->o.cls= .type "tuple" ->h'.get? b=some o):IsHd h' v a:=
 let ⟨b,o,n,t,u,e,ho,hc,hd⟩:=x;⟨b,o,n,t,u,e,k b o ho hc,hc,hd⟩
inductive AreHd (h:Heap):List Value->List Hd->Prop where
 |nil:AreHd h [] []
 |cons {v:Value} {a:Hd} {vs:List Value} {hs:List Hd}:IsHd h v a->AreHd h vs hs->AreHd h (v::vs) (a::hs)
theorem AreHd.length {h:Heap}: ∀ {vs:List Value} {hs:List Hd},AreHd h vs hs->vs.length=hs.length
 |_,_,.nil=>rfl
 |_,_,.cons _ t=>by simp [t.length]
theorem AreHd.keep {h h':Heap} (k: ∀b o,h.get? b=some o->o.cls= .type "tuple" ->h'.get? b=some o): ∀ {vs:List Value} {hs:List Hd},AreHd h vs hs->AreHd h' vs hs
 |_,_,.nil=> .nil
 |_,_,.cons x t=> .cons (x.keep k) (t.keep k)
theorem AreHd.get {h:Heap}: ∀ {vs:List Value} {hs:List Hd} {i:Nat} {a:Hd},AreHd h vs hs->hs[i]?=some a->IsHd h (vs.getD i abh) a
 |_,_,0,a,.cons x t,e=>by simp at e;subst e;simpa using x
 |_,_,i+1,a,.cons x t,e=>by simpa using t.get (i:=i) (by simpa using e)
theorem AreHd.tups {h:Heap}: ∀ {vs:List Value} {hs:List Hd},AreHd h vs hs-> ∃fs,KatTups h vs fs/\fs.length=vs.length/\ ∀f∈fs,∃z t,f= .str z t
 |_,_,.nil=>⟨[],KatTups.nil,rfl,fun _ z=>nomatch z⟩
 |_,_,.cons x r=>by
  obtain ⟨fs,k1,k2,k3⟩:=r.tups;obtain ⟨b,o,n,t,u,rfl,ho,hc,hd⟩:=x
  exact ⟨_::fs,KatTups.cons ho hc hd rfl k1,by simp [k2],fun f hf=>by
   rcases aah.mp hf with rfl|hf
   · exact ⟨_,_,rfl⟩
   · exact k3 f hf⟩
theorem vN {M:Model} {h:Heap} {z:Str} {t:Tok}:Looks M h (typeOf (.str z t)) (.type "str"):=Looks.of_pure rfl
theorem Uj {P:PySem.Fin->aaj->Prop} {a:Addr} {vs:List Value} {hs:List Hd} {n:Nat} (ho:s.heap.get? a=some (acA "list" vs.toArray n)) (hv:AreHd s.heap vs hs) (nd:hs.Nodup) (h2:2<=vs.length) (h64:vs.length<64)
   (h: ∀p h' c,Pm p vs.length->Up (hltI hs) p vs.length->(∀b o,b≠a->s.heap.get? b=some o->h'.get? b=some o)->h'.get? a=some (acA "list" (acM (YT vs p)) c)->P (.done (.ret .none)) {s with heap:=h'}):
   wpAny (model prog w) A (adv.«list.sort» ⟨[.ref a],[]⟩) P E s:=by
 have hl:=hv.length
 have keep: ∀b o,s.heap.get? b=some o->o.cls= .type "tuple" ->(zg s.heap a vs).get? b=some o:=fun b o e hc=>JM (fun z=>by
   subst z;rw [ho] at e;cases e;simp [acA] at hc) e
 have hv2:=hv.keep keep;obtain ⟨fs,k1,k2,k3⟩:=hv2.tups;refine WT (lt:=hltI hs) (by rw [hl];exact vm nd) (tuples' (ac5 "str" !=ac5 "tuple")) ho h2 h64 (fun Q q=>?_) (fun i j C hi hj hC=>?_) h
 · exact kat_kind (s:={s with heap:=zg s.heap a vs}) k1 (by omega) (fun f hf=>by obtain ⟨z,t,rfl⟩:=k3 f hf;exact vN) rfl q
 · have hi':i<hs.length:=by omega
   have hj':j<hs.length:=by omega
   obtain ⟨b,o,m,t,u,e1,ho1,_,hd1⟩:=hv2.get (aag hi');obtain ⟨b',o',m',t',u',e2,ho2,_,hd2⟩:=hv2.get (aag hj');show wpAny _ _ (keyLt' _ (vs.getD i abh) (vs.getD j abh)) C _ _;rw [e1,e2];refine jfC (s:={s with heap:=zg s.heap a vs}) ho1 hd1 ho2 hd2 ?_;have:hltI hs i j=hlt hs[i] hs[j]:=by unfold hltI;rw [aag hi',aag hj']
   rw [←this];exact hC
end
end M
namespace M
open PySem PySem.W PyProof.Rows
section
variable {prog:aaD} {w:World} {A:aaX} {E:Value->aaj->Prop} {s:aaj} {a:Addr} {vs:List Value} {n:Nat}
theorem jaj {P:PySem.Fin->aaj->Prop} (ho:s.heap.get? a=some (acA "list" vs.toArray n)) (h2:vs.length<2)
  (h: ∀h' c,(∀b o,b≠a->s.heap.get? b=some o->h'.get? b=some o)->h'.get? a=some (acA "list" vs.toArray c)->P (.done (.ret .none)) {s with heap:=h'}):
  wpAny (model prog w) A (adv.«list.sort» ⟨[.ref a],[]⟩) P E s:=by
 obtain ⟨c1,b1⟩: ∃c1,(s.heap.update a (ac8 fun _=>(#[]:Array Value))).get? a=some (acA "list" #[] c1):=⟨_,adx ho fun _=> #[]⟩
 have b2:(zg s.heap a vs).get? a=some (acA "list" #[] c1):=aac _ (aac _ b1);have big:vs.length<=aae:=by rw [ack];omega
 rw [list_sort_plain];refine aab (listItems_at (s:=s) ho rfl (aab (listUpdate_at (s:=s) ho rfl (aab (seqEpoch_at b1 rfl (aab (wpAny_newTuple (aab (wpAny_newList (ab8 ?_) (abp _))) (by show vs.length<=aae;exact big))))) (by rw [aaf];exact big) (abp _))));show wpAny (model prog w) A _ P E {s with heap:=zg s.heap a vs};dsimp only;have small:vs.toArray.size<2:=by rw [aaf];omega
 rw [if_pos small,if_pos small];refine aab (aak (aab (aak ?_)));dsimp only
 have hout:(arrOf (SortSt.mk' general' (vs.toArray.zip vs.toArray) #[] 7 none)).map (·.2)=vs.toArray:=by
  show (vs.toArray.zip vs.toArray).map (·.2)=vs.toArray;apply Array.toList_inj.mp;simp [List.map_snd_zip]
 rw [hout];obtain ⟨c2,hc2⟩: ∃c2,((zg s.heap a vs).update a (ac8 fun _=>vs.toArray)).get? a=some (acA "list" vs.toArray c2):=⟨_,adx b2 fun _=>vs.toArray⟩
 refine aab (seqEpoch_at b2 rfl (aab (listUpdate_at b2 rfl ?_ (abp _) (by rw [aaf];exact Nat.le_succ_of_le big))));simp only [bne_self_eq_false,aaN,if_false];exact aak (h _ c2 (fun b o hb e=>(ace _ _ (acF hb)).trans (JM hb e)) hc2)
end
def insH (a:Hd):List Hd->List Hd
 | []=>[a]
 |b::r=>if hlt a b=true then a::b::r else b::insH a r
def JN (hs:List Hd):List Hd:=hs.foldr insH []
theorem Zq (a:Hd): ∀l,(insH a l).Perm (a::l)
 | []=>aeg _
 |b::r=>by
  unfold insH
  split
  · exact aeg _
  · exact ((Zq a r).cons b).trans (List.Perm.swap a b r)
theorem wV: ∀hs,(JN hs).Perm hs
 | []=>aeg _
 |a::r=>(Zq a (JN r)).trans ((wV r).cons a)
theorem vZ {a:Hd}: ∀ {l:List Hd},l.Pairwise (fun x y=>hlt x y=true)->a∉l->(insH a l).Pairwise (fun x y=>hlt x y=true)
 | [],_,_=>by simp [insH]
 |b::r,h,hn=>by
  have h':=ach.mp h;unfold insH
  by_cases e:hlt a b=true
  · rw [if_pos e];refine ach.mpr ⟨fun c hc=>?_,h⟩;rcases aah.mp hc with z|z
    · rw [z];exact e
    · exact XW e (h'.1 c z)
  · rw [if_neg e];have hab:a≠b:=fun z=>hn (by simp [z])
    have hba:hlt b a=true:=(XX hab).resolve_left e;refine ach.mpr ⟨fun c hc=>?_,vZ h'.2 fun z=>hn (by simp [z])⟩;rcases aah.mp ((Zq a r).mem_iff.mp hc) with z|z
    · rw [z];exact hba
    · exact h'.1 c z
theorem KO: ∀ {hs:List Hd},hs.Nodup->(JN hs).Pairwise (fun x y=>hlt x y=true)
 | [],_=>List.Pairwise.nil
 |a::r,h=>by
  have h':=abN.mp h;exact vZ (KO h'.2) fun z=>h'.1 ((wV r).mem_iff.mp z)
theorem Xn: ∀ {l m:List Hd},l.Pairwise (fun x y=>hlt x y=true)->m.Pairwise (fun x y=>hlt x y=true)->l.Perm m->l=m
 | [],m,_,_,p=>(List.nil_perm.mp p).symm
 |a::l,[],_,_,p=>by have:=p.length_eq;simp at this
 |a::l,b::m,hl,hm,p=>by
  have hl':=ach.mp hl;have hm':=ach.mp hm
  have e:a=b:=by
   by_cases z:a=b
   · exact z
   · have h1:a∈b::m:=p.mem_iff.mp (by simp);have h2:b∈a::l:=p.mem_iff.mpr (by simp);have h1':a∈m:=(aah.mp h1).resolve_left z;have h2':b∈l:=(aah.mp h2).resolve_left fun y=>z y.symm
     have x1:=hl'.1 b h2';have x2:=hm'.1 a h1';rw [Vo x1] at x2;cases x2
  subst e;rw [Xn hl'.2 hm'.2 (List.perm_cons a|>.mp p)]
inductive F2 {α β:Type} (R:α->β->Prop):List α->List β->Prop where
 |nil:F2 R [] []
 |cons {a b as bs}:R a b->F2 R as bs->F2 R (a::as) (b::bs)
theorem F2.length {α β:Type} {R:α->β->Prop}: ∀ {as:List α} {bs:List β},F2 R as bs->as.length=bs.length
 |_,_,.nil=>rfl
 |_,_,.cons _ t=>by simp [t.length]
theorem F2.get {α β:Type} {R:α->β->Prop} {a0:α} {b0:β}: ∀ {as:List α} {bs:List β} {i:Nat},F2 R as bs->i<bs.length->R (as.getD i a0) (bs.getD i b0)
 |_,_,0,.cons x t,_=>by simpa using x
 |_,_,i+1,.cons x t,h=>by simpa using t.get (i:=i) (by simpa using h)
theorem F2.map {α β γ:Type} {R:α->β->Prop} {f:γ->α} {g:γ->β}: ∀ {l:List γ},(∀x∈l,R (f x) (g x))->F2 R (l.map f) (l.map g)
 | [],_=> .nil
 |x::l,h=> .cons (h x (by simp)) (F2.map fun y hy=>h y (by simp [hy]))
theorem vj {hs:List Hd} {p:Array Nat} (nd:hs.Nodup) (hp:Pm p hs.length) (hu:Up (hltI hs) p hs.length):p.toList.map (fun i=>hs.getD i ("",0))=JN hs:=by
 have hmem: ∀i∈p.toList,i<hs.length:=fun i hi=>abJ.mp (hp.perm.mem_iff.mp hi)
 refine Xn ?_ (KO nd) ?_
 · rw [List.pairwise_map,acz];intro i j hi hj hij;have hl:p.toList.length=hs.length:=by rw [aby,hp.size]
   have:=hu i j hij (by omega);have e1:at0 p i=p.toList[i]:=by simp [at0,adX,hp.size,show i<hs.length by omega]
   have e2:at0 p j=p.toList[j]:=by simp [at0,adX,hp.size,show j<hs.length by omega]
   rw [e1,e2] at this;have b1:=hmem _ (abT hi);have b2:=hmem _ (abT hj);unfold hltI at this;rw [aag b1,aag b2] at this;show hlt (hs.getD p.toList[i] _) (hs.getD p.toList[j] _)=true;rw [aa5,aa5,aag b1,aag b2];exact this
 · have h1:=hp.perm.map (fun i=>hs.getD i (("" :Str),(0:Int)))
   have h2:(abx hs.length).map (fun i=>hs.getD i ("",0))=hs:=by
    apply adY;intro i
    by_cases hi:i<hs.length
    · simp [hi]
    · rw [aaO (by simp;omega),aaO (by omega)]
   rw [h2] at h1;exact h1.trans (wV hs).symm
theorem km {hs:List Hd} (h:hs.length<2):JN hs=hs:=by
 match hs,h with
 | [],_=>rfl
 | [a],_=>rfl
section
variable {prog:aaD} {w:World} {A:aaX} {E:Value->aaj->Prop} {s:aaj} {a:Addr} {vs:List Value} {n:Nat}
theorem jak {P:PySem.Fin->aaj->Prop} {hs:List Hd} (ho:s.heap.get? a=some (acA "list" vs.toArray n)) (hv:AreHd s.heap vs hs) (nd:hs.Nodup) (h64:vs.length<64)
   (h: ∀(us:List Value) h' c,(∀R:Value->Hd->Prop,F2 R vs hs->F2 R us (JN hs))->(∀b o,b≠a->s.heap.get? b=some o->h'.get? b=some o)->h'.get? a=some (acA "list" us.toArray c)->P (.done (.ret .none)) {s with heap:=h'}):
   wpAny (model prog w) A (adv.«list.sort» ⟨[.ref a],[]⟩) P E s:=by
 have hl:=hv.length
 by_cases h2:vs.length<2
 · exact jaj ho h2 fun h' c k e=>h vs h' c (fun R r=>by rw [km (by omega)];exact r) k e
 · refine Uj ho hv nd (by omega) h64 fun p h' c hp hu k e=>h _ h' c (fun R r=>?_) k e
   rw [hl] at hp hu;rw [←vj nd hp hu];exact F2.map fun i hi=>r.get (abJ.mp (hp.perm.mem_iff.mp hi))
end
end M
namespace M
open PySem PySem.W PyProof.Rows
section
variable {prog:aaD} {w:World} {A:aaX} {E:Value->aaj->Prop} {t:aaj} {vs:List Value} {hs:List Hd}
theorem Yx {Q:Value->aaj->Prop} (hv:AreHd t.heap vs hs) (nd:hs.Nodup) (h64:vs.length<64)
  (h: ∀(us:List Value) h' c,(∀R:Value->Hd->Prop,F2 R vs hs->F2 R us (JN hs))->(∀b o,t.heap.get? b=some o->h'.get? b=some o)->h'.get? t.heap.objs.size=some (acA "list" us.toArray c)->Q (.ref t.heap.objs.size) {t with heap:=h'}):
  wpAny (model prog w) A (newList vs>>=fun l=>adq [l] (call (.builtin "list.sort") [l] [])>>=fun _=>ret l) (fun fin s'=> ∃v,fin= .done (.ret v)/\Q v s') E t:=by
 have hoL:(t.heap.push (acA "list" vs.toArray 0)).get? t.heap.objs.size=some (acA "list" vs.toArray 0):=aam _ rfl;refine aab (wpAny_newList (aab (ab8 ?_)) (by rw [ack];omega));refine aba (s:={t with heap:=t.heap.push (acA "list" vs.toArray 0)}) slot_list_sort ⟨_,hoL,rfl⟩ entry_list_sort ?_ (args_list_sort _);refine jak (s:={t with heap:=t.heap.push (acA "list" vs.toArray 0)}) hoL (hv.keep fun b o e _=>aac _ e) nd h64 fun us h' c r k e=>⟨_,rfl,aak ⟨_,rfl,h us h' c r (fun b o e2=>k b o (fun z=>?_) (aac _ e2)) e⟩⟩
 exact abU _ (by have:=aat e2;rw [z] at this;exact this)
end
end M
namespace M
open PySem PySem.Spec L2
open PyProof.Rows hiding St
section
variable {X:Cx}
def HdV (H:Hp) (x:V) (a:Hd):Prop:= ∃b,x= .ref b/\H b=some (.tup [.str a.1,.int a.2])
theorem jfB {pins:List (Addr×Obj)} {σ:L2.St} {H:Hp} {s:aaj} (I:Inv X pins σ H s): ∀ {ys:List V} {its:List Value} {hs:List Hd},Vals ys its->F2 (HdV H) ys hs->AreHd s.heap its hs/\F2 (fun v a=> ∃b,v=aaJ b/\H b=some (.tup [.str a.1,.int a.2])) its hs
 |_,_,_,.nil,.nil=>⟨.nil,.nil⟩
 |_,_,_,.cons r rs,.cons x xs=>by
  obtain ⟨h1,h2⟩:=jfB I rs xs;obtain ⟨b,rfl,hb⟩:=x;cases r;obtain ⟨_,its,rv,o,ho,hc,n,hd⟩:=(show ObjOk X.prog X.w H s.heap b (.tup _) from I.hok b _ hb)
  cases rv with
  |cons q1 q2=>
   cases q2 with
   |cons q3 q4=>
    cases q4;obtain ⟨t,rfl⟩:=q1;obtain ⟨u,rfl⟩:=q3;exact ⟨.cons ⟨b,o,n,t,u,rfl,ho,hc,hd⟩ h1,.cons ⟨b,rfl,hb⟩ h2⟩
theorem jcs {H:Hp}: ∀ {us:List Value} {hs:List Hd},F2 (fun v a=> ∃b,v=aaJ b/\H b=some (.tup [.str a.1,.int a.2])) us hs-> ∃xs,Vals xs us/\F2 (HdV H) xs hs
 |_,_,.nil=>⟨[],.nil,.nil⟩
 |_,_,.cons ⟨b,e,hb⟩ t=>by
  obtain ⟨xs,h1,h2⟩:=jcs t;subst e;exact ⟨.ref b::xs,.cons rfl h1,.cons ⟨b,rfl,hb⟩ h2⟩
end
end M
namespace M
open PySem PySem.Spec L2
open PyProof.Rows hiding St
def vQ:List D->Option (List Key)
 | []=>some []
 |d::r=>match keyD d,vQ r with
  |some k,some ks=>some (k::ks)
  |_,_=>none
def keyT:D->Option (List Key)
 | .tup ds=>vQ ds
 |_=>none
def hasT (ks:List (List Key)) (k:List Key):Bool:=ks.any fun x=>decide (x=k)
def YG (ks:List (List Key)) (k:List Key):List (List Key):=if hasT ks k=true then ks else ks++[k]
def YH (ks:List (List Key)) (ds:List D) (k:List Key) (d:D):List D:=if hasT ks k=true then (ks.zip ds).map (fun p=>if p.1=k then d else p.2) else ds++[d]
section
variable {K:aaa} {A:Addr->Prop} {H:Hp}
theorem Vh: ∀ {vs:List V} {ds:List D} {ks:List Key},Reps K A H vs ds->vQ ds=some ks->vs=ks.map kV
 |_,_,ks,.nil,h=>by cases h;rfl
 |_,_,ks,.cons r t,h=>by
  rename_i v d vs ds;unfold vQ at h
  cases e1:keyD d with
  |none=>rw [e1] at h;cases h
  |some k=>
   cases e2:vQ ds with
   |none=>rw [e1,e2] at h;cases h
   |some r'=>
    rw [e1,e2] at h;cases h;rw [Zm r e1,Vh t e2];rfl
theorem ja3 {y:V} {d:D} {k:List Key} (r:Rep K A H y d) (h:keyT d=some k): ∃b,y= .ref b/\H b=some (.tup (k.map kV)):=by
 cases r with
 |tup e rs=>exact ⟨_,rfl,by rw [e,Vh rs h]⟩
 |_=>cases h
theorem jbO (kvs:List (List Key×V)) (k:List Key):(kvs.any fun kv=>decide (kv.1=k))=hasT (kvs.map (·.1)) k:=by
 unfold hasT;rw [List.any_map];rfl
theorem Xx {v:V} {d:D} (k:List Key) (rv:Rep K A H v d): ∀ {kvs:List (List Key×V)} {ds:List D},Reps K A H (kvs.map (·.2)) ds->Reps K A H ((kvs.map (fun kv=>if kv.1=k then (kv.1,v) else kv)).map (·.2)) (((kvs.map (·.1)).zip ds).map (fun p=>if p.1=k then d else p.2))
 | [],_,.nil=> .nil
 | (k',v')::kvs,_,.cons r1 r2=>by
  have ih:=Xx k rv r2
  by_cases hk:k'=k
  · simp only [aaw,abr,hk,if_true];exact .cons rv (by simpa [hk] using ih)
  · simp only [aaw,abr,hk,if_false];exact .cons r1 ih
theorem jaq {v:V} {d:D} {kvs:List (List Key×V)} {ds:List D} (k:List Key) (r:Reps K A H (kvs.map (·.2)) ds) (rv:Rep K A H v d):
   (putK kvs k v).map (·.1)=YG (kvs.map (·.1)) k/\Reps K A H ((putK kvs k v).map (·.2)) (YH (kvs.map (·.1)) ds k d):=by
 unfold putK YG YH;rw [jbO]
 by_cases h:hasT (kvs.map (·.1)) k=true
 · rw [if_pos h,if_pos h,if_pos h];refine ⟨?_,Xx k rv r⟩;rw [ab6];apply acG;intro p _;simp only [acH]
   split<;>rfl
 · rw [if_neg h,if_neg h,if_neg h];refine ⟨by simp,?_⟩;rw [abO];exact r.append (.cons rv .nil)
theorem Rep.ditE {v:V} {ks:List (List Key)} {ds:List D} (r:Rep K A H v (.dit ks ds)): ∃a kvs,v= .ref a/\H a=some (.dT kvs)/\A a/\kvs.map (·.1)=ks/\Reps K (fun c=>A c/\c≠a) H (kvs.map (·.2)) ds:=by
 cases r with
 |dit e a k1 k2 r=>subst k2;exact ⟨_,_,rfl,e,a,k1,r⟩
end
theorem jcT {K:aaa} {G:Addr->Prop} {H0 H:Hp} {env:Sl} {σ:L2.St} {i:Nat} {ks:List (List Key)} {ds:List D} (k:EnvOk K G H0 env σ H) (hi:env[i]?=some (.own (.dit ks ds))): ∃a kvs,σ[i]?=some (some (.ref a))/\H a=some (.dT kvs)/\kvs.map (·.1)=ks/\Reps K (Sf G env σ) H (kvs.map (·.2)) ds:=by
 obtain ⟨a,h1,h0,h2⟩:=k.own i _ hi
 cases h2 with
 |dit e k1 k2 r=>subst k2;exact ⟨a,_,h1,e,k1,r⟩
def ownT (i:Nat) (env:Sl):Res (List (List Key)×List D):=match env[i]? with
 |some (.own (.dit ks ds))=> .ok (ks,ds)
 |_=> .stuck
theorem jaC {i:Nat} {env:Sl} {p:List (List Key)×List D} (h:ownT i env= .ok p):env[i]?=some (.own (.dit p.1 p.2)):=by
 unfold ownT at h
 split at h
 · cases h;assumption
 · cases h
section
variable {X:Cx} {K:aaa} {l1 l2:Lv} {e1 e2:Expr} {fk fv:Sl->Res D} {pos cpos apos p:Pos} {x:Str}
def cDT:Sl->Res D:=fun _=> .ok (.dit [] [])
theorem uP:DE X .t (.Dict [] [] pos) cDT:=by
 with_unfolding_all exact (PE.imp jaz fun σ H Q ⟨G,H0,env,d,k,ef,q⟩=>by
  cases ef
  exact fun p hp=>q _ _ (Same.upd hp) (.dit jB (k.new p hp) rfl rfl .nil) (qE (Same.refl H) hp))
def UU (i:Nat) (fk fv:Sl->Res D):Sl->Res Out:=fun env=>ownT i env>>=fun q=>fv env>>=fun d=>fk env>>=fun kd=>match keyT kd with
 |some k=>must (q.1.length<aae) (.ok (.nx (env.set i (.own (.dit (YG q.1 k) (YH q.1 q.2 k d))))))
 |none=> .stuck
theorem jbu (i:Nat) (hu:X.A.units+1<cLine) (hk:DE X l1 e1 fk) (hv:DE X .s e2 fv) (hN:X.N[i]?=some x:=by rfl) (hvs:Vis X.env.scope x:=by first|exact abw rfl|exact aa4 (abw rfl)|exact aa4 (aa4 rfl))
   (hd:(x==("__debug__" :Str))=false:=by decide) (hcd:(x==("__classdict__" :Str))=false:=by decide)
   (hs:ab1 e2 (some (.Subscript (.Name x p) e1 apos)) pos.line X.env=pure false:=by rfl):
   DS X (.Assign [.Subscript (.Name x p) e1 apos] e2 pos) (UU i fk fv):=by
 with_unfolding_all exact (
  PS.imp (kW hu (wu (i:=i) hN hvs hd hcd) hk hv hs) fun E σ H ⟨G,H0,env,o,k,ef,q⟩=>by
   obtain ⟨ks,c1,ef⟩:=jc ef;obtain ⟨d,c2,ef⟩:=jc ef;obtain ⟨kd,c3,c4⟩:=jc ef;have hi:=jaC c1;obtain ⟨a,kvs,ha,hx,hkk,rs⟩:=jcT k hi
   cases hkey:keyT kd with
   |none=>rw [hkey] at c4;cases c4
   |some kk=>
    rw [hkey] at c4;obtain ⟨hz,c5⟩:=jp c4;cases c5;refine ⟨G,H0,env,d,k,c2,fun v H1 s1 r1 _=>⟨.ref a,ha,G,H0,env,kd,k.grow s1,c3,fun y H2 s2 r2 _=>?_⟩⟩;have hx2:=s2 _ _ (s1 _ _ hx);obtain ⟨b,rfl,hb⟩:=ja3 (r2.weak (A':=Any) Lv.weak_b) hkey;have hl:kvs.length<aae:=by rw [←hkk,aan] at hz;exact hz
    refine ⟨a,_,rfl,DPut.t hx2 hb hl,?_⟩;obtain ⟨p1,p2⟩:=jaq kk ((rs.grow s1).grow s2) (r1.grow s2);rw [hkk] at p1 p2;have W:=((k.grow s1).grow s2).writeG (o':= .dT (putK kvs kk v)) (d':= .dit (YG ks.1 kk) (YH ks.1 ks.2 kk d)) hi ha hx2 trivial fun A' H' st e w=> .dit e p1 rfl (p2.stay st w)
    exact q σ _ W.1 ((W.2.grow s2).grow s1))
def hdD (a:Hd):D:= .tup [.str a.1,.int a.2]
def jei (hs:List Hd):Bool:=hs.all fun a=>decide (a.1.length<=aae)
theorem uf {A:Addr->Prop} {H:Hp}: ∀ {vs:List V} {hs:List Hd},F2 (HdV H) vs hs->(∀a∈hs,a.1.length<=aae)->Reps K A H vs (hs.map hdD)
 |_,_,.nil,_=> .nil
 |_,_,.cons ⟨b,e,hb⟩ t,h=>by
  subst e;exact .cons (.tup hb (.cons (.str _ (h _ (by simp))) (.cons (.int _) .nil))) (uf t fun a ha=>h a (by simp [ha]))
end
end M
namespace M
open PySem PySem.Spec L2
open PyProof.Rows hiding St
def hdK (a:Hd):List Key:=[.inr a.1,.inl a.2]
section
variable {X:Cx} {K:aaa}
theorem Z7 {H:Hp}: ∀ {kvs:List (List Key×V)} {xs:List (List Key×Addr×Value)} {hs:List Hd},KT H kvs xs->kvs.map (·.1)=hs.map hdK->F2 (HdV H) (xs.map fun q=>V.ref q.2.1) hs
 |_,_,hs,.nil,e=>by
  cases hs with
  |nil=>exact .nil
  |cons a r=>cases e
 |_,_,hs,.cons h t,e=>by
  cases hs with
  |nil=>cases e
  |cons a r=>
   simp only [aaw,aed] at e;refine .cons ⟨_,rfl,?_⟩ (Z7 t e.2);rw [h.2.1,e.1];rfl
theorem Xy: ∀(l:List Addr),Vals (l.map V.ref) (l.map aaJ)
 | []=> .nil
 |a::l=> .cons rfl (Xy l)
theorem Yc (hc:X.calm=true):CallR X (.builtin "sorted") (fun xs H Q=> ∃a kvs hs,xs=[.ref a]/\H a=some (.dT kvs)/\kvs.map (·.1)=hs.map hdK/\hs.Nodup/\hs.length<64/\ ∀l us,H l=none->F2 (HdV H) us (JN hs)->Q (.ref l) (upd H l (.lst us))):=by
 intro pins s σ H xs us Q I r h;obtain ⟨a,kvs,hs,rfl,ha,hk,nd,h64,q⟩:=h;obtain ⟨u,rfl,rx⟩:=QQ r;cases rx;obtain ⟨hz,lo,ys,hp,o,es,ep,ho,hx,hd,he,_⟩:=(show ObjOk X.prog X.w H s.heap a (.dT kvs) from I.hok a _ ha)
 have hF:=Z7 hp hk
 have hV:Vals (ys.map fun q=>V.ref q.2.1) (ys.map fun q=>aaJ q.2.1):=by
  have:=Xy (ys.map fun q=>q.2.1);simpa [ab6,Function.comp_def] using this
 obtain ⟨hA,hR⟩:=jfB I hV hF;have hlen:ys.length=hs.length:=by simpa using hF.length
 have hD:DAt s.heap a (ys.map fun q=>aaJ q.2.1) ep:=⟨o,es,ho,hx,hd,by rw [he,ab6];rfl⟩
 refine Calls.call_function_entry kind_sorted plain_sorted entry_sorted (args_sorted1 _) ?_;unfold adv.«sorted»;refine aab (m:=checkCount "sorted" 1 1 _) (aak (aab (PySem.W.kdu_collect (A:=X.A.in1) (jdL lo) (show X.A.in1.handled=none from I.ok.hd hc) hD (by rw [aan,ack];omega) fun h' tk acc hkp hacc=>?_)))
 have hacc2:acc.toList=ys.map fun q=>aaJ q.2.1:=by
  apply adY;intro i;have hl:acc.toList.length=(ys.map fun q=>aaJ q.2.1).length:=by rw [aby];exact hacc.1
  by_cases hi:i<acc.toList.length
  · rw [aag hi];exact (hacc.2 i _ (by rw [←aco];exact aag hi)).symm
  · rw [aaO (by omega),aaO (by omega)]
 rw [hacc2];refine Yx (t:={s with heap:=h',toks:=tk}) (hA.keep fun b o e _=>hkp b o e) nd (by rw [aan];omega) fun us h2 c hRR k e=>?_
 obtain ⟨zs,v1,v2⟩:=jcs (hRR _ hR);have I1:Inv X pins σ H {s with heap:=h',toks:=tk}:=I.kept hkp
 have hl2:zs.length<=aae:=by
  have a1:=v2.length;have a2:=(wV hs).length_eq;rw [ack];omega
 exact ⟨.ref _,_,I1.laid (t':=tk) k (aai _) (show ObjOk X.prog X.w _ h2 _ (.lst zs) from ⟨hl2,us,c,v1,e⟩),rfl,q _ zs (I1.hok.fresh (aai _)) v2⟩
def jdi:List Key->Option Hd
 | [.inr z,.inl k]=>some (z,k)
 |_=>none
def Jr:List (List Key)->Option (List Hd)
 | []=>some []
 |d::r=>match jdi d,Jr r with
  |some a,some as=>some (a::as)
  |_,_=>none
theorem X1: ∀ {ks:List (List Key)} {hs:List Hd},Jr ks=some hs->ks=hs.map hdK
 | [],hs,h=>by cases h;rfl
 |d::r,hs,h=>by
  unfold Jr at h
  cases e1:jdi d with
  |none=>rw [e1] at h;cases h
  |some a=>
   cases e2:Jr r with
   |none=>rw [e1,e2] at h;cases h
   |some as=>
    rw [e1,e2] at h;cases h;rw [X1 e2];unfold jdi at e1
    split at e1
    · cases e1;rfl
    · cases e1
def QS:List D->Res D
 | [.dit ks _]=>match Jr ks with
  |some hs=>must (hs.Nodup/\hs.length<64/\jei hs=true) (.ok (.lst ((JN hs).map hdD)))
  |none=> .stuck
 |_=> .stuck
theorem UW:Yo K (fun xs H Q=> ∃a kvs hs,xs=[.ref a]/\H a=some (.dT kvs)/\kvs.map (·.1)=hs.map hdK/\hs.Nodup/\hs.length<64/\ ∀l us,H l=none->F2 (HdV H) us (JN hs)->Q (.ref l) (upd H l (.lst us))) QS:=by
 intro A xs H ds d Q r e q;unfold QS at e
 split at e
 · rename_i ks vs
   cases eh:Jr ks with
   |none=>rw [eh] at e;cases e
   |some hs=>
    rw [eh] at e;obtain ⟨⟨nd,h64,hsh⟩,e2⟩:=jp e;cases e2;obtain ⟨v,rfl,r1⟩:=r.one;obtain ⟨p,kvs,rfl,hp,_,hkk,_⟩:=r1.ditE;refine ⟨p,kvs,hs,rfl,hp,by rw [hkk];exact X1 eh,nd,h64,fun l us hl hu=>q _ _ (Same.upd hl) (.lst jB (.inl hl) ?_) (qE (Same.refl H) hl)⟩
    have hs2: ∀a∈JN hs,a.1.length<=aae:=fun a ha=>by
     have:=abb.mp hsh a ((wV hs).mem_iff.mp ha);simpa using this
    exact ((uf (K:=K) (A:=fun _=>False) hu hs2).grow (Same.upd (o:= .lst us) hl)).weak fun c z=>z.elim
 · cases e
end
end M
namespace M
open PySem PySem.Spec L2
open PyProof.Rows hiding St
section
variable {prog:aaD} {w:World} {A:aaX} {E:Value->aaj->Prop} {s:aaj}
theorem KH: ∀ {is:List Int} {us:List Value},Vals (is.map V.int) us->us.length=is.length/\ ∀i v,us[i]?=some v-> ∃t,v=ad7 (is.getD i 0) t
 | [],_,.nil=>⟨rfl,fun i v h=>by cases h⟩
 |i::is,_,.cons h t=>by
  obtain ⟨a,b⟩:=KH t;refine ⟨by simp [a],fun j v hv=>?_⟩
  cases j with
  |zero=>
   simp at hv;subst hv;obtain ⟨t,e⟩:=h;exact ⟨t,by rw [e];rfl⟩
  |succ j=>simp at hv;simpa using b j v hv
end
end M
namespace M
open PySem PySem.Spec L2
open PyProof.Rows hiding St
def Zp:List D->Option (List Int)
 | []=>some []
 | .int b::r=>(Zp r).map (b:: ·)
 |_=>none
theorem J6: ∀ {ds:List D} {bs:List Int},Zp ds=some bs->ds=bs.map D.int
 | [],bs,h=>by cases h;rfl
 |d::r,bs,h=>by
  cases d with
  |int b=>
   simp only [Zp,Option.map_eq_some_iff] at h;obtain ⟨bs',h1,rfl⟩:=h;rw [J6 h1];rfl
  |_=>cases h
theorem vY (bs:List Int):Zp (bs.map D.int)=some bs:=by
 induction bs with
 |nil=>rfl
 |cons b r ih=>simp [Zp,ih]
section
variable {X:Cx} {K:aaa} {l l' l2:Lv}
theorem Q2 {A:Addr->Prop} {H:Hp}: ∀ {bs:List Int} {xs:List V},Reps K A H xs (bs.map D.int)->xs=bs.map V.int
 | [],_,.nil=>rfl
 |b::bs,_,.cons h t=>by rw [h.intE,Q2 t];rfl
variable {x:Str} {p pos kpos:Pos} {e e2:Expr} {fa f2:Sl->Res D}
end
end M
namespace M
open PySem PySem.Spec L2
open PyProof.Rows hiding St
theorem Yh:abl "sorted" =some (.builtin "sorted"):=by decide+kernel
section
variable {X:Cx} {id:String} {r:List V->Hp->VK->Prop} {g:List D->Res D} {x:Str} {p pos:Pos} {e:Expr} {es:List Expr} {fa:Sl->Res (List D)}
theorem xz (hc:CallR X (.builtin id) r) (hr:Yo X.K r g) (hg:Gl X x) (hm:X.mg x=none) (hv:abl x=some (.builtin id))
   (ha:DA X .s (e::es) fa) (hn:x≠ "__name__" :=by decide) (hdb:(x==("__debug__" :Str))=false:=by decide)
   (he:aal (e::es) X.env=(false,eval e X.env)::aal es X.env:=by exact jl rfl) (hpl:(abd pos (aal es X.env)).any (·.1)=false:=by exact jK rfl):DE X .t (.Call (.Name x p) (e::es) [] pos) (app fa g):=by
 with_unfolding_all exact (
  PE.imp (QB hc hg hm hv ha hn hdb he hpl) fun _ _ _ h=>jef hr h)
variable {ex:Expr} {t:Sl->Res Bool}
end
end M
namespace M
open PySem PySem.Spec L2
mutual
def bks:D->List Int
 | .int i=>[i]
 | .tup (_::ts)=>bkss ts
 |_=>[]
def bkss:List D->List Int
 | []=>[]
 |d::r=>bks d++bkss r
end
mutual
def bare:D->D
 | .tup (x::ts)=> .tup (x::bares ts)
 |_=> .int 0
def bares:List D->List D
 | []=>[]
 |d::r=>bare d::bares r
end
theorem ZC: ∀ts,bkss ts=ts.flatMap bks
 | []=>rfl
 |d::r=>by simp [bkss,ZC r]
theorem vA {ts:List D} {k:Nat} (h: ∀t∈ts,num t<=k):nums ts<=ts.length*k:=by
 induction ts with
 |nil=>simp [nums]
 |cons d r ih=>
  have h1:=h d (by simp);have h2:=ih fun t ht=>h t (by simp [ht])
  simp only [nums,aad,Nat.succ_mul];omega
theorem Qe: ∀ {ts:List D},(∀t∈ts,D.eqb t=true)->D.eqbs ts=true
 | [],_=>rfl
 |x::r,h=>by simp only [D.eqbs,aap];exact ⟨h x (by simp),Qe fun d hd=>h d (by simp [hd])⟩
theorem Qf {k:Nat}: ∀ {ts:List D},(∀t∈ts,D.dep t<=k)->D.deps ts<=k
 | [],_=>by simp [D.deps]
 |x::r,h=>by
  simp only [D.deps];have:=h x (by simp);have:=Qf (ts:=r) fun d hd=>h d (by simp [hd])
  omega
theorem X4: ∀ {ts:List D},(∀t∈ts,eqD t t=true)->eqDs ts ts=true
 | [],_=>by simp [eqDs]
 |x::r,h=>by simp only [eqDs,aap];exact ⟨h x (by simp),X4 fun d hd=>h d (by simp [hd])⟩
def ins (l:List Int) (x:Int):List Int:=if x∈l then l else l++[x]
def met (l xs:List Int):List Int:=xs.foldl ins l
theorem Ve (l:List Int) (x:Int) (xs:List Int):met l (x::xs)=met (ins l x) xs:=rfl
theorem jdf {l:List Int} {x y:Int}:y∈ins l x↔y∈l\/y=x:=by
 unfold ins
 split
 · rename_i h;exact ⟨.inl,fun z=>z.elim id fun e=>by rw [e];exact h⟩
 · simp
theorem Ka: ∀ {xs l:List Int} {y:Int},y∈met l xs↔y∈l\/y∈xs
 | [],l,y=>by simp [met]
 |x::xs,l,y=>by
  rw [Ve,Ka,jdf];simp only [aah,or_assoc]
def dvs (n:Nat):List Int->List D
 | []=>[]
 |_::r=> .int n::dvs (n+1) r
def kys (l:List Int):List Key:=l.map ad6
theorem jbf (l:List Int) (x:Int):hasK (kys l) (.inl x)=decide (x∈l):=by
 induction l with
 |nil=>rfl
 |cons a l ih=>
  unfold hasK kys at ih ⊢;rw [aaw,acT,ih]
  by_cases h:a=x
  · subst h;simp
  · have:x≠a:=fun e=>h e.symm
    simp [h,this]
theorem jdc (l:List Int):(kys l).length=l.length:=by simp [kys]
end M
namespace M
open PySem PySem.Spec L2
mutual
def tk (ns:List Str):D->Bool
 | .int _=>true
 | .tup (.str z::ts)=>decide (z∈ns)&&(decide (ts.length<=9)&&tks ns ts)
 |_=>false
def tks (ns:List Str):List D->Bool
 | []=>true
 |d::r=>tk ns d&&tks ns r
end
section
variable {ns:List Str}
mutual
theorem qB {P:D->Prop} (h1: ∀i,P (.int i)) (h2: ∀z ts,z∈ns->ts.length<=9->(∀t∈ts,tk ns t=true/\P t)->P (.tup (.str z::ts))): ∀t,tk ns t=true->P t
 | .int i,_=>h1 i
 | .tup (x::ts),h=>by
  cases x with
  |str z=>
   simp only [tk,aap,decide_eq_true_eq] at h;exact h2 z ts h.1 h.2.1 (tk_ind2 h1 h2 ts h.2.2)
  |_=>simp [tk] at h
 | .tup [],h=>by simp [tk] at h
 | .non,h=>by simp [tk] at h
 | .bl _,h=>by simp [tk] at h
 | .str _,h=>by simp [tk] at h
 | .lst _,h=>by simp [tk] at h
 | .scr _,h=>by simp [tk] at h
 | .dic _ _,h=>by simp [tk] at h
 | .dit _ _,h=>by simp [tk] at h
 | .exn _,h=>by simp [tk] at h
 | .fdc _ _,h=>by simp [tk] at h
 | .hdc _ _,h=>by simp [tk] at h
 | .obj _ _ _,h=>by simp [tk] at h
theorem tk_ind2 {P:D->Prop} (h1: ∀i,P (.int i)) (h2: ∀z ts,z∈ns->ts.length<=9->(∀t∈ts,tk ns t=true/\P t)->P (.tup (.str z::ts))): ∀ts,tks ns ts=true-> ∀t∈ts,tk ns t=true/\P t
 | [],_,t,ht=>by cases ht
 |d::r,h,t,ht=>by
  simp only [tks,aap] at h;have a:=qB h1 h2 d h.1;have b:=tk_ind2 h1 h2 r h.2;rcases aah.mp ht with e|e
  · rw [e];exact ⟨h.1,a⟩
  · exact b t e
end
theorem jbV: ∀ {ts:List D},(∀t∈ts,tk ns t=true)->tks ns ts=true
 | [],_=>rfl
 |x::r,h=>by simp only [tks,aap];exact ⟨h x (by simp),jbV fun d hd=>h d (by simp [hd])⟩
theorem ki: ∀ {ts:List D} {t:D},tks ns ts=true->t∈ts->tk ns t=true
 |x::r,t,h,ht=>by
  simp only [tks,aap] at h;rcases aah.mp ht with rfl|ht
  · exact h.1
  · exact ki h.2 ht
theorem Yt {z:Str} {ts:List D} (hz:z∈ns) (h:ts.length<=9) (ht: ∀t∈ts,tk ns t=true):tk ns (.tup (.str z::ts))=true:=by
 simp only [tk,aap,decide_eq_true_eq];exact ⟨hz,h,jbV ht⟩
theorem jY {t:D} (h:tk ns t=true):(∃i,t= .int i)\/ ∃z ts,t= .tup (.str z::ts)/\z∈ns/\ts.length<=9/\ ∀u∈ts,tk ns u=true:=by
 cases t with
 |int i=>exact .inl ⟨i,rfl⟩
 |tup ds=>
  cases ds with
  |nil=>simp [tk] at h
  |cons x ts=>
   cases x with
   |str z=>
    simp only [tk,aap,decide_eq_true_eq] at h;exact .inr ⟨z,ts,rfl,h.1,h.2.1,fun u hu=>ki h.2.2 hu⟩
   |_=>simp [tk] at h
 |_=>simp [tk] at h
theorem J8: ∀t,tk ns t=true->fine t=true:=qB (fun i=>rfl) fun z ts _ hl h=>by
 simp only [fine,fines,aap,decide_eq_true_eq,aad,true_and];exact ⟨by omega,QF fun t ht=>(h t ht).2⟩
theorem jfz: ∀t,tk ns t=true->t.imm=true:=qB (fun i=>rfl) fun z ts _ hl h=>by
 show (true&&D.imms ts)=true;rw [Bool.true_and];exact imms_iff.mpr fun t ht=>(h t ht).2
theorem K0: ∀t,tk ns t=true-> ∀p∈pts t,tk ns p=true:=qB (fun i=>by simp [pts,tk]) fun z ts hz hl h=>by
 simp only [pts];intro p hp;rcases aah.mp hp with e|e
 · rw [e];exact Yt hz hl fun t ht=>(h t ht).1
 · have flat: ∀us:List D,ptss us=us.flatMap pts:=fun us=>by
    induction us with
    |nil=>rfl
    |cons d r ih=>simp [ptss,ih]
   rw [flat] at e;obtain ⟨t,ht,hpt⟩:=aca.mp e;exact (h t ht).2 p hpt
def intL:List D->List Int
 | []=>[]
 | .int i::r=>i::intL r
 |_::r=>intL r
theorem WY: ∀a b,intL (a++b)=intL a++intL b
 | [],b=>rfl
 |d::r,b=>by
  have ih:=WY r b;cases d<;>simp [intL,ih]
def hdL:List D->List Hd
 | []=>[]
 | .tup (.str z::ts)::r=>(z,(ts.length:Int))::hdL r
 |_::r=>hdL r
theorem jdj (z:Str) (ts r:List D):hdL (.tup (.str z::ts)::r)=(z,(ts.length:Int))::hdL r:=rfl
theorem ug: ∀ {a:List D},(∀t∈a,tk ns t=true)-> ∀x∈hdL a,x.1∈ns/\0<=x.2/\x.2<=9
 | [],_,x,hx=>by cases hx
 |d::r,h,x,hx=>by
  have ih:=ug (a:=r) fun t ht=>h t (by simp [ht])
  rcases jY (h d (by simp)) with ⟨i,rfl⟩| ⟨z,ts,rfl,hz,hl,_⟩
  · exact ih x hx
  · rw [jdj] at hx;rcases aah.mp hx with e|e
    · rw [e];exact ⟨hz,by simp,by simp;omega⟩
    · exact ih x e
def hins (l:List Hd) (a:Hd):List Hd:=if a∈l then l else l++[a]
def hmet (l xs:List Hd):List Hd:=xs.foldl hins l
theorem jdh {l:List Hd} {a:Hd} (h:l.Nodup):(hins l a).Nodup:=by
 unfold hins
 split
 · exact h
 · rename_i hn;refine adZ.mpr ⟨h,by simp,fun x hx y hy=>?_⟩;simp only [aah,aaq,or_false] at hy;rw [hy];intro e;rw [e] at hx;exact hn hx
theorem ub: ∀ {xs l:List Hd},l.Nodup->(hmet l xs).Nodup
 | [],l,h=>h
 |x::xs,l,h=>ub (xs:=xs) (jdh h)
theorem ja9 {l:List Hd} {a x:Hd} (h:x∈hins l a):x∈l\/x=a:=by
 unfold hins at h
 split at h
 · exact .inl h
 · simpa using h
theorem Vn: ∀ {xs l:List Hd} {x:Hd},x∈hmet l xs->x∈l\/x∈xs
 | [],l,x,h=> .inl h
 |y::xs,l,x,h=>by
  rcases Vn (xs:=xs) (l:=hins l y) h with z|z
  · rcases ja9 z with z|z
    · exact .inl z
    · exact .inr (by simp [z])
  · exact .inr (by simp [z])
theorem XL: ∀ {l m:List Hd},l.Nodup->(∀x∈l,x∈m)->l.length<=m.length
 | [],m,_,_=>by simp
 |a::l,m,h,hs=>by
  have h':=abN.mp h;have ha:=hs a (by simp)
  have:=XL (l:=l) (m:=m.erase a) h'.2 fun x hx=>by
   refine (List.mem_erase_of_ne fun e=>?_).mpr (hs x (by simp [hx]));rw [e] at hx;exact h'.1 hx
  rw [List.length_erase_of_mem ha] at this;have hpos:0<m.length:=List.length_pos_of_mem ha;simp only [aad];omega
theorem XZ {l:List Hd} (h:l.Nodup) (hm: ∀x∈l,x.1∈ns/\0<=x.2/\x.2<=9):l.length<=ns.length*10:=by
 have:=XL (l:=l) (m:=ns.flatMap fun z=>(abx 10).map fun k=>(z,((k:Nat):Int))) h fun x hx=>by
  obtain ⟨h1,h2,h3⟩:=hm x hx;refine aca.mpr ⟨x.1,h1,aaK.mpr ⟨x.2.toNat,abJ.mpr (by omega),?_⟩⟩;rw [Int.toNat_of_nonneg h2]
 have e:(ns.flatMap fun z=>(abx 10).map fun k=>(z,((k:Nat):Int))).length=ns.length*10:=by
  clear this hm h
  induction ns with
  |nil=>rfl
  |cons z r ih=>rw [List.flatMap_cons,aao,ih];simp;omega
 omega
theorem jdk {a b:Hd}:hdK a=hdK b↔a=b:=by
 constructor
 · intro h;cases a;cases b;simp [hdK] at h;simp [h]
 · intro h;rw [h]
theorem jdl (l:List Hd) (a:Hd):hasT (l.map hdK) (hdK a)=decide (a∈l):=by
 unfold hasT;rw [List.any_map]
 induction l with
 |nil=>rfl
 |cons b l ih=>
  rw [acT,ih];simp only [acH,jdk]
  by_cases h:b=a
  · subst h;simp
  · have:a≠b:=fun e=>h e.symm
    simp [h,this]
def htrs (l:List Hd):List D:=l.map fun _=> .bl true
theorem jes (l:List Hd) (a:Hd):YG (l.map hdK) (hdK a)=(hins l a).map hdK/\YH (l.map hdK) (htrs l) (hdK a) (.bl true)=htrs (hins l a):=by
 unfold YG YH hins;rw [jdl]
 by_cases h:a∈l
 · simp only [h,decide_true,if_true,true_and];clear h
   induction l with
   |nil=>rfl
   |cons b l ih=>
    simp only [htrs,aaw,abr] at ih ⊢;rw [ih];simp
 · simp [h,htrs]
theorem Wf: ∀l:List Hd,Jr (l.map hdK)=some l
 | []=>rfl
 |a::l=>by
  simp only [aaw,Jr,Wf l];rfl
theorem Ui {l:List Hd} {vs:List D} (h1:l.Nodup) (h2:l.length<64) (h3: ∀a∈l,a.1.length<=aae):QS [.dit (l.map hdK) vs]= .ok (.lst ((JN l).map hdD)):=by
 show (match Jr (l.map hdK) with|some hs=>_|none=>_)=_;rw [Wf];exact jk ⟨h1,h2,abb.mpr fun a ha=>by simpa using h3 a ha⟩
theorem VT {ds:List D} (h1:D.eqbs ds=true) (h2:D.deps ds<=100):eqR (.lst ds) (.lst ds)= .ok (.bl true)/\neR (.lst ds) (.lst ds)= .ok (.bl false):=by
 have h3:eqD (.lst ds) (.lst ds)=true:=W7 _ (by simp only [D.eqb];exact h1);have hc:EqC (.lst ds) (.lst ds):= .inl ⟨by simp only [D.eqb];exact h1,by simp only [D.eqb];exact h1,by simp only [D.dep];omega⟩;unfold eqR neR;rw [jk hc,jk hc,h3];exact ⟨rfl,rfl⟩
theorem VY: ∀ {α:Type} (l:List α),allD [.lst (l.map fun _=> .bl true)]= .ok (.bl true):=fun l=>by
 have e:ZS (l.map fun _=>D.bl true)=some (l.map fun _=>true):=by
  induction l with
  |nil=>rfl
  |cons a l ih=>simp [ZS,ih]
 show (match ZS (l.map fun _=>D.bl true) with|some bs=>_|none=>_)=_;rw [e];simp
end
end M
namespace M
open PySem PySem.Spec L2
open PyProof.Rows hiding St
theorem zc:abl "divmod" =some (.builtin "divmod"):=by decide+kernel
def wD:List D->Res D
 | [.int i,.int j]=>must (0<j/\j<1073741824) (.ok (.tup [.int (i/j),.int (i%j)]))
 |_=> .stuck
theorem xi {K:aaa}:Yo K (fun xs H Q=> ∃i j,xs=[.int i,.int j]/\CDiv i j/\ ∀p,H p=none->Q (.ref p) (upd H p (.tup [.int (i/j),.int (i%j)]))) wD:=by
 intro A xs H ds d Q r e q;unfold wD at e
 split at e
 · obtain ⟨hc,e2⟩:=jp e;cases e2;obtain ⟨v,v',rfl,r1,r2⟩:=r.two;cases r1.intE;cases r2.intE;exact ⟨_,_,rfl,hc,fun p hp=>q _ _ (Same.upd hp) (.tup jB (.cons (.int _) (.cons (.int _) .nil))) (qE (Same.refl H) hp)⟩
 · cases e
section
variable {X:Cx} {pins:List (Addr×Obj)} {σ:L2.St} {H:Hp} {s:aaj}
theorem xt {t':Nat} {h':Heap} {i1 i2:Addr} (I:Inv X pins σ H s) (k: ∀b o,b≠i1->b≠i2->s.heap.get? b=some o->h'.get? b=some o) (f1:FpOk X pins H i1) (f2:FpOk X pins H i2):Inv X pins σ H {s with heap:=h',toks:=t'}:=by
 obtain ⟨a0,a1,_,a3,a4,a5⟩:=f1;obtain ⟨b0,b1,_,b3,b4,b5⟩:=f2;have n1: ∀b u,H b=some u->b≠i1:=fun b u e z=>by rw [z,a0] at e;cases e
 have n2: ∀b u,H b=some u->b≠i2:=fun b u e z=>by rw [z,b0] at e;cases e
 have kk: ∀b o,b∉[i1,i2]->s.heap.get? b=some o->h'.get? b=some o:=fun b o hc e=>k b o (fun z=>hc (by simp [z])) (fun z=>hc (by simp [z])) e
 refine I.step (g':=s.gens) (d':=s.drawn) (ch:=[i1,i2]) (fun b hb=>?_) (fun b o _ _ hc e _=>kk b o hc e) (fun b o _ _ hc e _=>⟨o.slots,kk b o hc e⟩) (fun _ _ _ _ n=>n)
   (fun b o hc e=>⟨o,kk b o hc e⟩) (fun _ _ e=>e) (fun _ _ _ e=>e) (fun b ps e=>⟨#[],by rw [e];simp⟩) (fun m hm=>?_) (fun b u e=>?_) I.bare
 · simp only [aah,aaq,or_false] at hb;rcases hb with rfl|rfl
   · exact ⟨a3,a1,a4,a5⟩
   · exact ⟨b3,b1,b4,b5⟩
 · obtain ⟨o,es,ep,ho,r⟩:=hm;exact ⟨o,es,ep,k _ o (acF a1) (acF b1) ho,r⟩
 · refine (I.hok b u e).stay (fun c v hc q=>k c v ?_ ?_ q) (fun _ q=>q) fun _ _ q=>q
   · rcases hc with z|z
     · rw [z];exact n1 b u e
     · exact n1 c _ z
   · rcases hc with z|z
     · rw [z];exact n2 b u e
     · exact n2 c _ z
end
def ItE (K:aaa) (a:Addr) (xs:List V):It:=⟨fun i H=>SqL K H a xs/\i<xs.length,fun i H v H'=> ∃p x,H p=none/\xs[i]?=some x/\v= .ref p/\H'=upd H p (.tup [.int (i:Int),x]),fun i H=>SqL K H a xs/\xs.length<=i⟩
theorem kf {P:aaD} {w:World} {K:aaa} {elts:List Expr} {n:Nat} {pos:Pos} (a it e:Addr) (xs:List V) (hei:e≠it):Turn P w K (.Tuple elts n pos) (ItE K a xs) [e,it] e (fun i h=>(∃old,IsEnum h e it (i:Int) old)/\h.IsListIter it a i) where
 mem:=by simp
 obj:=fun i h st b hb=>by
  obtain ⟨⟨old,he⟩,o,ho,hc,hd⟩:=st;simp only [aah,aaq,or_false] at hb;rcases hb with rfl|rfl
  · exact ⟨_,he,fun v z=>by cases z⟩
  · exact ⟨o,ho,fun v z=>by rw [hd] at z;cases z⟩
 keep:=fun i h h' st k=>by
  obtain ⟨⟨old,he⟩,hit⟩:=st;exact ⟨⟨old,k e (by simp) _ he⟩,hit.at fun o x=>k it (by simp) o x⟩
 item:=by
  intro X hP hw hK hc i pins s σ H E I hf st hg;subst hP hw hK;obtain ⟨hq,hi⟩:=hg;obtain ⟨its,rv,p,hz⟩:=I.list hq;have hx:xs[i]?=some xs[i]:=aag hi;obtain ⟨u,hu,ru⟩:=rv.get hx;obtain ⟨⟨old,he⟩,hit⟩:=st;have fe:=hf e (by simp);have fi:=hf it (by simp);refine wpAny_pyNext_enum_item he hit p.isList (x:=u) (by simpa using hu) hei fun h' ho hit' hT hsz hk=>?_
  refine ⟨_,rfl,wpAny_letOwnedTupleGo_enum ho fun h'' he' hs'=>?_⟩;have helt:e<s.heap.objs.size:=aat he;have hilt:it<s.heap.objs.size:=by obtain ⟨_,x,_⟩:=hit;exact aat x
  have hfr:H s.heap.objs.size=none:=I.hok.fresh (aai _)
  have I1:Inv X pins σ (upd H s.heap.objs.size (.tup [.int (i:Int),xs[i]])) {s with heap:=s.heap.push {cls:= .type "tuple",data:= .seq #[.int i s.toks,u]}}:=
    I.laid (t':=s.toks) (fun b o e=>aac _ e) (aai _) ⟨aaC (show 2<=20 by decide) (by decide),[.int i s.toks,u],.cons ⟨_,rfl⟩ (.cons ru .nil),⟨_,aam _ rfl,rfl,_,rfl⟩⟩
  have fe1:FpOk X pins (upd H s.heap.objs.size (.tup [.int (i:Int),xs[i]])) e:=⟨by rw [jT (aaG helt)];exact fe.1,fe.2⟩
  have fi1:FpOk X pins (upd H s.heap.objs.size (.tup [.int (i:Int),xs[i]])) it:=⟨by rw [jT (aaG hilt)];exact fi.1,fi.2⟩
  have I2:=xt (t':=s.toks+1) (h':=h'') I1 (fun b o hbe hbi eo=>by
    refine (hs'.2 b hbe).trans ?_
    by_cases hb:b=s.heap.objs.size
    · subst hb;rw [aam _ rfl] at eo;rw [←eo];exact hT
    · have eo':s.heap.get? b=some o:=by
       rcases acv eo with ⟨z,_⟩|z
       · exact absurd z hb
       · exact z
      exact hk b o hbe hbi eo') fe1 fi1
  refine ⟨.ref s.heap.objs.size,_,I2,rfl,⟨_,_,hfr,hx,rfl,rfl⟩,⟨⟨_,by simpa using he'⟩,hit'.at fun o y=>(hs'.2 it hei.symm).trans y⟩,fun b hb=>?_⟩;simp only [aah,aaq,or_false] at hb;rcases hb with rfl|rfl
  · exact fe1.1
  · exact fi1.1
 done:=by
  intro X hP hw hK hc i pins s σ H E I hf st hg;subst hP hw hK;obtain ⟨hq,hi⟩:=hg;obtain ⟨its,rv,p,hz⟩:=I.list hq;obtain ⟨⟨old,he⟩,hit⟩:=st;have hl:=rv.length;refine wpAny_pyNext_enum_end (I.ok.hd hc) he hit p.isList (by simp;omega) fun h' eb=>⟨rfl,xt (t':=s.toks) I (fun b o hbe hbi eo=>eb b o hbi eo) (hf e (by simp)) (hf it (by simp))⟩
 self:=fun _ _ _ _ _ st h=>let ⟨⟨_,he⟩,_⟩:=st;ac9 he h
section
variable {X:Cx} {elts:List Expr} {n:Nat} {tpos p pos:Pos} {e:Expr} {f:Sl->Res D}
def ju:Nat->List D->List D
 |_,[]=>[]
 |k,d::r=> .tup [.int (k:Int),d]::ju (k+1) r
theorem Q7: ∀(k:Nat) (ds:List D),(ju k ds).length=ds.length
 |_,[]=>rfl
 |k,d::r=>by simp [ju,Q7 (k+1) r]
theorem Q8: ∀(k i:Nat) (ds:List D),(ju k ds)[i]?=(ds[i]?).map fun d=> .tup [.int ((k+i:Nat):Int),d]
 |k,i,[]=>by simp [ju]
 |k,0,d::r=>by simp [ju]
 |k,i+1,d::r=>by
  simp only [ju,aaQ];rw [Q8 (k+1) i r];congr 1;funext d;congr 3;omega
def Qv (f:Sl->Res D):Sl->Res (List D):=fun env=>f env>>=fun d=>match d with
 | .lst ds=> .ok (ju 0 ds)
 | .scr ds=> .ok (ju 0 ds)
 |_=> .stuck
theorem Xd (hg : Gl X "enumerate") (hm : X.mg "enumerate" = none) (h : DE X .s e f) (hs : aal [e] X.env = [(false, eval e X.env)] := by rfl) : DI X (.Tuple elts n tpos) (.Call (.Name "enumerate" p) [e] [] pos) (Qv f) := by
  have hE : PE X e (tE X.K .s f) := by with_unfolding_all exact h
  with_unfolding_all exact (show PI X (.Tuple elts n tpos) (.Call (.Name "enumerate" p) [e] [] pos) (tI X.K (Qv f)) from by
    intro pins s σ H R I ⟨G, H0, env, ds, k, ef, q⟩
    obtain ⟨d, e1, e2⟩ := jc ef
    have hA : PA X [e] (tA X.K .s fun env => f env >>= fun d => .ok [d]) := by
      have := j8 hE wv (es := []) hs
      intro ps pins s σ H Q I ⟨G, H0, env, ds, k, ef, q⟩
      obtain ⟨d, c1, c2⟩ := jc ef
      cases c2
      exact this ps pins s σ H Q I ⟨G, H0, env, d, k, c1, fun v H1 s1 r1 _ => q [v] H1 s1 (.cons r1 .nil)⟩
    refine Call_ (Jq I hg hm boot_enumerate (aa0 (thn (hA pos pins s σ H (fun vs H1 => ∃ v, vs = [v] /\ Same H H1 /\ Rep X.K (Sf G env σ) H1 v d) I ⟨G, H0, env, [d], k, by show (f env >>= _) = _; rw [e1]; rfl, fun vs H1 s1 r1 => by obtain ⟨v, rfl, r⟩ := r1.one; exact ⟨v, rfl, s1, r⟩⟩) fun us s1 ⟨vs, H1, I1, r1, v, ev, sm, rep⟩ => ?_) hs rfl))
    subst ev
    obtain ⟨u, rfl, ru⟩ := QQ r1
    have k1 := k.grow sm
    have main : ∀ (a : Addr) (xs : List V) (es : List D) (P : Hp -> Prop), u = .ref a -> SqL X.K H1 a xs -> Reps X.K (Sf G env σ) H1 xs es -> ds = ju 0 es -> P H1 -> (∀ H', P H' -> SqL X.K H' a xs) -> (∀ env' σ' H', Frm env σ H1 env' σ' H' -> P H') -> wpAny (model X.prog X.w) X.A (call (.type "enumerate") [u]) (fun v s1 => wpAny (model X.prog X.w) X.A (pyIter v) (PIE X pins σ (.Tuple elts n tpos) R) X.xe s1) X.xe s1 := by
      intro a xs es P eu hq rs eds p0 pq pst
      subst eu
      obtain ⟨its, rv, pl, hz⟩ := I1.list hq
      refine call_enumerate_list pl.isList fun h' he hit hsz hk => ac9 he ?_
      have I2 : Inv X pins σ H1 { s1 with heap := h' } := I1.kept (t' := s1.toks) hk
      refine ⟨s1.heap.objs.size + 1, [s1.heap.objs.size + 1, s1.heap.objs.size], _, _, H1, rfl, I2, kf a s1.heap.objs.size (s1.heap.objs.size + 1) xs (Nat.succ_ne_self _), ⟨⟨_, he⟩, hit⟩, fun b hb => ?_, ?_⟩
      · simp only [aah, aaq, or_false] at hb
        rcases hb with rfl | rfl
        · exact I1.fpOk (adu _) (I1.hok.fresh (adu _))
        · exact I1.fpOk (aai _) (I1.hok.fresh (aai _))
      · refine q _ H1 P sm (fun i H' pp => ?_) p0 pst
        have hl := rs.length
        subst eds
        rw [Q7]
        refine ⟨fun hi => ⟨pq H' pp, by omega⟩, fun d hd x H2 y => ?_, fun hi => ⟨pq H' pp, by omega⟩⟩
        obtain ⟨p, x', hp, hx', rfl, rfl⟩ := y
        obtain ⟨d', hd', rd⟩ := rs.get' hx'
        rw [Q8, hd'] at hd
        cases hd
        exact .inr ⟨p, _, _, hp, rfl, rfl, rfl, .cons (by rw [adJ]; exact .int _) (.cons rd .nil)⟩
    cases d with
    | lst es =>
      cases e2
      obtain ⟨a, xs, rfl, ha, na, rs⟩ := rep.lstE
      exact main a xs es (fun H => H a = some (.lst xs)) ru (.of ha) rs.low rfl ha (fun H' z => .of z) fun env' σ' H' fr => fr.keep a _ ha na.1
    | scr es =>
      cases e2
      obtain ⟨a, xs, rfl, ha, rs⟩ := rep.scrE
      refine main a xs es (fun H => LsK X.K H a xs) ru ha.sql rs rfl ha (fun H' z => z.sql) fun env' σ' H' fr => ?_
      rcases ha with ⟨o, eo⟩ | z
      · exact .inl ⟨o, fr.keep a _ eo fun ow => (k1.mutO ow eo).elim⟩
      · exact .inr z
    | _ => cases e2)
end
end M
namespace M
open PySem PySem.Spec L2
open Classical in
noncomputable instance decD:DecidableEq D:=fun a b=>propDecidable (a=b)
mutual
def nb:D->Bool
 | .int _=>true
 | .str _=>true
 | .tup ds=>nbs ds
 |_=>false
def nbs:List D->Bool
 | []=>true
 |d::r=>nb d&&nbs r
end
theorem jb8: ∀ {ds:List D},(∀d∈ds,nb d=true)->nbs ds=true
 | [],_=>rfl
 |x::r,h=>by simp only [nbs,aap];exact ⟨h x (by simp),jb8 fun d hd=>h d (by simp [hd])⟩
def jd3 (a:D):Prop:=nb a=true-> ∀b,nb b=true->(eqD a b=true↔a=b)
theorem VB: ∀ {as:List D},(∀a∈as,jd3 a)->nbs as=true-> ∀bs,nbs bs=true->(eqDs as bs=true↔as=bs)
 | [],_,_,[],_=>by simp [eqDs]
 | [],_,_,b::bs,_=>by simp [eqDs]
 |a::as,_,_,[],_=>by simp [eqDs]
 |a::as,h,ha,b::bs,hb=>by
  simp only [nbs,aap] at ha hb;simp only [eqDs,aap,aed];rw [h a (by simp) ha.1 b hb.1,VB (fun x hx=>h x (by simp [hx])) ha.2 bs hb.2]
theorem jdx (a:D):jd3 a:=by
 refine D.ind (P:=jd3) ?_ ?_ ?_ ?_ ?_ ?_ ?_ ?_ a
 · intro h;simp [nb] at h
 · intro b h;simp [nb] at h
 · intro i _ b hb;cases b<;>first| (simp [nb] at hb;done)|simp [eqD]
 · intro x _ b hb;cases b<;>first| (simp [nb] at hb;done)|simp [eqD]
 · intro ds ih ha b hb
   cases b with
   |tup es=>
    simp only [eqD,D.tup.injEq];exact VB ih (by simpa only [nb] using ha) es (by simpa only [nb] using hb)
   |int i=>simp [eqD]
   |str x=>simp [eqD]
   |_=>simp [nb] at hb
 · intro ds _ h;simp [nb] at h
 · intro ds _ h;simp [nb] at h
 · exact ⟨fun ks ds _ h=>by simp [nb] at h,fun ks ds _ h=>by simp [nb] at h,fun c h=>by simp [nb] at h,fun ks ds _ h=>by simp [nb] at h,fun ks ds _ h=>by simp [nb] at h,fun c ns ds _ h=>by simp [nb] at h⟩
end M
namespace M
open PySem PySem.Spec L2
open PyProof.Rows hiding St
section
variable {prog:aaD} {w:World} {A:aaX} {E:Value->aaj->Prop} {s:aaj} {it t:Addr} {i:Nat} {items:Array Value} {Q:Value->aaj->Prop}
theorem QD {x:Value} (hit:s.heap.IsTupleIter it t i) (ht:s.heap.IsTuple t items) (hx:items[i]?=some x) (hQ: ∀h',h'.IsTupleIter it t (i+1)->acK it s.heap h'->Q x {s with heap:=h'}):
  wpAny (model prog w) A (aaY (.ref it)) Q E s:=by
 obtain ⟨o,ho,hc,hd⟩:=id hit;obtain ⟨o2,ho2,_,n2,hd2⟩:=ht;unfold aaY
 refine aab (aa6 (name:=acm "__next__") hit.typeIs abP (aba abP hit.typeIs F.entry_tuple_iterator_next
  (show wpAny _ _ (field (.ref it) 0>>=_) _ _ s from aab (abq ho hd (x:= .ref t) rfl (show wpAny _ _ (if (aaJ t==abh)=true then _ else _) _ _ s from ?_))) (F.args_tuple_iterator_next_1 _)))
 rw [if_neg (show¬((aaJ t==abh)=true) from aaz)];refine (show wpAny _ _ (field (.ref it) 1>>=_) _ _ s from aab (abq ho hd (x:= .int i 0) rfl (show wpAny _ _ (seqItems? (.ref t)>>=_) _ _ s from aab (ab0 ho2 hd2 ?_))));simp only [abo,hx];exact aab (adQ ho hd (by simp) (aak ⟨x,rfl,aak (hQ _ ⟨_,Heap.get?_update_self _ ho (Obj.isFreed_of_fields (acX hd _)),(Obj.cls_mapFields ..).trans hc,by rw [acX hd];simp [adV]⟩ (acJ ..))⟩))
theorem W9 (hh:A.handled=none) (hit:s.heap.IsTupleIter it t i) (ht:s.heap.IsTuple t items) (hx:items[i]?=none)
  (hE: ∀h' e,Heap.ExtBut it s.heap h'->(∃o,h'.get? e=some o/\o.cls= .type "StopIteration")->E (.ref e) {s with heap:=h'}):
  wpAny (model prog w) A (aaY (.ref it)) Q E s:=by
 obtain ⟨o,ho,hc,hd⟩:=id hit;obtain ⟨o2,ho2,_,n2,hd2⟩:=ht;unfold aaY
 refine aab (aa6 (name:=acm "__next__") hit.typeIs abP (aba abP hit.typeIs F.entry_tuple_iterator_next
  (show wpAny _ _ (field (.ref it) 0>>=_) _ _ s from aab (abq ho hd (x:= .ref t) rfl (show wpAny _ _ (if (aaJ t==abh)=true then _ else _) _ _ s from ?_))) (F.args_tuple_iterator_next_1 _)))
 rw [if_neg (show¬((aaJ t==abh)=true) from aaz)];refine (show wpAny _ _ (field (.ref it) 1>>=_) _ _ s from aab (abq ho hd (x:= .int i 0) rfl (show wpAny _ _ (seqItems? (.ref t)>>=_) _ _ s from aab (ab0 ho2 hd2 ?_))));simp only [abo,hx];refine aab (ado (aab (adQ ho hd (by simp) (show wpAny _ _ (newExc (.type "StopIteration") []>>=_) _ _ _ from aab ?_))));simp only [newExc,newTuple];refine aab (abg (aab (m:=adR _ _) (wpAny_of_eq (a:=abh) (by first|rfl| (simp only [adR];rfl)) (abg ?_ (by size_fits)))) (by size_fits));simp only [raiseNew];refine aab (wpAny_handled ?_);rw [show A.in1.handled=none from hh];exact aab (aak (wpAny_throw (hE _ _ (((acJ ..).extBut.push _).push _) ⟨_,aam _ rfl,rfl⟩)))
theorem uF (hh:A.handled=none) (it l:Addr) (hne:l≠it) (items:Array Value):Draws prog w A it [it,l] items.size (fun i v=>items[i]?=some v) (fun i h=>h.IsTupleIter it l i/\h.IsTuple l items) where
 live:=fun _ _ st=>let ⟨o,ho,_⟩:=st.1;⟨o,ho⟩
 frame:=fun _ _ _ st hk=>⟨st.1.at fun o e=>hk it (by simp) o e,let ⟨o,ho,r⟩:=st.2;⟨o,hk l (by simp) o ho,r⟩⟩
 item:=fun i s Q E hi st hQ=>QD st.1 st.2 (x:=items[i]) (by simp [hi]) fun h' hit' hs'=>hQ _ h' s.toks (by simp [hi]) ⟨hit',st.2.extBut hs'.extBut hne⟩ hs'
 done:=fun s Q E st hE=>W9 hh st.1 st.2 (by simp) hE
theorem jby (hh:A.handled=none) (it l:Addr) (items:Array Value) (i:Nat) (hi:items.size<=i):Draws prog w A it [it,l] i (fun _ _=>True) (fun j h=>j=i/\h.IsTupleIter it l j/\h.IsTuple l items) where
 live:=fun _ _ st=>let ⟨o,ho,_⟩:=st.2.1;⟨o,ho⟩
 frame:=fun _ _ _ st hk=>⟨st.1,st.2.1.at fun o e=>hk it (by simp) o e,let ⟨o,ho,r⟩:=st.2.2;⟨o,hk l (by simp) o ho,r⟩⟩
 item:=fun j s Q E hj st hQ=>absurd st.1 (aaG hj)
 done:=fun s Q E st hE=>W9 hh st.2.1 st.2.2 (by simp;omega) hE
end
open AutoSeq1 (wpAny_loadPart') in
theorem uz (l:Addr) (items:Array Value) (n:Nat) (dct:Option Addr) (sl:Array (Option Value)):
  PySem.Meets (adv.«enumerate.__new__» ⟨[.type "enumerate",.ref l],[]⟩) (fun _ R s=>s.heap.get? l=some {cls:= .type "tuple",dict:=dct,data:= .seq items n,slots:=sl}/\
    R (.ok (.ret (.ref (s.heap.push {cls:= .type "tuple_iterator",data:= .fields #[.ref l,.int 0 0]}).objs.size)))
     {s with heap:=(s.heap.push {cls:= .type "tuple_iterator",data:= .fields #[.ref l,.int 0 0]}).push {cls:= .type "enumerate",data:= .fields #[.none,.bool false,.ref s.heap.objs.size,adV 0,.none,.none]}}):=
 .of_wp fun prog w A R s h=>by
  obtain ⟨hp,g,d,tk,os⟩:=s;obtain ⟨hl,h⟩:=h;have hsub:=sub_enumerate;have hT:Heap.IsTuple (Shared.heap ⟨hp,g,d,tk,os⟩) l items:=⟨_,hl,rfl,n,rfl⟩
  wp_walk using acU hl
  refine wpAny_stack_any fun st=>aak ?_
  split
  · rename_i c _ _ _ _ _;cases (c==ac5 "enumerate")<;>(wp_walk using acU hl,acf hT;exact ⟨_,rfl,h⟩)
  · wp_walk using acU hl,acf hT
    exact ⟨_,rfl,h⟩
section
variable {prog:aaD} {w:World} {A:aaX} {E:Value->aaj->Prop} {s:aaj}
theorem UY {l:Addr} {items:Array Value} {Q:Value->aaj->Prop} (hL:s.heap.IsTuple l items)
  (h: ∀h',IsEnum h' (s.heap.objs.size+1) s.heap.objs.size 0 .none->h'.IsTupleIter s.heap.objs.size l 0->(∀b o,s.heap.get? b=some o->h'.get? b=some o)->Q (.ref (s.heap.objs.size+1)) {s with heap:=h'}):
  wpAny (model prog w) A (call (.type "enumerate") [.ref l]) Q E s:=by
 obtain ⟨⟨c,dct,dt,sl⟩,hl,hc,n,hd⟩:=hL;cases (show c= .type "tuple" from hc);cases (show dt= .seq items n from hd);refine callType_new F.called_enumerate (by decide) (F.typeCall_enumerate_1 _) (F.newCall_enumerate_1 _) (fun obj=>F.args_object_init_2 obj _) F.entry_enumerate_new (uz l items n dct sl) ⟨hl,?_⟩;generalize hI:s.heap.push {cls:= .type "tuple_iterator",data:= .fields #[.ref l,.int 0 0]}=hi;have hz:hi.objs.size=s.heap.objs.size+1:=by rw [←hI];exact abY ..
 have hit:hi.get? s.heap.objs.size=some {cls:= .type "tuple_iterator",data:= .fields #[.ref l,.int 0 0]}:=by rw [←hI];exact aam _ rfl
 have hk: ∀b o,s.heap.get? b=some o->hi.get? b=some o:=fun b o x=>by rw [←hI];exact aac _ x
 have he:=aam hi (o:={cls:= .type "enumerate",data:= .fields #[.none,.bool false,.ref s.heap.objs.size,adV 0,.none,.none]}) rfl;rw [hz] at he;show _/\_;rw [hz];exact ⟨⟨_,he,rfl⟩,h _ he ⟨_,aac _ hit,rfl,rfl⟩ fun b o x=>aac _ (hk b o x)⟩
end
def ItET (K:aaa) (a:Addr) (xs:List V):It:=⟨fun i H=>SqT K H a xs/\i<xs.length,fun i H v H'=> ∃p x,H p=none/\xs[i]?=some x/\v= .ref p/\H'=upd H p (.tup [.int (i:Int),x]),fun i H=>SqT K H a xs/\xs.length<=i⟩
theorem Ug {P:aaD} {w:World} {K:aaa} {elts:List Expr} {n:Nat} {pos:Pos} (a it e:Addr) (xs:List V) (hei:e≠it) (hai:a≠it) (hae:a≠e):Turn P w K (.Tuple elts n pos) (ItET K a xs) [e,it] e (fun i h=>(∃old,IsEnum h e it (i:Int) old)/\h.IsTupleIter it a i) where
 mem:=by simp
 obj:=fun i h st b hb=>by
  obtain ⟨⟨old,he⟩,o,ho,hc,hd⟩:=st;simp only [aah,aaq,or_false] at hb;rcases hb with rfl|rfl
  · exact ⟨_,he,fun v z=>by cases z⟩
  · exact ⟨o,ho,fun v z=>by rw [hd] at z;cases z⟩
 keep:=fun i h h' st k=>by
  obtain ⟨⟨old,he⟩,hit⟩:=st;exact ⟨⟨old,k e (by simp) _ he⟩,hit.at fun o x=>k it (by simp) o x⟩
 item:=by
  intro X hP hw hK hc i pins s σ H E I hf st hg;subst hP hw hK;obtain ⟨hq,hi⟩:=hg;obtain ⟨its,rv,p,hz⟩:=I.tuple hq;have hx:xs[i]?=some xs[i]:=aag hi;obtain ⟨u,hu,ru⟩:=rv.get hx;obtain ⟨⟨old,he⟩,hit⟩:=st;have fe:=hf e (by simp);have fi:=hf it (by simp);have hl:=rv.length;refine wpAny_pyNext_enum_itemD (uF (A:=X.A.in1) (I.ok.hd hc) it a hai its.toArray) he ⟨hit,show s.heap.IsTuple a its.toArray from p⟩ (by simp;omega) hei (by simp [hei,acF hae]) fun x h' tk px ho st' hT hsz hk=>?_
  have hxu:x=u:=by
    have:its.toArray[i]?=some u:=by simpa using hu
    rw [this] at px;exact (aaF px).symm
  subst hxu;refine ⟨_,rfl,wpAny_letOwnedTupleGo_enum ho fun h'' he' hs'=>?_⟩;have helt:e<s.heap.objs.size:=aat he;have hilt:it<s.heap.objs.size:=by obtain ⟨_,x,_⟩:=hit;exact aat x
  have hfr:H s.heap.objs.size=none:=I.hok.fresh (aai _)
  have I1:Inv X pins σ (upd H s.heap.objs.size (.tup [.int (i:Int),xs[i]])) {s with heap:=s.heap.push {cls:= .type "tuple",data:= .seq #[.int i tk,x]}}:=
    I.laid (t':=s.toks) (fun b o e=>aac _ e) (aai _) ⟨aaC (show 2<=20 by decide) (by decide),[.int i tk,x],.cons ⟨_,rfl⟩ (.cons ru .nil),⟨_,aam _ rfl,rfl,_,rfl⟩⟩
  have fe1:FpOk X pins (upd H s.heap.objs.size (.tup [.int (i:Int),xs[i]])) e:=⟨by rw [jT (aaG helt)];exact fe.1,fe.2⟩
  have fi1:FpOk X pins (upd H s.heap.objs.size (.tup [.int (i:Int),xs[i]])) it:=⟨by rw [jT (aaG hilt)];exact fi.1,fi.2⟩
  have I2:=xt (t':=tk+1) (h':=h'') I1 (fun b o hbe hbi eo=>by
    refine (hs'.2 b hbe).trans ?_
    by_cases hb:b=s.heap.objs.size
    · subst hb;rw [aam _ rfl] at eo;rw [←eo];exact hT
    · have eo':s.heap.get? b=some o:=by
       rcases acv eo with ⟨z,_⟩|z
       · exact absurd z hb
       · exact z
      exact hk b o hbe hbi eo') fe1 fi1
  refine ⟨.ref s.heap.objs.size,_,I2,rfl,⟨_,_,hfr,hx,rfl,rfl⟩,⟨⟨_,by simpa using he'⟩,st'.1.at fun o y=>(hs'.2 it hei.symm).trans y⟩,fun b hb=>?_⟩;simp only [aah,aaq,or_false] at hb;rcases hb with rfl|rfl
  · exact fe1.1
  · exact fi1.1
 done:=by
  intro X hP hw hK hc i pins s σ H E I hf st hg;subst hP hw hK;obtain ⟨hq,hi⟩:=hg;obtain ⟨its,rv,p,hz⟩:=I.tuple hq;obtain ⟨⟨old,he⟩,hit⟩:=st;have hl:=rv.length;refine wpAny_pyNext_enum_endD (jby (A:=X.A.in1) (I.ok.hd hc) it a its.toArray i (by simp;omega)) he ⟨rfl,hit,show s.heap.IsTuple a its.toArray from p⟩ fun h' eb=>⟨rfl,xt (t':=s.toks) I (fun b o hbe hbi eo=>eb b o hbi eo) (hf e (by simp)) (hf it (by simp))⟩
 self:=fun _ _ _ _ _ st h=>let ⟨⟨_,he⟩,_⟩:=st;ac9 he h
section
variable {X:Cx} {elts:List Expr} {n:Nat} {tpos p pos:Pos} {e:Expr} {f:Sl->Res D}
def jbp (f:Sl->Res D):Sl->Res (List D):=fun env=>f env>>=fun d=>match d with
 | .tup ds=> .ok (ju 0 ds)
 |_=> .stuck
theorem jbA (hg : Gl X "enumerate") (hm : X.mg "enumerate" = none) (h : DE X .s e f) (hs : aal [e] X.env = [(false, eval e X.env)] := by rfl) : DI X (.Tuple elts n tpos) (.Call (.Name "enumerate" p) [e] [] pos) (jbp f) := by
  have hE : PE X e (tE X.K .s f) := by with_unfolding_all exact h
  with_unfolding_all exact (show PI X (.Tuple elts n tpos) (.Call (.Name "enumerate" p) [e] [] pos) (tI X.K (jbp f)) from by
    intro pins s σ H R I ⟨G, H0, env, ds, k, ef, q⟩
    obtain ⟨d, e1, e2⟩ := jc ef
    have hA : PA X [e] (tA X.K .s fun env => f env >>= fun d => .ok [d]) := by
      have := j8 hE wv (es := []) hs
      intro ps pins s σ H Q I ⟨G, H0, env, ds, k, ef, q⟩
      obtain ⟨d, c1, c2⟩ := jc ef
      cases c2
      exact this ps pins s σ H Q I ⟨G, H0, env, d, k, c1, fun v H1 s1 r1 _ => q [v] H1 s1 (.cons r1 .nil)⟩
    refine Call_ (Jq I hg hm boot_enumerate (aa0 (thn (hA pos pins s σ H (fun vs H1 => ∃ v, vs = [v] /\ Same H H1 /\ Rep X.K (Sf G env σ) H1 v d) I ⟨G, H0, env, [d], k, by show (f env >>= _) = _; rw [e1]; rfl, fun vs H1 s1 r1 => by obtain ⟨v, rfl, r⟩ := r1.one; exact ⟨v, rfl, s1, r⟩⟩) fun us s1 ⟨vs, H1, I1, r1, v, ev, sm, rep⟩ => ?_) hs rfl))
    subst ev
    obtain ⟨u, rfl, ru⟩ := QQ r1
    have k1 := k.grow sm
    cases d with
    | tup es =>
      cases e2
      obtain ⟨a, xs, rfl, ha, rs⟩ := rep.tupE
      cases ru
      have hq : SqT X.K H1 a xs := .inl (.of ha)
      obtain ⟨its, rv, pl, hz⟩ := I1.tuple hq
      have hlt : a < s1.heap.objs.size := by obtain ⟨o, ho, _⟩ := pl; exact aat ho
      refine UY (show s1.heap.IsTuple a its.toArray from pl) fun h' he hit hk => ac9 he ?_
      have I2 : Inv X pins σ H1 { s1 with heap := h' } := I1.kept (t' := s1.toks) hk
      refine ⟨s1.heap.objs.size + 1, [s1.heap.objs.size + 1, s1.heap.objs.size], _, _, H1, rfl, I2, Ug a s1.heap.objs.size (s1.heap.objs.size + 1) xs (Nat.succ_ne_self _) (aaG hlt) (aaG (Nat.lt_succ_of_lt hlt)), ⟨⟨_, he⟩, hit⟩, fun b hb => ?_, ?_⟩
      · simp only [aah, aaq, or_false] at hb
        rcases hb with rfl | rfl
        · exact I1.fpOk (adu _) (I1.hok.fresh (adu _))
        · exact I1.fpOk (aai _) (I1.hok.fresh (aai _))
      · refine q _ H1 (fun H => H a = some (.tup xs)) sm (fun i H' pp => ?_) ha fun env' σ' H' fr => fr.keep a _ ha fun ow => (k1.mutO ow ha).elim
        have hl := rs.length
        rw [Q7]
        refine ⟨fun hi => ⟨.inl (.of pp), by omega⟩, fun d hd x H2 y => ?_, fun hi => ⟨.inl (.of pp), by omega⟩⟩
        obtain ⟨p, x', hp, hx', rfl, rfl⟩ := y
        obtain ⟨d', hd', rd⟩ := rs.get' hx'
        rw [Q8, hd'] at hd
        cases hd
        exact .inr ⟨p, _, _, hp, rfl, rfl, rfl, .cons (by rw [adJ]; exact .int _) (.cons rd .nil)⟩
    | _ => cases e2)
end
end M
namespace M
open PySem PySem.Spec L2
open PyProof.Rows hiding St
section
variable {X:Cx} {K:aaa}
def notN:D->D->Res D
 |a,.non=> .ok (.bl (!a.isNon))
 |_,_=> .stuck
theorem vy:OpS K (fun x y H Q=>y= .non/\Q (.bl (!decide (x= .non))) H) notN:=by
 intro x y H a b d Q ra rb e q;unfold notN at e
 split at e
 · cases e;refine ⟨rb.nonE,?_⟩;have:decide (x=V.non)=a.isNon:=by cases ra<;>simp [D.isNon]
   rw [this];exact q _ (jho _)
 · cases e
end
def jcI (K:aaa):R2:=fun x y H Q=> ∃a b ys,x= .ref a/\y= .ref b/\SqT K H a []/\SqT K H b ys/\Q (.ref b) H
theorem op_cat0 {X:Cx}:OpR X (abG .Add) (jcI X.K):=by
 intro pins s σ H x y v u Q I rx ry h;obtain ⟨a,b,ys,rfl,rfl,ha,hb,q⟩:=h;cases rx;cases ry;obtain ⟨its,r1,p1,_⟩:=I.tuple ha;obtain ⟨its2,r2,p2,_⟩:=I.tuple hb;cases r1;obtain ⟨⟨c,dd,data,sl⟩,ho,hc,n,hd⟩:=p1;obtain ⟨⟨c2,dd2,data2,sl2⟩,ho2,hc2,n2,hd2⟩:=p2;simp only at hc hd hc2 hd2;subst hc hd hc2 hd2;exact concat_meets ⟨_,ho,rfl⟩ ⟨_,ho2,rfl⟩ noFill_tuple_add seq_tuple_add ac3 acS (acL _ _) (tuple_addW0 a b #[] its2.toArray n n2 dd dd2 sl sl2 rfl) ⟨ho,ho2,⟨.ref b,H,I,rfl,q⟩⟩
def addE:D->D->Res D
 | .tup [],.tup b=> .ok (.tup b)
 |a,b=>addD a b
theorem vq {X:Cx}:OpR X (abG .Add) (fun x y H Q=>jcI X.K x y H Q\/(rI0 (fun i j=> .int (i+j)) x y H Q\/(∃i j,x= .str i/\y= .str j/\i.length+j.length<=aae/\Q (.str (i++j)) H)\/rCat x y H Q\/kQ X.K x y H Q)):=op_cat0.or jx
theorem vz {K:aaa}:OpD K (fun x y H Q=>jcI K x y H Q\/(rI0 (fun i j=> .int (i+j)) x y H Q\/(∃i j,x= .str i/\y= .str j/\i.length+j.length<=aae/\Q (.str (i++j)) H)\/rCat x y H Q\/kQ K x y H Q)) addE:=by
 intro A x y H a b d Q ra rb e q;unfold addE at e
 split at e
 · cases e;obtain ⟨l,xs,rfl,hl,rx⟩:=ra.tupE;obtain ⟨l',ys,rfl,hl',ry⟩:=rb.tupE;cases rx;refine .inl ⟨l,l',ys,rfl,rfl,.inl (.of hl),.inl (.of hl'),q _ H (Same.refl H) (.tup hl' (ry.weak orA)) fun a e o q' m=>?_⟩;cases e;rw [hl'] at q';cases q';exact m
 · exact .inr (jM A x y H _ _ d Q ra rb e q)
end M
namespace M
open PySem PySem.Spec L2
open PyProof.Rows hiding St
inductive OutI where
 |nx (env:Sl)|rt (b:Bool) (env:Sl)
abbrev At (σ:L2.St) (i:Nat) (a:Addr):Prop:=σ[i]?=some (some (V.ref a))
def jbR (K:aaa) (G:Addr->Prop) (H0:Hp) (i:Nat) (a:Addr) (env:Sl) (σ:L2.St) (H:Hp) (E:Ends):OutI->Prop
 | .nx env'=> ∀σ' H',EnvOk K G H0 env' σ' H'->At σ' i a->Frm env σ H env' σ' H'->E.nx σ' H'
 | .rt b env'=> ∀σ' H',EnvOk K G H0 env' σ' H'->At σ' i a->Frm env σ H env' σ' H'->E.rt (.bl b) H'
def tSI (K:aaa) (i:Nat) (g:Sl->Res OutI):TS:=fun E σ H=> ∃G H0 env o a,EnvOk K G H0 env σ H/\At σ i a/\g env= .ok o/\jbR K G H0 i a env σ H E o
@[irreducible] def DSI (X:Cx) (i:Nat) (st:Stmt) (g:Sl->Res OutI):Prop:=PS X st (tSI X.K i g)
@[irreducible] def DSsI (X:Cx) (i:Nat) (st:List Stmt) (g:Sl->Res OutI):Prop:=PSs X st (tSI X.K i g)
section
variable {K:aaa} {G:Addr->Prop} {H0 H H':Hp} {env env':Sl} {σ σ':L2.St} {i:Nat} {a:Addr} {E:Ends}
theorem J3 {o:OutI} (f:Frm env σ H env' σ' H') (q:jbR K G H0 i a env σ H E o):jbR K G H0 i a env' σ' H' E o:=by
 cases o with
 |nx e=>exact fun σ2 H2 k2 a2 f2=>q σ2 H2 k2 a2 (f.trans f2)
 |rt b e=>exact fun σ2 H2 k2 a2 f2=>q σ2 H2 k2 a2 (f.trans f2)
theorem EnvOk.anew {d d':D} (k:EnvOk K G H0 env σ H) (hi:env[i]?=some (.own d)) (ha:At σ i a) (hs: ∀c o,c≠a->H c=some o->H' c=some o) (t:Top K (Sf G env σ) H' a d'):
   EnvOk K G H0 (env.set i (.own d')) σ H'/\Frm env σ H (env.set i (.own d')) σ H':=by
 have hl:i<env.length:=(aay.mp hi).1;have ow:zC env σ a:=⟨i,_,hi,ha⟩
 have same: ∀c,zC (env.set i (.own d')) σ c->zC env σ c:=fun c ⟨j,e,h1,h2⟩=>by
   by_cases z:i=j
   · subst z;exact ⟨i,d,hi,h2⟩
   · exact ⟨j,e,by rw [jq z] at h1;exact h1,h2⟩
 obtain ⟨a',ha',h0a,ta⟩:=k.own i _ hi;rw [ha] at ha';cases ha';obtain ⟨o0,ho0,mo0⟩:=ta.there
 have st:Stay (Sf G env σ) H H':=fun c o e m=>hs c o (by
   rintro rfl;rw [ho0] at e;cases e
   exact (m mo0).1 ow) e
 have w: ∀c,Sf G env σ c->Sf G (env.set i (.own d')) σ c:=fun c n=>⟨fun o=>n.1 (same c o),n.2⟩
 refine ⟨⟨by simp [k.len],fun c o e=>?_,k.g0,fun j e h=>?_,fun j e h=>?_,fun j j' d1 d2 b q1 q2 q3 q4=>?_⟩,⟨fun c o e n=>?_,fun c o=> .inl (same c o),fun c e=>?_⟩⟩
 · exact hs c o (by rintro rfl;rw [h0a] at e;cases e) (k.base c o e)
 · by_cases z:i=j
   · subst z;obtain ⟨q,_⟩:=jA h;cases q
   · rw [jq z] at h;obtain ⟨v,h1,h2⟩:=k.shr j e h;exact ⟨v,h1,h2.stay st w⟩
 · by_cases z:i=j
   · subst z;obtain ⟨q,_⟩:=jA h;cases q;exact ⟨a,ha,h0a,t.stay (fun _ _ e _=>e) w fun _ e=>e⟩
   · rw [jq z] at h;obtain ⟨b,h1,h0,h2⟩:=k.own j e h
     have hb:b≠a:=by
       rintro rfl;exact z (k.dis i j _ _ b hi h ha h1)
     exact ⟨b,h1,h0,h2.stay st w fun o e=>hs b o hb e⟩
 · have real: ∀(j:Nat) (d1:D),(env.set i (.own d'))[j]?=some (.own d1)-> ∃d0:D,env[j]?=some (.own d0):=fun j d1 q=>by
     by_cases z:i=j
     · subst z;exact ⟨_,hi⟩
     · exact ⟨d1,by rw [jq z] at q;exact q⟩
   obtain ⟨e1,z1⟩:=real j d1 q1;obtain ⟨e2,z2⟩:=real j' d2 q2;exact k.dis j j' e1 e2 b z1 z2 q3 q4
 · exact hs c o (by rintro rfl;exact n ow) e
 · cases z:H c with
   |none=>rfl
   |some o=>
     by_cases hc:c=a
     · subst hc;obtain ⟨o1,h1,_⟩:=t.there;rw [h1] at e;cases e
     · rw [hs c o hc z] at e;cases e
end
section
variable {X:Cx} {i:Nat} {e c tg:Expr} {st:Stmt} {rest body orelse:List Stmt} {pos:Pos} {l:Lv} {f:Sl->Res D} {g g1 g2:Sl->Res OutI}
def seqI (g1 g2:Sl->Res OutI):Sl->Res OutI:=fun env=>g1 env>>=fun o=>match o with
 | .nx env'=>g2 env'
 | .rt b e=> .ok (.rt b e)
theorem Zy (h1:DSI X i st g1) (h2:DSsI X i rest g2):DSsI X i (st::rest) (seqI g1 g2):=by
 with_unfolding_all exact (PSs.imp (WE h1 h2) fun E σ H ⟨G,H0,env,o,a,k,ha,ef,q⟩=>by
  obtain ⟨o1,e1,e2⟩:=jc ef;refine ⟨G,H0,env,o1,a,k,ha,e1,?_⟩
  cases o1 with
  |nx env1=>exact fun σ' H' k' a' f'=>⟨G,H0,env1,o,a,k',a',e2,J3 f' q⟩
  |rt b env1=>cases e2;exact q)
theorem JD (h1:DSI X i st g1):DSsI X i [st] g1:=by
 with_unfolding_all exact (PSs.imp (YK h1) fun E σ H q=>q)
def nxI:Sl->Res OutI:=fun env=> .ok (.nx env)
theorem Xb:DSsI X i [] nxI:=by
 with_unfolding_all exact (PSs.imp YL fun E σ H ⟨G,H0,env,o,a,k,ha,ef,q⟩=>by
  cases ef
  exact q σ H k ha (Frm.refl (Same.refl H)))
def ifI (t:Sl->Res Bool) (g1 g2:Sl->Res OutI):Sl->Res OutI:=fun env=>t env>>=fun b=>if b=true then g1 env else g2 env
theorem jci {t:Sl->Res Bool} (hc:DT X c t) (h1:DSsI X i body g1) (h2:DSsI X i orelse g2):DSI X i (.If c body orelse pos) (ifI t g1 g2):=by
 with_unfolding_all exact (PS.imp (kU hc h1 h2) fun E σ H ⟨G,H0,env,o,a,k,ha,ef,q⟩=>by
  obtain ⟨b,e1,e2⟩:=jc ef;refine ⟨G,H0,env,b,k,e1,fun H' s=>?_⟩
  cases b with
  |true=>
   rw [if_pos rfl] at e2 ⊢;exact ⟨G,H0,env,o,a,k.grow s,ha,e2,J3 (Frm.refl s) q⟩
  |false=>
   rw [if_neg aaz] at e2 ⊢
   exact ⟨G,H0,env,o,a,k.grow s,ha,e2,J3 (Frm.refl s) q⟩)
def retI (f:Sl->Res D):Sl->Res OutI:=fun env=>f env>>=fun d=>match d with
 | .bl b=> .ok (.rt b env)
 |_=> .stuck
theorem Kn (h:DE X l e f):DSI X i (.Return (some e) pos) (retI f):=by
 with_unfolding_all exact (PS.imp (Z5 h) fun E σ H ⟨G,H0,env,o,a,k,ha,ef,q⟩=>by
  obtain ⟨d,e1,e2⟩:=jc ef
  cases d with
  |bl b=>
   cases e2;refine ⟨G,H0,env,.bl b,k,e1,fun v H' s r _=>?_⟩;cases (r.weak (A':=Any) Lv.weak_b).blE;exact q σ H' (k.grow s) ha (Frm.refl s)
  |_=>cases e2)
def tGI (K:aaa) (i:Nat) (t:D->Sl->Res Sl):TG:=fun v σ H Q=> ∃G H0 env d env',EnvOk K G H0 env σ H/\Rep K (Sf G env σ) H v d/\t d env= .ok env'/\ ∀σ',EnvOk K G H0 env' σ' H->Frm env σ H env' σ' H->σ'[i]?=σ[i]?->Q σ' H
@[irreducible] def DGI (X:Cx) (i:Nat) (tg:Expr) (t:D->Sl->Res Sl):Prop:=PG X tg (tGI X.K i t)
theorem VI (j:Nat) {x:Str} (hij:j≠i) (hN:X.N.Nodup) (hi:X.N[j]?=some x:=by rfl) (hx:Loc X.env.scope x:=by first|exact abw rfl|exact aa4 rfl)
   (hf:X.fn x=true\/X.env.scope.names.lookup x=some .local:=by first|exact .inl rfl|exact .inr rfl|assumption):DGI X i (.Name x pos) (gN j):=by
 with_unfolding_all exact (
  PG.imp (vc hN hi hx hf) fun v σ H Q ⟨G,H0,env,d,env',k,r,e,q⟩=>by
   cases e
   exact q _ (k.setS r) (.set (Same.refl H) fun _ _ z _=>by cases z) (jq hij))
theorem jdI {a b:Expr} {k:Nat} {t u:D->Sl->Res Sl} (hc:X.calm=true) (h1:DGI X i a t) (h2:DGI X i b u)
   (hs:(abe [a,b] X.env).map (·.2)=ad4 a X.env::(abe [b] X.env).map (·.2):=by rfl) (hs2:(abe [b] X.env).map (·.2)=ad4 b X.env::(abe [] X.env).map (·.2):=by rfl)
   (hn:(abe [a,b] X.env).length=2:=by rfl) (hst:(abe [a,b] X.env).findIdx? (·.1)=none:=by rfl):DGI X i (.Tuple [a,b] k pos) (M.g2 t u):=by
 with_unfolding_all exact (
  PG.imp (jb3 (n:=2) hc (QA h1 (QA h2 k9 hs2) hs) hn hst) fun v σ H Q ⟨G,H0,env,d,env',k,r,e,q⟩=>by
   unfold M.g2 at e
   split at e
   · obtain ⟨env1,e1,e2⟩:=jc e;obtain ⟨a,xs,rfl,ha,rs⟩:=r.tupE;obtain ⟨v1,v2,rfl,r1,r2⟩:=rs.two;refine ⟨a,_,rfl,.of ha,rfl,v1,[v2],rfl,G,H0,env,_,env1,k,r1,e1,fun σ1 k1 f1 z1=>⟨v2,[],rfl,G,H0,env1,_,env',k1,f1.rep k r2,e2,fun σ2 k2 f2 z2=>⟨rfl,q σ2 k2 (f1.trans f2) (z2.trans z1)⟩⟩⟩
   · cases e)
def W5 (t:D->Sl->Res Sl) (g:Sl->Res OutI):List D->Sl->Res OutI
 | [],env=> .ok (.nx env)
 |d::ds,env=>t d env>>=fun env1=>g env1>>=fun o=>match o with
  | .nx env'=>W5 t g ds env'
  | .rt b e=> .ok (.rt b e)
def forI (f:Sl->Res (List D)) (t:D->Sl->Res Sl) (g:Sl->Res OutI):Sl->Res OutI:=fun env=>f env>>=fun ds=>W5 t g ds env
theorem jdA {fi:Sl->Res (List D)} {t:D->Sl->Res Sl} (hp:PassesOwn (model X.prog X.w) X.A X.env X.xe) (hc:X.calm=true) (hi:DI X tg e fi) (hg:DGI X i tg t) (hb:DSsI X i body g)
   (hs: ∀x,abL e X.env x=pure x:=by intro _;rfl):DSI X i (.For tg e body [] pos) (forI fi t g):=by
 with_unfolding_all exact (
  PS.imp (jb1 hp hc hi hg hb hs) fun E σ H ⟨G,H0,env,o,a,k,ha,ef,q⟩=>by
   obtain ⟨ds,e1,e2⟩:=jc ef;refine ⟨G,H0,env,ds,k,e1,fun J H1 P sm wk p0 pst=>?_⟩;have k1:=k.grow sm;have q1:jbR X.K G H0 i a env σ H1 E o:=J3 (Frm.refl sm) q;refine ⟨fun j m σ' H'=>m=ds.length-j/\j<=ds.length/\ ∃env',EnvOk X.K G H0 env' σ' H'/\At σ' i a/\Frm env σ H1 env' σ' H'/\W5 t g (ds.drop j) env'= .ok o,⟨ds.length,by simp,abp _,env,k1,ha,Frm.refl (Same.refl H1),by simpa using e2⟩,?_⟩;rintro j m σ' H' ⟨rfl,hj,env',k',a',f',e'⟩;obtain ⟨w1,w2,w3⟩:=wk j H' (pst env' σ' H' f')
   by_cases hd:j<ds.length
   · refine .inr ⟨w1 hd,?_⟩;rw [acy hd] at e';obtain ⟨env1,e5,e'⟩:=jc e';obtain ⟨o1,e6,e4⟩:=jc e';refine ⟨fun σ2 H2=>ds.length-(j+1)=ds.length-(j+1)/\j+1<=ds.length/\ ∃env2,EnvOk X.K G H0 env2 σ2 H2/\At σ2 i a/\Frm env σ H1 env2 σ2 H2/\W5 t g (ds.drop (j+1)) env2= .ok o,fun σ2 H2 z=>⟨ds.length-(j+1),by omega,z⟩,fun x H2 y=>?_⟩
     obtain ⟨sm2,rd⟩:Same H' H2/\Rep X.K (Sf G env' σ') H2 x ds[j]:=by
      rcases w2 _ (aag hd) x H2 y with ⟨rfl,rd⟩| ⟨p,vs,es,hp,rfl,rfl,ed,rds⟩
      · exact ⟨Same.refl _,f'.rep k1 rd⟩
      · refine ⟨Same.upd hp,?_⟩;rw [ed];exact .tup jB ((f'.reps k1 rds).grow (Same.upd hp))
     refine ⟨G,H0,env',ds[j],env1,k'.grow sm2,rd,e5,fun σ1 kk1 ff1 z1=>⟨G,H0,env1,o1,a,kk1,z1.trans a',e6,?_⟩⟩;have fr1:=(f'.trans (Frm.refl sm2)).trans ff1
     cases o1 with
     |nx env2=>exact fun σ2 H3 kk2 aa2 ff2=>⟨rfl,hd,env2,kk2,aa2,fr1.trans ff2,e4⟩
     |rt b env2=>cases e4;exact fun σ2 H3 kk2 aa2 ff2=>q1 σ2 H3 kk2 aa2 (fr1.trans ff2)
   · refine .inl ⟨w3 (by omega),?_⟩;rw [ac4 (by omega)] at e';cases e'
     exact q1 σ' H' k' a' f')
end
end M
namespace M
open PySem PySem.Spec L2
open PyProof.Rows hiding St
def jap (i:Nat) (fk fv fw:Sl->Res D):Sl->Res OutI:=fun env=>ownK i env>>=fun q=>fk env>>=fun kd=>fv env>>=fun d=>match keyD kd with
 |some k=>must (q.1.length<aae) (match valD q.1 q.2 k with
  |some d0=>fw env>>=fun w=>eqR d0 w>>=fun r=>match r with
   | .bl b=> .ok (.rt b env)
   |_=> .stuck
  |none=>fw (env.set i (.own (.dic (wX q.1 k) (wY q.1 q.2 k d))))>>=fun w=>eqR d w>>=fun r=>match r with
   | .bl b=> .ok (.rt b (env.set i (.own (.dic (wX q.1 k) (wY q.1 q.2 k d)))))
   |_=> .stuck)
 |none=> .stuck
section
variable {X:Cx} {i:Nat} {x:Str} {e1 e2 e3:Expr} {p apos cpos pos qpos:Pos} {l1 l3:Lv} {fk fv fw:Sl->Res D}
theorem Vq {kvs:List (Key×V)} {ds:List D} {K:aaa} {A:Addr->Prop} {H:Hp} (k:Key) (r:Reps K A H (kvs.map (·.2)) ds):(∀v,valV kvs k=some v-> ∃d,valD (kvs.map (·.1)) ds k=some d/\Rep K A H v d)/\(valV kvs k=none->valD (kvs.map (·.1)) ds k=none):=by
 obtain ⟨h1,h2⟩:=WD k r
 cases e:valD (kvs.map (·.1)) ds k with
 |none=>
  have:=h2 e;exact ⟨fun v hv=>(by rw [this] at hv;cases hv),fun _=>rfl⟩
 |some d=>
  obtain ⟨v,hv,rv⟩:=h1 d e;exact ⟨fun v' hv'=>(by rw [hv] at hv';cases hv';exact ⟨d,rfl,rv⟩),fun hn=>(by rw [hv] at hn;cases hn)⟩
theorem uC (hu:X.A.units+200<cLine) (i:Nat) (hk:DE X l1 e1 fk) (hv:DE X .s e2 fv) (hw:DE X l3 e3 fw) (hN:X.N[i]?=some x:=by rfl) (hvs:Vis X.env.scope x:=by first|exact abw rfl|exact aa4 (abw rfl)|exact aa4 (aa4 rfl))
   (hd:(x==("__debug__" :Str))=false:=by decide) (hcd:(x==("__classdict__" :Str))=false:=by decide)
   (hbase:abf (.Name x p) "setdefault" X.env (eval (.Name x p) X.env)=eval (.Name x p) X.env:=by rfl)
   (hfew:((abd cpos (aal [e1,e2] X.env)).all (fun x=>!x.1)&&(acs cpos (abz [] X.env)).all (fun x=>x.1.isSome)
    &&decide ([e1,e2].length+([]:List acn).length+(if ([]:List acn).isEmpty then 0 else 1)<30))=true:=by exact x0 rfl rfl)
   (hline:(apos.endLine==cpos.line)=true:=by rfl) (hs:aal [e1,e2] X.env=(false,eval e1 X.env)::aal [e2] X.env:=by exact jl rfl) (hplain:(abd cpos (aal [e2] X.env)).any (·.1)=false:=by exact jK rfl)
   (hs2:aal [e2] X.env=(false,eval e2 X.env)::aal [] X.env:=by exact jl rfl) (hm:ab7 .Eq e3=false:=by first|exact K9 _| (with_unfolding_all rfl)):
   DSI X i (.Return (some (.Compare (.Call (.Attribute (.Name x p) "setdefault" apos) [e1,e2] [] cpos) [.Eq] [e3] qpos)) pos) (jap i fk fv fw):=by
 with_unfolding_all exact (
  PS.imp (Z5 (vf (xH hu) (vg acW acg adn vG (wu (i:=i) hN hvs hd hcd) (j8 hk (j8 hv wv hs2) hs) hbase hfew hline hs hplain) hw hm)) fun E σ H ⟨G,H0,env,o,aa,k,haa,ef,q⟩=>by
   obtain ⟨ks,c1,ef⟩:=jc ef;obtain ⟨kd,c2,ef⟩:=jc ef;obtain ⟨d,c3,c4⟩:=jc ef;have hi:=Jn c1;obtain ⟨a,kvs,ha,hx,hkk,rs⟩:=WH k hi
   have haeq:a=aa:=by
    have:=ha.symm.trans haa;cases this;rfl
   subst haeq
   cases hkey:keyD kd with
   |none=>rw [hkey] at c4;cases c4
   |some kk=>
    rw [hkey] at c4;obtain ⟨hz,c5⟩:=jp c4;refine ⟨.ref a,ha,.inr (.inr (.inl ⟨rfl,.inl ⟨kvs,hx⟩⟩)),G,H0,env,kd,k,c2,fun y H1 s1 r1 _=>⟨G,H0,env,d,k.grow s1,c3,fun v H2 s2 r2 _=>?_⟩⟩;have hx2:=s2 _ _ (s1 _ _ hx);have hy:=Zm (r1.weak (A':=Any) Lv.weak_b) hkey;subst hy;have hl:kvs.length<aae:=by rw [←hkk,aan] at hz;exact hz
    obtain ⟨g1,g2⟩:=Vq (K:=X.K) kk ((rs.grow s1).grow s2);rw [hkk] at g1 g2;refine ⟨a,kvs,kk,v,rfl,rfl,hx2,hl,fun w hw=>?_,fun hn=>?_⟩
    · obtain ⟨d0,hd0,rd0⟩:=g1 w hw;rw [hd0] at c5;obtain ⟨wd,c6,c5⟩:=jc c5;obtain ⟨rr,c7,c5⟩:=jc c5;obtain ⟨hc,c8⟩:=jp c7;cases c8;cases c5;refine ⟨G,H0,env,wd,(k.grow s1).grow s2,c6,fun y H3 s3 r3 _=>⟨d0,wd,(rd0.grow s3).weak fun _ _=>trivial,r3.weak Lv.weak_b,hc,?_⟩⟩;exact q σ H3 (((k.grow s1).grow s2).grow s3) ha (Frm.refl (s1.trans (s2.trans s3)))
    · rw [g2 hn] at c5;obtain ⟨wd,c6,c5⟩:=jc c5;obtain ⟨rr,c7,c5⟩:=jc c5;obtain ⟨hc,c8⟩:=jp c7;cases c8;cases c5;have W:=((k.grow s1).grow s2).putD (kk:=kk) hi ha hx2 hkk ((rs.grow s1).grow s2) r2;refine ⟨G,H0,_,wd,W.1,c6,fun y H3 s3 r3 _=>⟨d,wd,((W.2.rep ((k.grow s1).grow s2) r2).grow s3).weak fun _ _=>trivial,r3.weak Lv.weak_b,hc,?_⟩⟩
      exact q σ H3 (W.1.grow s3) ha (((W.2.grow s2).grow s1).trans (Frm.refl s3)))
end
abbrev FI:=List D->List Key->List D->Res (Bool×List Key×List D)
def spI (K:aaa) (n:Nat) (F:FI):Sp:=fun vs H Q _=> ∃(B:Addr->Prop) (ds:List D) (us:List V) (a:Addr) (ks:List Key) (es:List D) (b:Bool) (ks':List Key) (es':List D),vs=us++[V.ref a]/\us.length=n/\Reps K (fun c=>B c/\c≠a) H us ds/\Top K (fun c=>B c/\c≠a) H a (.dic ks es)/\F ds ks es= .ok (b,ks',es')/\
 ∀H',(∀c o,c≠a->H c=some o->H' c=some o)->Top K (fun c=>(H c=none\/B c)/\c≠a) H' a (.dic ks' es')->Q (.bl b) H'
structure AvI (P:aaD) (w:World) (K:aaa) (mg:Str->Option Value) (base:Heap) (k:Nat) (x:Str) (ps:List Str) (n:Nat) (F:FI):Prop where
 ex: ∃f fd,FnOk P w K mg base CX0 k f fd ps (spI K n F)/\mg x=some (.ref f)/\aaR K (.ref f)=true/\Binds K fd ps []
theorem AvI.mono {P:aaD} {w:World} {K:aaa} {mg:Str->Option Value} {base:Heap} {j k n:Nat} {x:Str} {ps:List Str} {F:FI} (h:AvI P w K mg base j x ps n F) (hj:j<=k):AvI P w K mg base k x ps n F:=
 let ⟨f,fd,a,b⟩:=h.ex
 ⟨f,fd,a.mono hj,b⟩
def Qw (F:FI) (i:Nat) (f1 f2:Sl->Res D):Sl->Res (Bool×Sl):=fun env=>f1 env>>=fun d1=>f2 env>>=fun d2=>ownK i env>>=fun q=>F [d1,d2] q.1 q.2>>=fun r=> .ok (r.1,env.set i (.own (.dic r.2.1 r.2.2)))
def tCI (K:aaa) (i:Nat) (c:Sl->Res (Bool×Sl)):TE:=fun σ H Q=> ∃G H0 env b env',EnvOk K G H0 env σ H/\c env= .ok (b,env')/\ ∀H',EnvOk K G H0 env' σ H'->Frm env σ H env' σ H'->Q (.bl b) H'
@[irreducible] def DCI (X:Cx) (i:Nat) (e:Expr) (c:Sl->Res (Bool×Sl)):Prop:=PE X e (tCI X.K i c)
section
variable {X:Cx} {k n i:Nat} {x y:Str} {ps:List Str} {F:FI} {e1 e2:Expr} {p py pos:Pos} {f1 f2:Sl->Res D}
theorem AvI.call (i:Nat) (A:AvI X.prog X.w X.K X.mg X.base k x ps 2 F) (hr:Room k X.A) (h1:DE X .s e1 f1) (h2:DE X .s e2 f2) (hN:X.N[i]?=some y:=by rfl) (hvs:Vis X.env.scope y:=by first|exact abw rfl|exact aa4 (abw rfl)|exact aa4 (aa4 rfl))
   (hd:(y==("__debug__" :Str))=false:=by decide) (hcd:(y==("__classdict__" :Str))=false:=by decide) (hg:Gl X x:=by rfl) (hdb:(x==("__debug__" :Str))=false:=by decide)
   (he:aal [e1,e2,.Name y py] X.env=(false,eval e1 X.env)::aal [e2,.Name y py] X.env:=by exact jl rfl) (he2:aal [e2,.Name y py] X.env=(false,eval e2 X.env)::aal [.Name y py] X.env:=by exact jl rfl)
   (he3:aal [.Name y py] X.env=(false,eval (.Name y py) X.env)::aal [] X.env:=by exact jl rfl)
   (hpl:(abd pos (aal [e2,.Name y py] X.env)).any (·.1)=false:=by exact jK rfl):DCI X i (.Call (.Name x p) [e1,e2,.Name y py] [] pos) (Qw F i f1 f2):=by
 obtain ⟨f,fd,g1,g2,g3,g4⟩:=A.ex
 with_unfolding_all exact (
  PE.imp (WF g1 hr hg g2 g3 g4 .nil (E:=fun _ _ _=>False) YQ (j8 h1 (j8 h2 (j8 (wu (i:=i) hN hvs hd hcd) wv he3) he2) he) hdb he hpl) fun σ H Q ⟨G,H0,env,b,env',k,ef,q⟩=>by
   obtain ⟨d1,c1,ef⟩:=jc ef;obtain ⟨d2,c2,ef⟩:=jc ef;obtain ⟨ks,c3,ef⟩:=jc ef;obtain ⟨r,c4,ef⟩:=jc ef;cases ef;have hi:=Jn c3;refine ⟨G,H0,env,d1,k,c1,fun v1 H1 s1 r1 _=>⟨G,H0,env,d2,k.grow s1,c2,fun v2 H2 s2 r2 _=>?_⟩⟩;have k2:=(k.grow s1).grow s2;obtain ⟨a,ha,h0,ta⟩:=k2.own i _ hi;have ow:zC env σ a:=⟨i,_,hi,ha⟩
   have w: ∀c,Sf G env σ c->Sf G env σ c/\c≠a:=fun c z=>⟨z,by rintro rfl;exact z.1 ow⟩
   refine ⟨.ref a,ha,?_⟩;show spI X.K 2 F ([v1,v2,.ref a]++[]) H2 Q (fun _ _ _=>False);rw [abj];refine ⟨Sf G env σ,[d1,d2],[v1,v2],a,_,_,r.1,r.2.1,r.2.2,rfl,rfl,.cons ((r1.grow s2).weak w) (.cons (r2.weak w) .nil),ta.stay (fun _ _ e _=>e) w fun _ e=>e,c4,fun H' hs' t'=>?_⟩;have W:=k2.anew hi ha hs' (t'.stay (fun _ _ e _=>e) (fun c z=>z.1.elim (fun z=>k2.new c z) fun z=>z) fun _ e=>e)
   exact q H' W.1 ((W.2.grow s2).grow s1))
theorem DCI.not {e:Expr} {c:Sl->Res (Bool×Sl)} (h:DCI X i e c) (he: ∀whole,isTrue e X.env whole=(do let v←whole;adN e.pos;adq [v] (truthy v)):=by intro _;rfl):PT X (.UnaryOp .Not e pos) (tNot (tB (tCI X.K i c))):=by
 with_unfolding_all exact jbZ (kR h he)
def ifNI (c:Sl->Res (Bool×Sl)) (g1 g2:Sl->Res OutI):Sl->Res OutI:=fun env=>c env>>=fun r=>if r.1=true then g2 r.2 else g1 r.2
theorem jdz {e:Expr} {c:Sl->Res (Bool×Sl)} {body orelse:List Stmt} {g1 g2:Sl->Res OutI} {npos:Pos} (h:DCI X i e c) (h1:DSsI X i body g1) (h2:DSsI X i orelse g2)
   (he: ∀whole,isTrue e X.env whole=(do let v←whole;adN e.pos;adq [v] (truthy v)):=by intro _;rfl):DSI X i (.If (.UnaryOp .Not e npos) body orelse pos) (ifNI c g1 g2):=by
 with_unfolding_all exact (
  PS.imp (kU (DCI.not (pos:=npos) h he) h1 h2) fun E σ H ⟨G,H0,env,o,a,k,ha,ef,q⟩=>by
   obtain ⟨r,c1,ef⟩:=jc ef;obtain ⟨b,env'⟩:=r;refine ⟨G,H0,env,b,env',k,c1,fun H' k' f'=>⟨b,rfl,?_⟩⟩
   cases b with
   |true=>
    rw [if_pos rfl] at ef;rw [if_neg (by simp)];exact ⟨G,H0,env',o,a,k',ha,ef,J3 f' q⟩
   |false=>
    rw [if_neg aaz] at ef;rw [if_pos (by simp)]
    exact ⟨G,H0,env',o,a,k',ha,ef,J3 f' q⟩)
def jbY (i:Nat) (c:Sl->Res (Bool×Sl)):Sl->Res Out:=fun env=>c env>>=fun r=>if r.1=true then (ownK i r.2>>=fun q=> .ok (.rt true (.dic q.1 q.2))) else .ok (.rt true .non)
theorem uD {e:Expr} {c:Sl->Res (Bool×Sl)} {npos rpos:Pos} (h:DCI X i e c) (hN:X.N[i]?=some y:=by rfl) (hvs:Vis X.env.scope y:=by first|exact abw rfl|exact aa4 (abw rfl)|exact aa4 (aa4 rfl))
   (hd:(y==("__debug__" :Str))=false:=by decide) (hcd:(y==("__classdict__" :Str))=false:=by decide)
   (he: ∀whole,isTrue e X.env whole=(do let v←whole;adN e.pos;adq [v] (truthy v)):=by intro _;rfl) {cn:Expr} (hn:PE X cn (tC .non)):DS X (.Return (some (.IfExp e (.Name y py) cn npos)) rpos) (jbY i c):=by
 with_unfolding_all exact (
  PS.imp (Z5 (K4 (kR (show PE X e (tCI X.K i c) from h) he) (wu (i:=i) hN hvs hd hcd) hn)) fun E σ H ⟨G,H0,env,o,k,ef,q⟩=>by
   obtain ⟨r,c1,ef⟩:=jc ef;obtain ⟨b,env'⟩:=r;refine ⟨G,H0,env,b,env',k,c1,fun H' k' f'=>⟨b,rfl,?_⟩⟩
   cases b with
   |true=>
    rw [if_pos rfl] at ef ⊢;obtain ⟨ks,c2,ef⟩:=jc ef;cases ef;have hi:=Jn c2;obtain ⟨a,h1,h0,h2⟩:=k'.own i _ hi;refine ⟨.ref a,h1,q _ H' k'.base (h2.rep (fun c z=>⟨z.2,Z8 k' hi h1 c z⟩) (k'.g0 a h0)) fun _ b e o' q'=>?_⟩;cases e;rw [h0] at q';cases q'
   |false=>
    rw [if_neg aaz] at ef ⊢;cases ef
    exact q _ H' k'.base .non fun _ b e=>by cases e)
end
end M
namespace M
open PySem PySem.Spec L2
open PyProof.Rows hiding St
def yH (n:Nat) (ds:List D) (ks:List Key) (es:List D):Sl:=ds.map .shr++(.own (.dic ks es)::acw (n-ds.length-1) .un)
theorem yr {n:Nat} {ds:List D} {ks:List Key} {es:List D} {j:Nat} {s:Slot} (h:(yH n ds ks es)[j]?=some s):(∃d,ds[j]?=some d/\s= .shr d)\/(j=ds.length/\s= .own (.dic ks es))\/s= .un:=by
 unfold yH at h
 by_cases q:j<ds.length
 · rw [aau (by simpa using q),aaH] at h
   cases e:ds[j]? with
   |none=>rw [e] at h;cases h
   |some x=>rw [e] at h;cases h;exact .inl ⟨x,rfl,rfl⟩
 · rw [aar (by simpa using q)] at h;simp only [aan] at h
   by_cases z:j=ds.length
   · subst z;simp at h;exact .inr (.inl ⟨rfl,h.symm⟩)
   · obtain ⟨m,hm⟩: ∃m,j-ds.length=m+1:=⟨j-ds.length-1,by omega⟩
     rw [hm,aaQ,aaW] at h
     split at h
     · cases h;exact .inr (.inr rfl)
     · cases h
theorem UT {K:aaa} {B:Addr->Prop} {N:List Str} {us:List V} {ds:List D} {a:Addr} {ks:List Key} {es:List D} {H:Hp} (r:Reps K (fun c=>B c/\c≠a) H us ds) (t:Top K (fun c=>B c/\c≠a) H a (.dic ks es)) (hN:ds.length+1<=N.length):
   EnvOk K (fun c=>H c=none\/c=a\/B c) (fun c=>if c=a then none else H c) (yH N.length ds ks es) (start N (us++[V.ref a])) H/\At (start N (us++[V.ref a])) ds.length a:=by
 have hl:=r.length
 have hat:At (start N (us++[V.ref a])) ds.length a:=by
   show (L2.start N (us++[V.ref a]))[ds.length]?=_;unfold L2.start;rw [aau (by simp;omega)];simp [←hl]
 have hget: ∀(j:Nat) (v:V),us[j]?=some v->(start N (us++[V.ref a]))[j]?=some (some v):=fun j v h=>by
   have hj:=(aay.mp h).1;unfold L2.start;rw [aau (by simp;omega),aaH,aau hj,h];rfl
 have own1: ∀c,zC (yH N.length ds ks es) (start N (us++[V.ref a])) c->c=a:=fun c ⟨j,d,h1,h2⟩=>by
   rcases yr h1 with ⟨_,_,z⟩| ⟨rfl,_⟩|z
   · cases z
   · rw [hat] at h2;cases h2;rfl
   · cases z
 have w: ∀c,B c/\c≠a->Sf (fun c=>H c=none\/c=a\/B c) (yH N.length ds ks es) (start N (us++[V.ref a])) c:=fun c z=>⟨fun o=>z.2 (own1 c o),.inr (.inr z.1)⟩
 refine ⟨⟨?_,fun c o e=>?_,fun c e=>?_,fun j d h=>?_,fun j d h=>?_,fun j j' d e b h1 h2 h3 h4=>?_⟩,hat⟩
 · simp [L2.start,yH,hl];omega
 · split at e
   · cases e
   · exact e
 · split at e
   · rename_i z;exact .inr (.inl z)
   · exact .inl e
 · rcases yr h with ⟨d',e,z⟩| ⟨_,z⟩|z
   · cases z;obtain ⟨v,h1,h2⟩:=r.get e;exact ⟨v,hget j v h1,h2.weak w⟩
   · cases z
   · cases z
 · rcases yr h with ⟨d',e,z⟩| ⟨rfl,z⟩|z
   · cases z
   · cases z;exact ⟨a,hat,if_pos rfl,t.stay (fun _ _ e _=>e) w fun _ e=>e⟩
   · cases z
 · have real: ∀(j:Nat) (d:D),(yH N.length ds ks es)[j]?=some (.own d)->j=ds.length:=fun j d h=>by
     rcases yr h with ⟨_,_,z⟩| ⟨z,_⟩|z
     · cases z
     · exact z
     · cases z
   rw [real j d h1,real j' e h2]
def runI (N n:Nat) (g:Sl->Res OutI):FI:=fun ds ks es=>match g (yH N ds ks es) with
 | .ok (.rt b env)=>must (ds.length=n) (match env[n]? with
  |some (.own (.dic ks' es'))=> .ok (b,ks',es')
  |_=> .stuck)
 |_=> .stuck
theorem jao {N n:Nat} {g:Sl->Res OutI} {ds:List D} {ks:List Key} {es:List D} {b:Bool} {ks':List Key} {es':List D} (h:runI N n g ds ks es= .ok (b,ks',es')): ∃env,g (yH N ds ks es)= .ok (.rt b env)/\ds.length=n/\env[n]?=some (.own (.dic ks' es')):=by
 unfold runI at h
 split at h
 · rename_i b' env e;obtain ⟨h1,h2⟩:=jp h
   split at h2
   · rename_i q1 q2 e2;cases h2;exact ⟨env,e,h1,e2⟩
   · cases h2
 · cases h
section
variable {P:aaD} {w:World} {K:aaa} {mg:Str->Option Value} {base:Heap}
theorem jf5 {x:Str} {st:Stmt} {f:Addr} {fd:abC} {N ps:List Str} {k n:Nat} {g:Sl->Res OutI} (Fu:Fun K x x st f fd) (hmg:mg x=some (.ref f)) (S:FnScope N ps (jf st)) (hbi:Binds K fd ps []) (hn:ps.length=n+1) (hN:n+1<=N.length)
   (hb: ∀(cdv:Value) (A:aaX) (outer:List Env) (s:aaj) (H:Hp) (E:XK),Room k (A.deeper (acR x (jf st) s.heap.objs.size f cdv))->DSsI (cxOf CX0 P w K mg base N x (jf st) f cdv A outer s H E).nox n (ql st) g):
   AvI P w K mg base (k+1) x ps n (runI N.length n g):=by
 refine ⟨f,fd,?_,hmg,Fu.kp,hbi⟩
 with_unfolding_all exact (by
 refine Fu.ok S (fun vs H Q E ⟨B,ds,us,a,ks,es,b,ks',es',ev,hl,_⟩=>by rw [ev,aao,hl,hn];rfl) (fun cdv A outer s H vs Q E hr h=>?_);obtain ⟨B,ds,us,a,ks,es,b,ks',es',ev,hl,r,t,eF,q⟩:=h;refine ⟨_,hb cdv A outer s H E hr,?_⟩;obtain ⟨env,e1,e2,e3⟩:=jao eF;subst ev;obtain ⟨kk,hat⟩:=UT (N:=N) r t (by omega);rw [e2] at hat;refine ⟨_,_,_,_,a,kk,hat,e1,fun σ' H' k' a' f'=>?_⟩;obtain ⟨a2,h1,_,t2⟩:=k'.own n _ e3;rw [a'] at h1;cases h1;refine q H' (fun c o hc e=>k'.base c o (by rw [if_neg hc];exact e)) (t2.stay (fun _ _ e _=>e) (fun c z=>?_) fun _ e=>e)
 have hca:c≠a:=by
   rintro rfl;exact z.1 ⟨n,_,e3,a'⟩
 refine ⟨?_,hca⟩;rcases z.2 with z|z|z
 · exact .inl z
 · exact absurd z hca
 · exact .inr z)
theorem jbN {x:Str} {st:Stmt} {f:Addr} {fd:abC} {ps:List Str} {k n:Nat} (Fu:Fun K x x st f fd) (hmg:mg x=some (.ref f)) (hbi:Binds K fd ps []) (hn:ps.length=n+1):AvI P w K mg base k x ps n (fun _ _ _=> .stuck):=
 ⟨f,fd,⟨fun vs H Q E ⟨B,ds,us,a,ks,es,b,ks',es',ev,hl,_⟩=>by rw [ev,aao,hl,hn];rfl,fun A outer s H args us vs Q E _ _ _ _ ⟨B,ds,us',a,ks,es,b,ks',es',ev,hl,r,t,e,_⟩=>by cases e⟩,hmg,Fu.kp,hbi⟩
end
end M
namespace M
open PySem PySem.Spec L2
open PyProof.Rows hiding St
section
variable {prog:aaD} {w:World} {A:aaX} {E:Value->aaj->Prop} {s:aaj} {z TI TO i1 i2 l1 l2:Addr} {k1 k2:Nat} {xs ys:Array Value} {a b:Value}
structure ZipAt (h:Heap) (z TI TO i1 i2 l1 l2:Addr) (k1 k2:Nat) (f0:Value):Prop where
 hz:IsZip h z TI TO f0
 ti:aee h TI (.ref i1) (.ref i2)
 to: ∃a b,aee h TO a b
 h1:h.IsTupleIter i1 l1 k1
 h2:h.IsTupleIter i2 l2 k2
theorem U7 {x y:Value} {Q:Value->aaj->Prop} (D:ZipApart z TI TO i1 i2 l1 l2) (Z:ZipAt s.heap z TI TO i1 i2 l1 l2 k1 k2 .none) (hl1:s.heap.IsTuple l1 xs) (hl2:s.heap.IsTuple l2 ys) (hx:xs[k1]?=some x) (hy:ys[k2]?=some y)
  (hQ: ∀h',ZipAt h' z TI TO i1 i2 l1 l2 (k1+1) (k2+1) (adV s.heap.objs.size)->aee h' s.heap.objs.size x y->
   (∀c o,c≠z->c≠TO->c≠i1->c≠i2->s.heap.get? c=some o->h'.get? c=some o)->Q (.ref s.heap.objs.size) {s with heap:=h'}):
  wpAny (model prog w) A (adv.«zip.__next__» ⟨[.ref z],[]⟩) (fun fin s'=> ∃v,fin= .done (.ret v)/\Q v s') E s:=by
 obtain ⟨hz,hTI,⟨a,b,hTO⟩,h1,h2⟩:=Z;refine (show wpAny _ _ (field (.ref z) 2>>=_) _ _ _ from aab (abq hz rfl (x:= .bool false) rfl (show wpAny _ _ (field (.ref z) 3>>=_) _ _ _ from aab (abq hz rfl (x:= .ref TI) rfl (aab (ab0 hTI rfl (show wpAny _ _ (abk (.ref z)>>=_) _ _ _ from aab ?_)))))));unfold abk;refine aab (abq hz rfl (x:= .none) rfl (aak ?_));simp only [if_true];refine aab (ado (aab (abq hz rfl (x:= .ref TO) rfl (aab (abW hz (by simp) fun g1 z1 s1=>aab ?_)))));have z1':IsZip g1 z TI TO .ellipsis:=z1;simp only [List.zipIdx_cons,List.zipIdx_nil,List.forIn_cons,List.forIn_nil];refine aab (aab (wpAny_onRaise (show wpAny _ _ (aaY (.ref i1)>>=_) _ _ _ from aab (QD (h1.extBut s1.extBut D.i1z) (hl1.extBut s1.extBut D.l1z) hx fun g2 q1 s2=>aak ?_))));have to2:aee g2 TO a b:=s2.extBut _ _ D.TOi1 (s1.extBut _ _ D.TOz hTO);refine aab (ab0 to2 rfl (aab (adk to2 fun g3 to3 s3=>aab (wpAny_letGo (aak (aab (aab (wpAny_onRaise ?_))))))));have to3':aee g3 TO x b:=to3;refine (show wpAny _ _ (aaY (.ref i2)>>=_) _ _ _ from aab (QD (((h2.extBut s1.extBut D.i2z).extBut s2.extBut D.i12.symm).extBut s3.extBut D.TOi2.symm) (((hl2.extBut s1.extBut D.l2z).extBut s2.extBut D.l2i1).extBut s3.extBut D.l2TO) hy fun g4 q2 s4=>aak ?_));have to4:aee g4 TO x b:=s4.extBut _ _ D.TOi2 to3';refine aab (ab0 to4 rfl (aab (adk to4 fun g5 to5 s5=>aab (wpAny_letGo (aak (aak ?_))))));have to5':aee g5 TO x y:=to5;refine aab (ab0 to5' rfl (aab (wpAny_newTuple (show wpAny _ _ (acC (.ref z) (.ref g5.objs.size)>>=_) _ _ _ from aab ?_))));have hsz:g5.objs.size=s.heap.objs.size:=by rw [s5.1,s4.1,s3.1,s2.1,s1.1]
 have z5:IsZip g5 z TI TO .ellipsis:=s5.extBut _ _ D.TOz.symm (s4.extBut _ _ D.i2z.symm (s3.extBut _ _ D.TOz.symm (s2.extBut _ _ D.i1z.symm z1')));have k5: ∀c o,c≠z->c≠TO->c≠i1->c≠i2->s.heap.get? c=some o->g5.get? c=some o:=fun c o c1 c2 c3 c4 e=>s5.extBut _ _ c2 (s4.extBut _ _ c4 (s3.extBut _ _ c2 (s2.extBut _ _ c3 (s1.extBut _ _ c1 e))))
 have q1':g5.IsTupleIter i1 l1 (k1+1):=((q1.extBut s3.extBut D.TOi1.symm).extBut s4.extBut D.i12).extBut s5.extBut D.TOi1.symm;have q2':g5.IsTupleIter i2 l2 (k2+1):=q2.extBut s5.extBut D.TOi2.symm;have zlt:z<g5.objs.size:=aat z5;unfold acC;have z6:IsZip (g5.push {cls:= .type "tuple",data:= .seq #[x,y]}) z TI TO .ellipsis:=aac _ z5;refine aab (abW z6 (by simp) fun g7 z7 s7=>?_);have z7':IsZip g7 z TI TO (adV g5.objs.size):=z7;refine abW z7' (by simp) fun g8 z8 s8=>aak ⟨_,rfl,(show Q (.ref g5.objs.size) _ from ?_)⟩
 have z8':IsZip g8 z TI TO (adV g5.objs.size):=z8;have up: ∀c o,c≠z->g5.get? c=some o->g8.get? c=some o:=fun c o c1 e=>s8.extBut _ _ c1 (s7.extBut _ _ c1 (aac _ e))
 have t8:aee g8 g5.objs.size x y:=s8.extBut _ _ (Nat.ne_of_gt zlt) (s7.extBut _ _ (Nat.ne_of_gt zlt) (aam _ rfl));rw [hsz] at z8' t8 ⊢;exact hQ g8 ⟨z8',up _ _ D.TIz (k5 _ _ D.TIz D.TITO D.TIi1 D.TIi2 hTI),⟨_,_,up _ _ D.TOz to5'⟩,q1'.at fun o e=>up _ o D.i1z e,q2'.at fun o e=>up _ o D.i2z e⟩ t8 fun c o c1 c2 c3 c4 e=>up c o c1 (k5 c o c1 c2 c3 c4 e)
theorem jad {Q:PySem.Fin->aaj->Prop} (hh:A.handled=none) (D:ZipApart z TI TO i1 i2 l1 l2) (Z:ZipAt s.heap z TI TO i1 i2 l1 l2 k1 k2 .none) (hl1:s.heap.IsTuple l1 xs) (hl2:s.heap.IsTuple l2 ys) (hend:xs[k1]?=none\/ys[k2]?=none)
  (hE: ∀h' e,(∀c o,c≠z->c≠TO->c≠i1->c≠i2->s.heap.get? c=some o->h'.get? c=some o)->(∃o,h'.get? e=some o/\o.cls= .type "StopIteration")->E (.ref e) {s with heap:=h'}):
  wpAny (model prog w) A (adv.«zip.__next__» ⟨[.ref z],[]⟩) Q E s:=by
 obtain ⟨hz,hTI,⟨a,b,hTO⟩,h1,h2⟩:=Z;refine (show wpAny _ _ (field (.ref z) 2>>=_) _ _ _ from aab (abq hz rfl (x:= .bool false) rfl (show wpAny _ _ (field (.ref z) 3>>=_) _ _ _ from aab (abq hz rfl (x:= .ref TI) rfl (aab (ab0 hTI rfl (show wpAny _ _ (abk (.ref z)>>=_) _ _ _ from aab ?_)))))));unfold abk;refine aab (abq hz rfl (x:= .none) rfl (aak ?_));simp only [if_true];refine aab (ado (aab (abq hz rfl (x:= .ref TO) rfl (aab (abW hz (by simp) fun g1 z1 s1=>aab ?_)))));have z1':IsZip g1 z TI TO .ellipsis:=z1;simp only [List.zipIdx_cons,List.zipIdx_nil,List.forIn_cons,List.forIn_nil];refine aab (aab (wpAny_onRaise (show wpAny _ _ (aaY (.ref i1)>>=_) _ _ _ from ?_)))
 have ne: ∀ {h:Heap} {e:Addr} {oe:Obj},IsZip h z TI TO .ellipsis->h.get? e=some oe->oe.cls= .type "StopIteration" ->e≠z:=fun {h e oe} hz hoe hce x=>by
  subst x;rw [hz] at hoe;cases hoe;simp at hce
 cases hx:xs[k1]? with
 |none=>
  refine aab (W9 hh (h1.extBut s1.extBut D.i1z) (hl1.extBut s1.extBut D.l1z) hx fun g2 e s2 ⟨oe,hoe,hce⟩=>?_);have z2:IsZip g2 z TI TO .ellipsis:=s2 _ _ D.i1z.symm z1';exact abW z2 (by simp) fun g3 _ s3=>hE g3 e (fun c o c1 _ c3 _ x=>s3.extBut _ _ c1 (s2 _ _ c3 (s1.extBut _ _ c1 x))) ⟨oe,s3.extBut _ _ (ne z2 hoe hce) hoe,hce⟩
 |some x=>
  have hy:ys[k2]?=none:=hend.resolve_left (by rw [hx];simp);refine aab (QD (h1.extBut s1.extBut D.i1z) (hl1.extBut s1.extBut D.l1z) hx fun g2 q1 s2=>aak ?_);have to2:aee g2 TO a b:=s2.extBut _ _ D.TOi1 (s1.extBut _ _ D.TOz hTO);refine aab (ab0 to2 rfl (aab (adk to2 fun g3 to3 s3=>aab (wpAny_letGo (aak (aab (aab (wpAny_onRaise ?_))))))));refine (show wpAny _ _ (aaY (.ref i2)>>=_) _ _ _ from aab (W9 hh (((h2.extBut s1.extBut D.i2z).extBut s2.extBut D.i12.symm).extBut s3.extBut D.TOi2.symm) (((hl2.extBut s1.extBut D.l2z).extBut s2.extBut D.l2i1).extBut s3.extBut D.l2TO) hy fun g4 e s4 ⟨oe,hoe,hce⟩=>?_));have z4:IsZip g4 z TI TO .ellipsis:=s4 _ _ D.i2z.symm (s3.extBut _ _ D.TOz.symm (s2.extBut _ _ D.i1z.symm z1'));exact abW z4 (by simp) fun g5 _ s5=>hE g5 e (fun c o c1 c2 c3 c4 x=>s5.extBut _ _ c1 (s4 _ _ c4 (s3.extBut _ _ c2 (s2.extBut _ _ c3 (s1.extBut _ _ c1 x))))) ⟨oe,s5.extBut _ _ (ne z4 hoe hce) hoe,hce⟩
theorem UF {x y:Value} {Q:Option Value->aaj->Prop} (D:ZipApart z TI TO i1 i2 l1 l2) (Z:ZipAt s.heap z TI TO i1 i2 l1 l2 k1 k2 .none) (hl1:s.heap.IsTuple l1 xs) (hl2:s.heap.IsTuple l2 ys) (hx:xs[k1]?=some x) (hy:ys[k2]?=some y)
  (hQ: ∀h',ZipAt h' z TI TO i1 i2 l1 l2 (k1+1) (k2+1) (adV s.heap.objs.size)->aee h' s.heap.objs.size x y->
   (∀c o,c≠z->c≠TO->c≠i1->c≠i2->s.heap.get? c=some o->h'.get? c=some o)->Q (some (.ref s.heap.objs.size)) {s with heap:=h'}):wpAny (model prog w) A (pyNext (.ref z)) Q E s:=by
 have hT:s.TypeIs (.ref z) "zip" :=⟨_,Z.hz,rfl⟩
 unfold pyNext;exact aab (wpAny_attempt (aa6 (name:=acm "__next__") hT ady (aba ady hT F.entry_zip_next (U7 D Z hl1 hl2 hx hy fun h' a1 a2 a3=>aak (hQ h' a1 a2 a3)) (F.args_zip_next_1 _))))
theorem vC {Q:Option Value->aaj->Prop} (hh:A.handled=none) (D:ZipApart z TI TO i1 i2 l1 l2) (Z:ZipAt s.heap z TI TO i1 i2 l1 l2 k1 k2 .none) (hl1:s.heap.IsTuple l1 xs) (hl2:s.heap.IsTuple l2 ys) (hend:xs[k1]?=none\/ys[k2]?=none)
  (hQ: ∀h',(∀c o,c≠z->c≠TO->c≠i1->c≠i2->s.heap.get? c=some o->h'.get? c=some o)->Q none {s with heap:=h'}):wpAny (model prog w) A (pyNext (.ref z)) Q E s:=by
 have hT:s.TypeIs (.ref z) "zip" :=⟨_,Z.hz,rfl⟩
 unfold pyNext;exact aab (wpAny_attempt (aa6 (name:=acm "__next__") hT ady (aba ady hT F.entry_zip_next (jad hh D Z hl1 hl2 hend fun h' e hk ⟨o,ho,hc⟩=>aab (adf (T:= "StopIteration") (b:=true) ⟨o,ho,hc⟩ isSubtype_stop (aak (hQ _ hk)))) (F.args_zip_next_1 _))))
end
abbrev zT1 (h:Heap) (l1:Addr):Heap:=h.push {cls:= .type "tuple_iterator",data:= .fields #[.ref l1,.int 0 0]}
abbrev zT2 (h:Heap) (l1 l2:Addr):Heap:=(zT1 h l1).push {cls:= .type "tuple_iterator",data:= .fields #[.ref l2,.int 0 0]}
abbrev zT3 (h:Heap) (l1 l2:Addr):Heap:=(zT2 h l1 l2).push {cls:= .type "tuple",data:= .seq #[.ref h.objs.size,.ref (zT1 h l1).objs.size]}
abbrev zT4 (h:Heap) (l1 l2:Addr):Heap:=(zT3 h l1 l2).push {cls:= .type "tuple",data:= .seq #[.none,.none]}
abbrev zT5 (h:Heap) (l1 l2:Addr):Heap:=(zT4 h l1 l2).push {cls:= .type "zip",data:= .fields #[.none,.bool false,.bool false,.ref (zT2 h l1 l2).objs.size,.ref (zT3 h l1 l2).objs.size]}
theorem jac (l1 l2:Addr) (xs ys:Array Value):PySem.Meets (adv.«zip.__new__» ⟨[.type "zip",.ref l1,.ref l2],[]⟩) (fun _ R s=>s.heap.IsTuple l1 xs/\s.heap.IsTuple l2 ys/\R (.ok (.ret (.ref (zT4 s.heap l1 l2).objs.size))) {s with heap:=zT5 s.heap l1 l2}):=
 .of_wp fun prog w A R s h=>by
  obtain ⟨hp,g,d,tk,os⟩:=s;obtain ⟨hl1,hl2,h⟩:=h;have hsub:=sub_zip;have hT1:Heap.IsTuple (Shared.heap ⟨hp,g,d,tk,os⟩) l1 xs:=hl1;have hT2:Heap.IsTuple (Shared.heap ⟨hp.push {cls:= .type "tuple_iterator",data:= .fields #[.ref l1,.int 0 0]},g,d,tk,os⟩) l2 ys:=Heap.IsTuple.push hl2 _
  wp_walk using acf hT1,acf hT2
  exact ⟨_,rfl,h⟩
section
variable {prog:aaD} {w:World} {A:aaX} {E:Value->aaj->Prop} {s:aaj}
theorem uW {l1 l2:Addr} {xs ys:Array Value} {Q:Value->aaj->Prop} (hl1:s.heap.IsTuple l1 xs) (hl2:s.heap.IsTuple l2 ys)
  (h: ∀h',ZipAt h' (s.heap.objs.size+4) (s.heap.objs.size+2) (s.heap.objs.size+3) s.heap.objs.size (s.heap.objs.size+1) l1 l2 0 0 .none->(∀c o,s.heap.get? c=some o->h'.get? c=some o)->Q (.ref (s.heap.objs.size+4)) {s with heap:=h'}):
  wpAny (model prog w) A (call (.type "zip") [.ref l1,.ref l2]) Q E s:=by
 refine callType_new F.called_zip (by decide) (F.typeCall_zip_2 _ _) (F.newCall_zip_2 _ _) (fun obj=>F.args_object_init_3 obj _ _) F.entry_zip_new (jac l1 l2 xs ys) ⟨hl1,hl2,?_⟩;have z1:(zT1 s.heap l1).objs.size=s.heap.objs.size+1:=abY ..;have z2:(zT2 s.heap l1 l2).objs.size=s.heap.objs.size+2:=by rw [abY,z1]
 have z3:(zT3 s.heap l1 l2).objs.size=s.heap.objs.size+3:=by rw [abY,z2]
 have z4:(zT4 s.heap l1 l2).objs.size=s.heap.objs.size+4:=by rw [abY,z3]
 have up1: ∀c o,(zT3 s.heap l1 l2).get? c=some o->(zT5 s.heap l1 l2).get? c=some o:=fun c o e=>aac _ (aac _ e)
 have up2: ∀c o,(zT1 s.heap l1).get? c=some o->(zT3 s.heap l1 l2).get? c=some o:=fun c o e=>aac _ (aac _ e)
 have g5:(zT5 s.heap l1 l2).get? (zT4 s.heap l1 l2).objs.size=some _:=aam _ rfl;have g4:(zT5 s.heap l1 l2).get? (zT3 s.heap l1 l2).objs.size=some _:=aac _ (aam _ rfl);have g3:(zT5 s.heap l1 l2).get? (zT2 s.heap l1 l2).objs.size=some _:=up1 _ _ (aam _ rfl);have g2:(zT5 s.heap l1 l2).get? (zT1 s.heap l1).objs.size=some _:=up1 _ _ (aac _ (aam _ rfl));have g1:(zT5 s.heap l1 l2).get? s.heap.objs.size=some _:=up1 _ _ (up2 _ _ (aam _ rfl));show _/\_;rw [z2,z3,z4] at g5;rw [z1,z2] at g3;rw [z3] at g4;rw [z1] at g2;rw [z4];exact ⟨⟨_,g5,rfl⟩,h _ ⟨g5,g3,⟨_,_,g4⟩,⟨_,g1,rfl,rfl⟩,⟨_,g2,rfl,rfl⟩⟩ fun c o x=>up1 _ _ (up2 _ _ (aac _ x))⟩
end
def ItZ (K:aaa) (a1 a2:Addr) (xs ys:List V):It:=⟨fun i H=>(SqT K H a1 xs/\SqT K H a2 ys)/\i<xs.length/\i<ys.length,fun i H v H'=> ∃p x y,H p=none/\xs[i]?=some x/\ys[i]?=some y/\v= .ref p/\H'=upd H p (.tup [x,y]),fun i H=>(SqT K H a1 xs/\SqT K H a2 ys)/\(xs.length<=i\/ys.length<=i)⟩
section
variable {X:Cx} {pins:List (Addr×Obj)} {σ:L2.St} {H:Hp} {s:aaj}
theorem xr {t':Nat} {h':Heap} {fp:List Addr} (I:Inv X pins σ H s) (k: ∀b o,b∉fp->s.heap.get? b=some o->h'.get? b=some o) (f: ∀b∈fp,FpOk X pins H b):Inv X pins σ H {s with heap:=h',toks:=t'}:=by
 have n: ∀b u,H b=some u->b∉fp:=fun b u e z=>by have:=(f b z).1;rw [this] at e;cases e
 refine I.step (g':=s.gens) (d':=s.drawn) (ch:=fp) (fun b hb=>?_) (fun b o _ _ hc e _=>k b o hc e) (fun b o _ _ hc e _=>⟨o.slots,k b o hc e⟩) (fun _ _ _ _ n=>n)
   (fun b o hc e=>⟨o,k b o hc e⟩) (fun _ _ e=>e) (fun _ _ _ e=>e) (fun b ps e=>⟨#[],by rw [e];simp⟩) (fun m hm=>?_) (fun b u e=>?_) I.bare
 · obtain ⟨a0,a1,_,a3,a4,a5⟩:=f b hb;exact ⟨a3,a1,a4,a5⟩
 · obtain ⟨o,es,ep,ho,r⟩:=hm;exact ⟨o,es,ep,k _ o (fun z=>(f _ z).2.1 rfl) ho,r⟩
 · refine (I.hok b u e).stay (fun c v hc q=>k c v ?_ q) (fun _ q=>q) fun _ _ q=>q
   rcases hc with z|z
   · rw [z];exact n b u e
   · exact n c _ z
end
end M
namespace M
open PySem PySem.Spec L2
open PyProof.Rows hiding St
theorem U8 {P:aaD} {w:World} {K:aaa} {elts:List Expr} {n:Nat} {pos:Pos} {z TI TO i1 i2 a1 a2:Addr} (xs ys:List V) (D:ZipApart z TI TO i1 i2 a1 a2):
  Turn P w K (.Tuple elts n pos) (ItZ K a1 a2 xs ys) [z,TI,TO,i1,i2] z (fun i h=>ZipAt h z TI TO i1 i2 a1 a2 i i .none) where
 mem:=by simp
 obj:=fun i h st b hb=>by
  obtain ⟨hz,ti,⟨x,y,to⟩,⟨o1,e1,c1,d1⟩,o2,e2,c2,d2⟩:=st;simp only [aah,aaq,or_false] at hb;rcases hb with rfl|rfl|rfl|rfl|rfl
  · exact ⟨_,hz,fun v q=>by cases q⟩
  · exact ⟨_,ti,fun v q=>by cases q⟩
  · exact ⟨_,to,fun v q=>by cases q⟩
  · exact ⟨o1,e1,fun v q=>by rw [d1] at q;cases q⟩
  · exact ⟨o2,e2,fun v q=>by rw [d2] at q;cases q⟩
 keep:=fun i h h' st k=>by
  obtain ⟨hz,ti,⟨x,y,to⟩,q1,q2⟩:=st;exact ⟨k z (by simp) _ hz,k TI (by simp) _ ti,⟨x,y,k TO (by simp) _ to⟩,q1.at fun o e=>k i1 (by simp) o e,q2.at fun o e=>k i2 (by simp) o e⟩
 item:=by
  intro X hP hw hK hc i pins s σ H E I hf st hg;subst hP hw hK;obtain ⟨⟨hq1,hq2⟩,g1,g2⟩:=hg;obtain ⟨its1,rv1,p1,_⟩:=I.tuple hq1;obtain ⟨its2,rv2,p2,_⟩:=I.tuple hq2;have hx:xs[i]?=some xs[i]:=aag g1;have hy:ys[i]?=some ys[i]:=aag g2;obtain ⟨u,hu,ru⟩:=rv1.get hx;obtain ⟨v,hv,rv⟩:=rv2.get hy;refine UF D st (show s.heap.IsTuple a1 its1.toArray from p1) (show s.heap.IsTuple a2 its2.toArray from p2) (x:=u) (y:=v) (by simpa using hu) (by simpa using hv) fun h' Z' hT hk=>?_
  refine ⟨_,rfl,wpAny_letOwnedTupleGo_zip Z'.hz fun h'' hz'' hs''=>?_⟩;have lt: ∀ {c o},s.heap.get? c=some o->c<s.heap.objs.size:=fun e=>aat e
  have flt: ∀c∈[z,TI,TO,i1,i2],c<s.heap.objs.size:=fun c hc=>by
    obtain ⟨hz,ti,⟨_,_,to⟩,⟨_,e1,_⟩,_,e2,_⟩:=st;simp only [aah,aaq,or_false] at hc;rcases hc with rfl|rfl|rfl|rfl|rfl
    · exact lt hz
    · exact lt ti
    · exact lt to
    · exact lt e1
    · exact lt e2
  have hfr:H s.heap.objs.size=none:=I.hok.fresh (aai _)
  have I1:Inv X pins σ (upd H s.heap.objs.size (.tup [xs[i],ys[i]])) {s with heap:=s.heap.push {cls:= .type "tuple",data:= .seq #[u,v]}}:=
    I.laid (t':=s.toks) (fun b o e=>aac _ e) (aai _) ⟨aaC (show 2<=20 by decide) (by decide),[u,v],.cons ru (.cons rv .nil),⟨_,aam _ rfl,rfl,_,rfl⟩⟩
  have f1: ∀b∈[z,TI,TO,i1,i2],FpOk X pins (upd H s.heap.objs.size (.tup [xs[i],ys[i]])) b:=fun b hb=>⟨by rw [jT (aaG (flt b hb))];exact (hf b hb).1,(hf b hb).2⟩
  have I2:=xr (t':=s.toks) (h':=h'') I1 (fun b o hb eo=>by
    have hbz:b≠z:=fun e=>hb (by simp [e])
    refine (hs''.2 b hbz).trans ?_
    by_cases hbs:b=s.heap.objs.size
    · subst hbs;rw [aam _ rfl] at eo;rw [←eo];exact hT
    · have eo':s.heap.get? b=some o:=by
       rcases acv eo with ⟨q,_⟩|q
       · exact absurd q hbs
       · exact q
      exact hk b o hbz (fun e=>hb (by simp [e])) (fun e=>hb (by simp [e])) (fun e=>hb (by simp [e])) eo') f1
  obtain ⟨_,ti',⟨q1,q2,to'⟩,w1,w2⟩:=Z';exact ⟨.ref s.heap.objs.size,_,I2,rfl,⟨_,_,_,hfr,hx,hy,rfl,rfl⟩,⟨hz'',hs''.extBut _ _ D.TIz ti',⟨q1,q2,hs''.extBut _ _ D.TOz to'⟩,w1.extBut hs''.extBut D.i1z,w2.extBut hs''.extBut D.i2z⟩,fun b hb=>(f1 b hb).1⟩
 done:=by
  intro X hP hw hK hc i pins s σ H E I hf st hg;subst hP hw hK;obtain ⟨⟨hq1,hq2⟩,g⟩:=hg;obtain ⟨its1,rv1,p1,_⟩:=I.tuple hq1;obtain ⟨its2,rv2,p2,_⟩:=I.tuple hq2;have hl1:=rv1.length;have hl2:=rv2.length;refine vC (I.ok.hd hc) D st (show s.heap.IsTuple a1 its1.toArray from p1) (show s.heap.IsTuple a2 its2.toArray from p2) (g.imp (fun g=>by simp;omega) fun g=>by simp;omega) fun h' hk=>⟨rfl,xr (t':=s.toks) I (fun b o hb eo=>hk b o (fun e=>hb (by simp [e])) (fun e=>hb (by simp [e])) (fun e=>hb (by simp [e])) (fun e=>hb (by simp [e])) eo) hf⟩
 self:=fun _ _ _ _ _ st h=>adg st.hz h
section
variable {X:Cx} {elts:List Expr} {n:Nat} {tpos p pos:Pos} {e1 e2:Expr} {f1 f2:Sl->Res D}
def qR:List D->List D->List D
 |x::xs,y::ys=> .tup [x,y]::qR xs ys
 |_,_=>[]
theorem J1: ∀xs ys:List D,(qR xs ys).length=min xs.length ys.length
 | [],_=>by simp [qR]
 |_::_,[]=>by simp [qR]
 |x::xs,y::ys=>by simp [qR,J1 xs ys]
theorem J2: ∀(xs ys:List D) (i:Nat) (d:D),(qR xs ys)[i]?=some d-> ∃x y,xs[i]?=some x/\ys[i]?=some y/\d= .tup [x,y]
 | [],_,i,d,h=>by simp [qR] at h
 |_::_,[],i,d,h=>by simp [qR] at h
 |x::xs,y::ys,0,d,h=>by simp [qR] at h;exact ⟨x,y,rfl,rfl,h.symm⟩
 |x::xs,y::ys,i+1,d,h=>by
  simp only [qR,aaQ] at h ⊢;exact J2 xs ys i d h
def zipF (f1 f2:Sl->Res D):Sl->Res (List D):=fun env=>f1 env>>=fun d=>f2 env>>=fun e=>match d,e with
 | .tup xs,.tup ys=> .ok (qR xs ys)
 |_,_=> .stuck
theorem Yg:abl "zip" =some (.type "zip"):=by decide+kernel
theorem jfU (hg : Gl X "zip") (hm : X.mg "zip" = none) (h1 : DE X .s e1 f1) (h2 : DE X .s e2 f2) (hs : aal [e1, e2] X.env = (false, eval e1 X.env) :: aal [e2] X.env := by exact jl rfl) (hs2 : aal [e2] X.env = (false, eval e2 X.env) :: aal [] X.env := by exact jl rfl)
    (hpl : (abd pos (aal [e2] X.env)).any (·.1) = false := by exact jK rfl) : DI X (.Tuple elts n tpos) (.Call (.Name "zip" p) [e1, e2] [] pos) (zipF f1 f2) := by
  have hE1 : PE X e1 (tE X.K .s f1) := by with_unfolding_all exact h1
  have hE2 : PE X e2 (tE X.K .s f2) := by with_unfolding_all exact h2
  with_unfolding_all exact (show PI X (.Tuple elts n tpos) (.Call (.Name "zip" p) [e1, e2] [] pos) (tI X.K (zipF f1 f2)) from by
    intro pins s σ H R I ⟨G, H0, env, ds, k, ef, q⟩
    obtain ⟨d1, c1, ef⟩ := jc ef
    obtain ⟨d2, c2, ef⟩ := jc ef
    have hA := j8 hE1 (j8 hE2 wv hs2) hs
    refine Call_ (Jq I hg hm Yg (aa0 (thn (hA pos pins s σ H (fun vs H2 => ∃ v1 v2, vs = [v1, v2] /\ Same H H2 /\ Rep X.K (Sf G env σ) H2 v1 d1 /\ Rep X.K (Sf G env σ) H2 v2 d2) I ⟨G, H0, env, d1, k, c1, fun v1 H1 s1 r1 _ => ⟨G, H0, env, d2, k.grow s1, c2, fun v2 H2 s2 r2 _ => ⟨v1, v2, rfl, s1.trans s2, r1.grow s2, r2⟩⟩⟩) fun us s1 ⟨vs, H1, I1, r1, v1, v2, ev, sm, rp1, rp2⟩ => ?_) hs hpl))
    subst ev
    obtain ⟨u1, u2, rfl, ru1, ru2⟩ := jae r1
    have k1 := k.grow sm
    split at ef
    · rename_i es1 es2
      cases ef
      obtain ⟨a1, xs, rfl, ha1, rs1⟩ := rp1.tupE
      obtain ⟨a2, ys, rfl, ha2, rs2⟩ := rp2.tupE
      cases ru1
      cases ru2
      obtain ⟨its1, rv1, p1, _⟩ := I1.tuple (.inl (.of ha1))
      obtain ⟨its2, rv2, p2, _⟩ := I1.tuple (.inl (.of ha2))
      have lt1 : a1 < s1.heap.objs.size := by obtain ⟨o, ho, _⟩ := p1; exact aat ho
      have lt2 : a2 < s1.heap.objs.size := by obtain ⟨o, ho, _⟩ := p2; exact aat ho
      refine uW (show s1.heap.IsTuple a1 its1.toArray from p1) (show s1.heap.IsTuple a2 its2.toArray from p2) fun h' Z hk => adg Z.hz ?_
      have I2 : Inv X pins σ H1 { s1 with heap := h' } := I1.kept (t' := s1.toks) hk
      refine ⟨s1.heap.objs.size + 4, [s1.heap.objs.size + 4, s1.heap.objs.size + 2, s1.heap.objs.size + 3, s1.heap.objs.size, s1.heap.objs.size + 1], _, _, H1, rfl, I2, U8 xs ys (adS lt1 lt2), Z, fun b hb => ?_, ?_⟩
      · have hb' : s1.heap.objs.size <= b := by
          simp only [aah, aaq, or_false] at hb
          rcases hb with rfl | rfl | rfl | rfl | rfl <;> first | exact Nat.le_add_right _ _ | exact aai _
        exact I1.fpOk hb' (I1.hok.fresh hb')
      · refine q _ H1 (fun H => H a1 = some (.tup xs) /\ H a2 = some (.tup ys)) sm (fun i H' pp => ?_) ⟨ha1, ha2⟩ fun env' σ' H' fr => ⟨fr.keep a1 _ ha1 fun ow => (k1.mutO ow ha1).elim, fr.keep a2 _ ha2 fun ow => (k1.mutO ow ha2).elim⟩
        have hl1 := rs1.length
        have hl2 := rs2.length
        have hq : SqT X.K H' a1 xs /\ SqT X.K H' a2 ys := ⟨.inl (.of pp.1), .inl (.of pp.2)⟩
        rw [J1]
        refine ⟨fun hi => ⟨hq, by omega, by omega⟩, fun d hd x H2 y => ?_, fun hi => ⟨hq, by omega⟩⟩
        obtain ⟨p, x', y', hp, hx', hy', rfl, rfl⟩ := y
        obtain ⟨dx, dy, hdx, hdy, rfl⟩ := J2 _ _ _ _ hd
        obtain ⟨d', hd', rd⟩ := rs1.get' hx'
        obtain ⟨d'', hd'', rd'⟩ := rs2.get' hy'
        rw [hdx] at hd'; cases hd'
        rw [hdy] at hd''; cases hd''
        exact .inr ⟨p, _, _, hp, rfl, rfl, rfl, .cons rd (.cons rd' .nil)⟩
    · cases ef)
end
end M
namespace M
open PySem PySem.Spec L2
open PyProof.Rows hiding St
section
variable {X:Cx}
def slS:D->Option Int->Option Int->Res D
 | .scr ds,lo,hi=> .ok (.lst (cutD ds lo hi))
 |_,_,_=> .stuck
theorem uJ {e:Expr} {lo hi:Option Expr} {p2 pos:Pos} {f:Sl->Res D} {fl fh:Sl->Res (Option Int)} (he:DE X .s e f) (hl:DO X lo fl) (hh:DO X hi fh):
   DE X .t (.Subscript e (.Slice lo hi none p2) pos) (j7 f fl fh slS):=by
 with_unfolding_all exact (
  PE.imp (K3 sl_list he hl hh) fun σ H Q ⟨G,H0,env,d,k,ef,q⟩=>by
   obtain ⟨a,e1,ef⟩:=jc ef;obtain ⟨lo',e2,ef⟩:=jc ef;obtain ⟨hi',e3,e4⟩:=jc ef;refine ⟨G,H0,env,a,k,e1,fun x H1 s1 r1 _=>⟨G,H0,env,lo',k.grow s1,e2,fun H2 s2=>⟨G,H0,env,hi',(k.grow s1).grow s2,e3,fun H3 s3=>?_⟩⟩⟩;have sm:=s1.trans (s2.trans s3)
   cases a with
   |scr ds=>
    cases e4;obtain ⟨b,xs,rfl,hb,rs⟩:=((r1.grow s2).grow s3).scrE;refine ⟨b,xs,rfl,hb.sql,fun p hp=>q _ _ (sm.trans (Same.upd hp)) (.lst jB (k.new p (Same.free sm hp)) (((Kr rs).laid hp).weak fun c z=>⟨z.1,z.2⟩)) ((qE (Same.refl H3) hp).grow sm)⟩
   |_=>cases e4)
def jeo (K:aaa):R2:=fun x y H Q=> ∃l b xs zs,x= .ref l/\y= .ref b/\SqL K H l xs/\SqL K H b zs/\xs.length+zs.length<=aae/\ ∀p,H p=none->Q (.ref p) (upd H p (.lst (xs++zs)))
theorem jcZ:OpR X (abG .Add) (jeo X.K):=by
 intro pins s σ H x y v u Q I rx ry h;obtain ⟨l,b,xs,zs,rfl,rfl,hH,hB,hz,q⟩:=h;cases rx;cases ry;obtain ⟨its,r,⟨⟨c1,d1,dt1,sl1⟩,n1,g1,p1,p2,p3⟩,z1⟩:=I.list hH;obtain ⟨its2,r2,⟨⟨c2,d2,dt2,sl2⟩,n2,g2,p4,p5,p6⟩,z2⟩:=I.list hB;simp only at p1 p2 p3 p4 p5 p6;subst p1 p2 p3 p4 p5 p6;have hl:=r.length;have hl2:=r2.length;refine concat_meets ⟨_,g1,rfl⟩ ⟨_,g2,rfl⟩ noFill_list_add seq_list_add F.slot_list_add F.entry_list_add (F.args_list_add_2 _ _) (list_addW l b its.toArray its2.toArray n1 n2 none none sl1 sl2 (by rw [aaf,aaf];omega)) ⟨g1,g2,?_⟩;have ea:its.toArray++its2.toArray=(its++its2).toArray:=by simp
 rw [ea];exact ⟨.ref _,_,I.lnew (t':=s.toks) (r.append r2) (by rw [aao];omega),rfl,q _ I.fresh⟩
def addS:D->D->Res D
 | .scr a,.lst b=>must (a.length+b.length<=aae) (.ok (.lst (a++b)))
 |_,_=> .stuck
theorem jc4 {K:aaa}:OpD K (jeo K) addS:=by
 intro A x y H a b d Q ra rb e q;unfold addS at e
 split at e
 · obtain ⟨h3,h4⟩:=jp e;cases h4;obtain ⟨l,xs,rfl,hl,rx⟩:=ra.scrE;obtain ⟨l',ys,rfl,hl',_,ry⟩:=rb.lstE;refine ⟨l,l',xs,ys,rfl,rfl,hl.sql,.of hl',rx.len_app ry.low h3,fun p hp=>q _ _ (Same.upd hp) ?_ (qE (Same.refl H) hp)⟩;exact .lst jB (.inl hp) (((rx.append ry.low).laid hp).weak fun c z=>⟨.inr z.1,z.2⟩)
 · cases e
def jgc (i j:Int):Prop:=0<j/\j<2^200
theorem jaF:OpR X (abG .FloorDiv) (rI jgc fun i j=> .int (i/j)):=opI fun i j _ _ _ _ _ hc q=>by
 have h1:(0:Int)<j:=hc.1;have h2:j<2^200:=hc.2;refine floordiv_int (by omega) (by rw [Int.fdiv_eq_ediv_of_nonneg i (by omega)];exact q) (.inl (PyProof.noPylong_of_log2 ?_));have h3:j.natAbs<2^200:=by omega
 exact aaB ((Nat.log2_lt (by omega)).mpr h3) (by omega)
abbrev DivW:Int->Int->Prop:=fun _ j=>0<j/\j<2^200
theorem jaJ {K:aaa}:OpS K (rI jgc fun i j=> .int (i/j)) (iOp DivW fun i j=> .int (i/j)):=od_I (fun _ _ h=>h) fun i j=>jhv _
abbrev divW:=iOp DivW fun i j=> .int (i/j)
end
end M
namespace M
open PySem PySem.Spec L2
open PyProof.Rows hiding St
def sdN (i:Nat) (fk fv fw:Sl->Res D):Sl->Res (Bool×Sl):=fun env=>ownK i env>>=fun q=>fk env>>=fun kd=>fv env>>=fun d=>match keyD kd with
 |some k=>must (q.1.length<aae) (match valD q.1 q.2 k with
  |some d0=>fw env>>=fun w=>neR d0 w>>=fun r=>match r with
   | .bl b=> .ok (b,env)
   |_=> .stuck
  |none=>fw (env.set i (.own (.dic (wX q.1 k) (wY q.1 q.2 k d))))>>=fun w=>neR d w>>=fun r=>match r with
   | .bl b=> .ok (b,env.set i (.own (.dic (wX q.1 k) (wY q.1 q.2 k d))))
   |_=> .stuck)
 |none=> .stuck
def ifSD (i:Nat) (fk fv fw:Sl->Res D) (g1 g2:Sl->Res Out):Sl->Res Out:=fun env=>sdN i fk fv fw env>>=fun r=>if r.1=true then g1 r.2 else g2 r.2
section
variable {X:Cx} {i:Nat} {x:Str} {e1 e2 e3:Expr} {p apos cpos pos qpos:Pos} {l1 l3:Lv} {fk fv fw:Sl->Res D} {body orelse:List Stmt} {g1 g2:Sl->Res Out}
theorem jdB (hu:X.A.units+200<cLine) (i:Nat) (hk:DE X l1 e1 fk) (hv:DE X .s e2 fv) (hw:DE X l3 e3 fw) (h1:DSs X body g1) (h2:DSs X orelse g2) (hN:X.N[i]?=some x:=by rfl) (hvs:Vis X.env.scope x:=by first|exact abw rfl|exact aa4 (abw rfl)|exact aa4 (aa4 rfl))
   (hd:(x==("__debug__" :Str))=false:=by decide) (hcd:(x==("__classdict__" :Str))=false:=by decide)
   (hbase:abf (.Name x p) "setdefault" X.env (eval (.Name x p) X.env)=eval (.Name x p) X.env:=by rfl)
   (hfew:((abd cpos (aal [e1,e2] X.env)).all (fun x=>!x.1)&&(acs cpos (abz [] X.env)).all (fun x=>x.1.isSome)
    &&decide ([e1,e2].length+([]:List acn).length+(if ([]:List acn).isEmpty then 0 else 1)<30))=true:=by exact x0 rfl rfl)
   (hline:(apos.endLine==cpos.line)=true:=by rfl) (hs:aal [e1,e2] X.env=(false,eval e1 X.env)::aal [e2] X.env:=by exact jl rfl) (hplain:(abd cpos (aal [e2] X.env)).any (·.1)=false:=by exact jK rfl)
   (hs2:aal [e2] X.env=(false,eval e2 X.env)::aal [] X.env:=by exact jl rfl) (hm:ab7 .NotEq e3=false:=by first|exact K9 _| (with_unfolding_all rfl)):
   DS X (.If (.Compare (.Call (.Attribute (.Name x p) "setdefault" apos) [e1,e2] [] cpos) [.NotEq] [e3] qpos) body orelse pos) (ifSD i fk fv fw g1 g2):=by
 with_unfolding_all exact (
  PS.imp (kU (kS (wJ hu) (vg acW acg adn vG (wu (i:=i) hN hvs hd hcd) (j8 hk (j8 hv wv hs2) hs) hbase hfew hline hs hplain) hw hm) h1 h2) fun E σ H ⟨G,H0,env,o,k,ef,q⟩=>by
   obtain ⟨⟨b,envT⟩,ef,ego⟩:=jc ef;obtain ⟨ks,c1,ef⟩:=jc ef;obtain ⟨kd,c2,ef⟩:=jc ef;obtain ⟨d,c3,c4⟩:=jc ef;have hi:=Jn c1;obtain ⟨a,kvs,ha,hx,hkk,rs⟩:=WH k hi
   have fin: ∀H3,EnvOk X.K G H0 envT σ H3->Frm env σ H envT σ H3->(if b=true then tS X.K g1 E σ H3 else tS X.K g2 E σ H3):=fun H3 k3 f3=>by
    cases b with
    |true=>rw [if_pos rfl] at ego ⊢;exact ⟨G,H0,envT,o,k3,ego,Za f3 q⟩
    |false=>rw [if_neg aaz] at ego ⊢;exact ⟨G,H0,envT,o,k3,ego,Za f3 q⟩
   cases hkey:keyD kd with
   |none=>rw [hkey] at c4;cases c4
   |some kk=>
    rw [hkey] at c4;obtain ⟨hz,c5⟩:=jp c4;refine ⟨.ref a,ha,.inr (.inr (.inl ⟨rfl,.inl ⟨kvs,hx⟩⟩)),G,H0,env,kd,k,c2,fun y H1 s1 r1 _=>⟨G,H0,env,d,k.grow s1,c3,fun v H2 s2 r2 _=>?_⟩⟩;have hx2:=s2 _ _ (s1 _ _ hx);have hy:=Zm (r1.weak (A':=Any) Lv.weak_b) hkey;subst hy;have hl:kvs.length<aae:=by rw [←hkk,aan] at hz;exact hz
    obtain ⟨g1',g2'⟩:=Vq (K:=X.K) kk ((rs.grow s1).grow s2);rw [hkk] at g1' g2';refine ⟨a,kvs,kk,v,rfl,rfl,hx2,hl,fun w hw=>?_,fun hn=>?_⟩
    · obtain ⟨d0,hd0,rd0⟩:=g1' w hw;rw [hd0] at c5;obtain ⟨wd,c6,c5⟩:=jc c5;obtain ⟨rr,c7,c5⟩:=jc c5;obtain ⟨hc,c8⟩:=jp c7;cases c8;cases c5;refine ⟨G,H0,env,wd,(k.grow s1).grow s2,c6,fun y H3 s3 r3 _=>⟨d0,wd,(rd0.grow s3).weak fun _ _=>trivial,r3.weak Lv.weak_b,hc,?_⟩⟩;exact ⟨_,rfl,fin H3 (((k.grow s1).grow s2).grow s3) (Frm.refl (s1.trans (s2.trans s3)))⟩
    · rw [g2' hn] at c5;obtain ⟨wd,c6,c5⟩:=jc c5;obtain ⟨rr,c7,c5⟩:=jc c5;obtain ⟨hc,c8⟩:=jp c7;cases c8;cases c5;have W:=((k.grow s1).grow s2).putD (kk:=kk) hi ha hx2 hkk ((rs.grow s1).grow s2) r2;refine ⟨G,H0,_,wd,W.1,c6,fun y H3 s3 r3 _=>⟨d,wd,((W.2.rep ((k.grow s1).grow s2) r2).grow s3).weak fun _ _=>trivial,r3.weak Lv.weak_b,hc,?_⟩⟩
      exact ⟨_,rfl,fin H3 (W.1.grow s3) (((W.2.grow s2).grow s1).trans (Frm.refl s3))⟩)
end
end M
namespace M
open PySem PySem.Spec L2
open PyProof.Rows hiding St
def getN (f:Str):List Str->List D->Option D
 |n::ns,d::ds=>if n=f then some d else getN f ns ds
 |_,_=>none
def YI (f:Str):List Str->List Str
 | []=>[f]
 |n::ns=>if n=f then n::ns else n::YI f ns
def YJ (f:Str) (d:D):List Str->List D->List D
 | [],_=>[d]
 |n::ns,e::es=>if n=f then d::es else e::YJ f d ns es
 |_::_,[]=>[]
theorem W0 {K:aaa} {A:Addr->Prop} {H:Hp} {f:Str}: ∀ {fs:List (Str×V)} {ds:List D} {d:D},Reps K A H (fs.map (·.2)) ds->getN f (fs.map (·.1)) ds=some d-> ∃v,fs.lookup f=some v/\Rep K A H v d
 | [],_,_,_,h=>by simp [getN] at h
 | (n,v)::r,_,d,.cons q t,h=>by
  by_cases e:n=f
  · subst e;simp only [aaw,getN,if_pos] at h;cases h;exact ⟨v,by simp [abX],q⟩
  · simp only [aaw,getN,if_neg e] at h;obtain ⟨v',h1,h2⟩:=W0 t h;exact ⟨v',by rw [aaT];simp [show (f==n)=false from by simpa using fun z=>e z.symm,h1],h2⟩
theorem KZ {K:aaa} {A:Addr->Prop} {H:Hp} {f:Str} {v:V} {d:D} (rv:Rep K A H v d): ∀ {fs:List (Str×V)} {ds:List D},Reps K A H (fs.map (·.2)) ds->(putF f v fs).map (·.1)=YI f (fs.map (·.1))/\Reps K A H ((putF f v fs).map (·.2)) (YJ f d (fs.map (·.1)) ds)
 | [],_,.nil=>⟨rfl,.cons rv .nil⟩
 | (n,u)::r,_,.cons q t=>by
  by_cases e:n=f
  · simp only [putF,aaw,YI,YJ,if_pos e];exact ⟨trivial,.cons rv t⟩
  · simp only [putF,aaw,YI,YJ,if_neg e];obtain ⟨h1,h2⟩:=KZ rv t;exact ⟨by rw [h1],.cons q h2⟩
theorem Zj {f:Str}: ∀ {fs:List (Str×V)},(fs.map (·.1)).contains f=false->fs.lookup f=none
 | [],_=>rfl
 | (n,u)::r,h=>by
  simp only [aaw,List.contains_cons,Bool.or_eq_false_iff] at h;rw [aaT];simp [h.1,Zj h.2]
theorem Rep.objE {K:aaa} {A:Addr->Prop} {H:Hp} {v:V} {c:Str} {ns:List Str} {ds:List D} (r:Rep K A H v (.obj c ns ds)): ∃a C dx fs,v= .ref a/\H a=some (.ins C dx fs)/\A a/\aax K aav c=some (some (.ref C))/\fs.map (·.1)=ns/\Reps K (fun c=>A c/\c≠a) H (fs.map (·.2)) ds:=by
 cases r with
 |obj e a k1 k2 r=>subst k2;exact ⟨_,_,_,_,rfl,e,a,k1.1,k1.2,r⟩
theorem vi {K:aaa} {G:Addr->Prop} {H0 H:Hp} {env:Sl} {σ:L2.St} {i:Nat} {c:Str} {ns:List Str} {ds:List D} (k:EnvOk K G H0 env σ H) (hi:env[i]?=some (.own (.obj c ns ds))):
  ∃a C dx fs,σ[i]?=some (some (.ref a))/\H a=some (.ins C dx fs)/\aax K aav c=some (some (.ref C))/\fs.map (·.1)=ns/\Reps K (Sf G env σ) H (fs.map (·.2)) ds:=by
 obtain ⟨a,h1,_,h2⟩:=k.own i _ hi
 cases h2 with
 |obj e k1 k2 r=>subst k2;exact ⟨a,_,_,_,h1,e,k1.1,k1.2,r⟩
structure FldN (K:aaa) (c f:Str):Prop where
 ex: ∃C,aax K aav c=some (some (.ref C))/\Cls K C/\NoAttr K C f
theorem FldN.at {K:aaa} {c f:Str} {C:Addr} (h:FldN K c f) (e:aax K aav c=some (some (.ref C))):Cls K C/\NoAttr K C f:=by
 obtain ⟨C',h1,h2⟩:=h.ex;rw [e] at h1;cases h1;exact h2
def fldD (c f:Str):D->Res D
 | .obj c' ns ds=>must (c'=c) (match getN f ns ds with
  |some d=> .ok d
  |none=> .stuck)
 |_=> .stuck
theorem jbi {c f:Str} {o d:D} (h:fldD c f o= .ok d): ∃ns ds,o= .obj c ns ds/\getN f ns ds=some d:=by
 unfold fldD at h
 split at h
 · rename_i c' ns ds;obtain ⟨hc,h2⟩:=jp h;subst hc
   cases e:getN f ns ds with
   |none=>rw [e] at h2;cases h2
   |some d'=>rw [e] at h2;cases h2;exact ⟨ns,ds,rfl,e⟩
 · cases h
def fldF (c f:Str) (fo:Sl->Res D):Sl->Res D:=fun env=>fo env>>=fldD c f
section
variable {X:Cx} {e:Expr} {fo:Sl->Res D} {pos p:Pos} {c f:Str}
theorem uO (i:Nat) {x:Str} (hf:FldN X.K c f) (hN:X.N[i]?=some x:=by rfl) (hv:Vis X.env.scope x:=by first|exact abw rfl|exact aa4 (abw rfl)|exact aa4 (aa4 rfl))
   (hd:(x==("__debug__" :Str))=false:=by decide) (hcd:(x==("__classdict__" :Str))=false:=by decide)
   (hb:abf (.Name x p) f X.env (eval (.Name x p) X.env)=eval (.Name x p) X.env:=by rfl):DE X .s (.Attribute (.Name x p) f pos) (fldF c f (rdB i)):=by
 with_unfolding_all exact (
  PE.imp (jeE (wu (i:=i) hN hv hd hcd) hb) fun σ H Q ⟨G,H0,env,d,k,ef,q⟩=>by
   obtain ⟨o,e1,e2⟩:=jc ef;obtain ⟨ns,ds,rfl,e3⟩:=jbi e2;rcases kP e1 with z|z
   · obtain ⟨v,h1,h2⟩:=k.shr i _ z;obtain ⟨a,C,dx,fs,rfl,ha,_,hc,hn,rs⟩:=h2.objE;subst hn;obtain ⟨v',g1,g2⟩:=W0 rs e3;exact ⟨_,h1,a,C,dx,fs,v',rfl,ha,(hf.at hc).1,(hf.at hc).2,g1,q v' H (Same.refl H) (g2.weak fun _ z=>z.1) trivial⟩
   · obtain ⟨a,C,dx,fs,h1,ha,hc,hn,rs⟩:=vi k z;subst hn;obtain ⟨v',g1,g2⟩:=W0 rs e3
     exact ⟨_,h1,a,C,dx,fs,v',rfl,ha,(hf.at hc).1,(hf.at hc).2,g1,q v' H (Same.refl H) g2 trivial⟩)
end
inductive OutO where
 |nx (env:Sl)|rt (d:D) (env:Sl)
def jd1 (K:aaa) (G:Addr->Prop) (H0:Hp) (i:Nat) (a:Addr) (env:Sl) (σ:L2.St) (H:Hp) (E:Ends):OutO->Prop
 | .nx env'=> ∀σ' H',EnvOk K G H0 env' σ' H'->At σ' i a->Frm env σ H env' σ' H'->E.nx σ' H'
 | .rt d env'=> ∀v σ' H',EnvOk K G H0 env' σ' H'->At σ' i a->Frm env σ H env' σ' H'->Rep K (Sf G env' σ') H' v d->E.rt v H'
def tSO (K:aaa) (i:Nat) (g:Sl->Res OutO):TS:=fun E σ H=> ∃G H0 env o a,EnvOk K G H0 env σ H/\At σ i a/\g env= .ok o/\jd1 K G H0 i a env σ H E o
@[irreducible] def DSO (X:Cx) (i:Nat) (st:Stmt) (g:Sl->Res OutO):Prop:=PS X st (tSO X.K i g)
@[irreducible] def DSsO (X:Cx) (i:Nat) (st:List Stmt) (g:Sl->Res OutO):Prop:=PSs X st (tSO X.K i g)
theorem YU {K:aaa} {G:Addr->Prop} {H0 H H':Hp} {env env':Sl} {σ σ':L2.St} {i:Nat} {a:Addr} {E:Ends} {o:OutO} (f:Frm env σ H env' σ' H') (q:jd1 K G H0 i a env σ H E o):jd1 K G H0 i a env' σ' H' E o:=by
 cases o with
 |nx e=>exact fun σ2 H2 k2 a2 f2=>q σ2 H2 k2 a2 (f.trans f2)
 |rt b e=>exact fun v σ2 H2 k2 a2 f2 r2=>q v σ2 H2 k2 a2 (f.trans f2) r2
section
variable {X:Cx} {i:Nat} {e c0 tg:Expr} {st:Stmt} {rest body orelse:List Stmt} {pos p apos:Pos} {l:Lv} {f:Sl->Res D} {g g1 g2:Sl->Res OutO} {c n x:Str}
def seqJ (g1 g2:Sl->Res OutO):Sl->Res OutO:=fun env=>g1 env>>=fun o=>match o with
 | .nx env'=>g2 env'
 | .rt b e=> .ok (.rt b e)
theorem X5 (h1:DSO X i st g1) (h2:DSsO X i rest g2):DSsO X i (st::rest) (seqJ g1 g2):=by
 with_unfolding_all exact (PSs.imp (WE h1 h2) fun E σ H ⟨G,H0,env,o,a,k,ha,ef,q⟩=>by
  obtain ⟨o1,e1,e2⟩:=jc ef;refine ⟨G,H0,env,o1,a,k,ha,e1,?_⟩
  cases o1 with
  |nx env1=>exact fun σ' H' k' a' f'=>⟨G,H0,env1,o,a,k',a',e2,YU f' q⟩
  |rt b env1=>cases e2;exact q)
theorem VF (h1:DSO X i st g1):DSsO X i [st] g1:=by
 with_unfolding_all exact (PSs.imp (YK h1) fun E σ H q=>q)
def nxJ:Sl->Res OutO:=fun env=> .ok (.nx env)
theorem jbt:DSsO X i [] nxJ:=by
 with_unfolding_all exact (PSs.imp YL fun E σ H ⟨G,H0,env,o,a,k,ha,ef,q⟩=>by
  cases ef
  exact q σ H k ha (Frm.refl (Same.refl H)))
def ifJ (t:Sl->Res Bool) (g1 g2:Sl->Res OutO):Sl->Res OutO:=fun env=>t env>>=fun b=>if b=true then g1 env else g2 env
theorem jfP {t:Sl->Res Bool} (hc:DT X c0 t) (h1:DSsO X i body g1) (h2:DSsO X i orelse g2):DSO X i (.If c0 body orelse pos) (ifJ t g1 g2):=by
 with_unfolding_all exact (PS.imp (kU hc h1 h2) fun E σ H ⟨G,H0,env,o,a,k,ha,ef,q⟩=>by
  obtain ⟨b,e1,e2⟩:=jc ef;refine ⟨G,H0,env,b,k,e1,fun H' s=>?_⟩
  cases b with
  |true=>
   rw [if_pos rfl] at e2 ⊢;exact ⟨G,H0,env,o,a,k.grow s,ha,e2,YU (Frm.refl s) q⟩
  |false=>
   rw [if_neg aaz] at e2 ⊢
   exact ⟨G,H0,env,o,a,k.grow s,ha,e2,YU (Frm.refl s) q⟩)
def jbX:Sl->Res OutO:=fun _=> .stuck
theorem uB:DSO X i st jbX:=by
 with_unfolding_all exact (fun pins s σ H E I ⟨G,H0,env,o,a,k,ha,ef,q⟩=>by cases ef)
def ownJ (i:Nat) (c:Str):Sl->Res (List Str×List D):=fun env=>match env[i]? with
 |some (.own (.obj c' ns ds))=>must (c'=c) (.ok (ns,ds))
 |_=> .stuck
theorem jaD {q:List Str×List D} {env:Sl} (h:ownJ i c env= .ok q):env[i]?=some (.own (.obj c q.1 q.2)):=by
 unfold ownJ at h
 split at h
 · rename_i c' ns ds e;obtain ⟨hc,h2⟩:=jp h;subst hc;cases h2;exact e
 · cases h
def jam (i:Nat) (c n:Str) (f:Sl->Res D):Sl->Res OutO:=fun env=>f env>>=fun d=>ownJ i c env>>=fun q=>must (q.1.length<1000) (.ok (.nx (env.set i (.own (.obj c (YI n q.1) (YJ n d q.1 q.2))))))
theorem VG (hf:FldN X.K c n) (h:DE X .s e f) (hN:X.N[i]?=some x:=by rfl) (hv:Vis X.env.scope x:=by first|exact abw rfl|exact aa4 (abw rfl)|exact aa4 (aa4 rfl))
   (hd:(x==("__debug__" :Str))=false:=by decide) (hcd:(x==("__classdict__" :Str))=false:=by decide)
   (hs:ab1 e (some (.Attribute (.Name x p) n apos)) pos.line X.env=pure false:=by rfl):DSO X i (.Assign [.Attribute (.Name x p) n apos] e pos) (jam i c n f):=by
 with_unfolding_all exact (
  PS.imp (jeu (wu (i:=i) hN hv hd hcd) h hs) fun E σ H ⟨G,H0,env,o,a,k,ha,ef,q⟩=>by
   obtain ⟨d,e1,ef⟩:=jc ef;obtain ⟨ns,e2,ef⟩:=jc ef;obtain ⟨hz,e3⟩:=jp ef;cases e3;have hi:=jaD e2;refine ⟨G,H0,env,d,k,e1,fun y H1 s1 r1 _=>?_⟩;obtain ⟨a',C,dx,fs,h1,hx,hc,hn,rs⟩:=vi (k.grow s1) hi;rw [ha] at h1;cases h1;refine ⟨_,ha,a,C,dx,fs,rfl,hx,(hf.at hc).1,(hf.at hc).2,by rw [←hn,aan] at hz;exact hz,?_⟩;obtain ⟨p1,p2⟩:=KZ (f:=n) r1 rs;rw [hn] at p1 p2;have W:=(k.grow s1).writeG (o':= .ins C dx (putF n y fs)) (d':= .obj c (YI n ns.1) (YJ n d ns.1 ns.2)) hi ha hx trivial fun A' H' st e w=> .obj e ⟨hc,p1⟩ rfl (p2.stay st w)
   exact q σ _ W.1 ha (W.2.grow s1))
end
end M
namespace M
open PySem PySem.Spec L2
open PyProof.Rows hiding St
structure AvM (P:aaD) (w:World) (K:aaa) (mg:Str->Option Value) (base:Heap) (k:Nat) (c m:Str) (ps:List Str) (fr:Bool) (F:List D->Res D):Prop where
 ex: ∃C f fd,FnOk P w K mg base CX0 k f fd ps (spF K fr ps.length F)/\aax K aav c=some (some (.ref C))/\Cls K C/\Meth K C m f/\Binds K fd ps []
theorem AvM.mono {P:aaD} {w:World} {K:aaa} {mg:Str->Option Value} {base:Heap} {j k:Nat} {c m:Str} {ps:List Str} {fr:Bool} {F:List D->Res D} (h:AvM P w K mg base j c m ps fr F) (hj:j<=k):AvM P w K mg base k c m ps fr F:=
 let ⟨C,f,fd,a,b⟩:=h.ex
 ⟨C,f,fd,a.mono hj,b⟩
def xW (c m:Str) (n:Nat) (F:List D->Res D) (fo:Sl->Res D) (g:Sl->Res (List D)):Sl->Res D:=fun env=>fo env>>=fun o=>match o with
 | .obj c' ns vs=>must (c'=c/\ns.contains m=false) (g env>>=fun ds=>must (ds.length+1=n) (F (.obj c' ns vs::ds)))
 |_=> .stuck
theorem XN {c m:Str} {n:Nat} {F:List D->Res D} {fo:Sl->Res D} {g:Sl->Res (List D)} {env:Sl} {d:D} (h:xW c m n F fo g env= .ok d): ∃ns vs ds,fo env= .ok (.obj c ns vs)/\ns.contains m=false/\g env= .ok ds/\ds.length+1=n/\F (.obj c ns vs::ds)= .ok d:=by
 obtain ⟨o,h1,h⟩:=jc h
 cases o with
 |obj c' ns vs=>
  obtain ⟨⟨hc,h2⟩,h'⟩:=jp h;subst hc;obtain ⟨ds,h3,h''⟩:=jc h';obtain ⟨h4,h5⟩:=jp h'';exact ⟨ns,vs,ds,h1,h2,h3,h4,h5⟩
 |_=>cases h
section
variable {X:Cx} {k n:Nat} {c m:Str} {ps:List Str} {fr:Bool} {F:List D->Res D} {o e:Expr} {es:List Expr} {pos apos:Pos} {fo:Sl->Res D} {g:Sl->Res (List D)} {pl:Sem Bool}
theorem AvM.callT (A:AvM X.prog X.w X.K X.mg X.base k c m ps true F) (hr:Room k X.A) (ho:DE X .s o fo) (ha:DA X .s (e::es) g) (hn:ps.length=n:=by rfl)
  (hst:aal (e::es) X.env=(false,eval e X.env)::aal es X.env:=by exact jl rfl) (hpl:(abd pos (aal es X.env)).any (·.1)=false:=by exact jK rfl)
  (ht:eval (.Call (.Attribute o m apos) (e::es) [] pos) X.env=(do
   let ov←eval o X.env
   adN apos.atName
   let (f,first)←adq [ov] (getMethod ov m pl)
   callWith pos f first (abd pos (aal (e::es) X.env)) (acs pos (abz [] X.env))):=by rfl):DE X .t (.Call (.Attribute o m apos) (e::es) [] pos) (xW c m n F fo g):=by
 subst hn;obtain ⟨C,f,fd,h1,h2,h3,h4,h5⟩:=A.ex
 with_unfolding_all exact (
 PE.imp (jcQ (E:=fun _ _ _=>False) ho h3 h4 h1 hr h5 .nil YQ ha hst hpl ht) fun σ H Q ⟨GG,H0,env,d,k,ef,q⟩=>by
  obtain ⟨ns,vs,ds,e1,e2,e3,e4,e5⟩:=XN ef;refine ⟨GG,H0,env,_,k,e1,fun v H1 s1 r1 _=>?_⟩;obtain ⟨a,C',dx,fs,rfl,hx,_,hc,hn,rs⟩:=r1.objE;rw [h2] at hc;cases hc;refine ⟨a,dx,fs,rfl,hx,Zj (by rw [hn];exact e2),GG,H0,env,ds,k.grow s1,e3,fun ws H2 s2 r2=>?_⟩;show spF X.K true ps.length F (.ref a::(ws++[])) H2 Q (fun _ _ _=>False);rw [abj]
  exact ⟨_,_::ds,d,by simp [r2.length,e4],.cons (r1.grow s2) r2,e5,fun v H3 s3 r3 nt=>q v H3 (s1.trans (s2.trans s3)) (r3.weak fun c z=>z.elim (fun z=>k.new c (Same.free s1 (Same.free s2 z))) fun z=>z) (((nt rfl).grow s2).grow s1)⟩)
def noA:Sl->Res (List D):=fun _=> .ok []
theorem AvM.call0T (A:AvM X.prog X.w X.K X.mg X.base k c m ps true F) (hr:Room k X.A) (ho:DE X .s o fo) (hn:ps.length=n:=by rfl)
  (ht:eval (.Call (.Attribute o m apos) [] [] pos) X.env=(do
   let ov←eval o X.env
   adN apos.atName
   let (f,first)←adq [ov] (getMethod ov m pl)
   callWith pos f first (abd pos (aal [] X.env)) (acs pos (abz [] X.env))):=by rfl):DE X .t (.Call (.Attribute o m apos) [] [] pos) (xW c m n F fo noA):=by
 subst hn;obtain ⟨C,f,fd,h1,h2,h3,h4,h5⟩:=A.ex
 with_unfolding_all exact (
 PE.imp (jay (E:=fun _ _ _=>False) ho h3 h4 h1 hr h5 .nil YQ ht) fun σ H Q ⟨GG,H0,env,d,k,ef,q⟩=>by
  obtain ⟨ns,vs,ds,e1,e2,e3,e4,e5⟩:=XN ef;cases e3;refine ⟨GG,H0,env,_,k,e1,fun v H1 s1 r1 _=>?_⟩;obtain ⟨a,C',dx,fs,rfl,hx,_,hc,hn,rs⟩:=r1.objE;rw [h2] at hc;cases hc;refine ⟨a,dx,fs,rfl,hx,Zj (by rw [hn];exact e2),?_⟩;show spF X.K true ps.length F [.ref a] H1 Q (fun _ _ _=>False)
  exact ⟨_,[_],d,by simp [←e4],.cons r1 .nil,e5,fun v H3 s3 r3 nt=>q v H3 (s1.trans s3) (r3.weak fun c z=>z.elim (fun z=>k.new c (Same.free s1 z)) fun z=>z) ((nt rfl).grow s1)⟩)
end
section
variable {P:aaD} {w:World} {K:aaa} {mg:Str->Option Value} {base:Heap}
theorem jf1 {c m qual:Str} {st:Stmt} {C f:Addr} {fd:abC} {N ps:List Str} {k:Nat} (fr:Bool) {g:Sl->Res Out} (Fu:Fun K m qual st f fd) (hC:aax K aav c=some (some (.ref C))) (cl:Cls K C) (me:Meth K C m f) (S:FnScope N ps (jf st)) (hbi:Binds K fd ps [])
  (hb: ∀(cdv:Value) (A:aaX) (outer:List Env) (s:aaj) (H:Hp) (E:XK),Room k (A.deeper (acR qual (jf st) s.heap.objs.size f cdv))->DSs (cxOf CX0 P w K mg base N qual (jf st) f cdv A outer s H E).nox (ql st) g):
  AvM P w K mg base (k+1) c m ps fr (runF fr N.length g):=
 ⟨C,f,fd,jdo Fu S hb fun ds d _ h=>JY h,hC,cl,me,hbi⟩
end
abbrev FO:=D->List D->Res (D×D)
def spJ (K:aaa) (n:Nat) (F:FO):Sp:=fun vs H Q _=> ∃(B:Addr->Prop) (ds:List D) (us:List V) (a:Addr) (d0 r d1:D),vs=V.ref a::us/\us.length=n/\Reps K (fun c=>B c/\c≠a) H us ds/\Top K (fun c=>B c/\c≠a) H a d0/\F d0 ds= .ok (r,d1)/\
 ∀v H',(∀c o,c≠a->H c=some o->H' c=some o)->Top K (fun c=>(H c=none\/B c)/\c≠a) H' a d1->Rep K (fun c=>(H c=none\/B c)/\c≠a) H' v r->Q v H'
def yG (n:Nat) (d0:D) (ds:List D):Sl:= .own d0::(ds.map .shr++acw (n-ds.length-1) .un)
theorem yq {n:Nat} {d0:D} {ds:List D} {j:Nat} {s:Slot} (h:(yG n d0 ds)[j]?=some s):(j=0/\s= .own d0)\/(∃j' d,j=j'+1/\ds[j']?=some d/\s= .shr d)\/s= .un:=by
 unfold yG at h
 cases j with
 |zero=>simp at h;exact .inl ⟨rfl,h.symm⟩
 |succ j=>
  rw [aaQ] at h
  by_cases q:j<ds.length
  · rw [aau (by simpa using q),aaH] at h
    cases e:ds[j]? with
    |none=>rw [e] at h;cases h
    |some x=>rw [e] at h;cases h;exact .inr (.inl ⟨j,x,rfl,e,rfl⟩)
  · rw [aar (by simpa using q),aaW] at h
    split at h
    · cases h;exact .inr (.inr rfl)
    · cases h
theorem US {K:aaa} {B:Addr->Prop} {N:List Str} {us:List V} {ds:List D} {a:Addr} {d0:D} {H:Hp} (r:Reps K (fun c=>B c/\c≠a) H us ds) (t:Top K (fun c=>B c/\c≠a) H a d0) (hN:ds.length+1<=N.length):
   EnvOk K (fun c=>H c=none\/c=a\/B c) (fun c=>if c=a then none else H c) (yG N.length d0 ds) (start N (V.ref a::us)) H/\At (start N (V.ref a::us)) 0 a:=by
 have hl:=r.length
 have hat:At (start N (V.ref a::us)) 0 a:=by
   show (L2.start N (V.ref a::us))[0]?=_;unfold L2.start;simp
 have hget: ∀(j:Nat) (v:V),us[j]?=some v->(start N (V.ref a::us))[j+1]?=some (some v):=fun j v h=>by
   have hj:=(aay.mp h).1;unfold L2.start;rw [aau (by simp;omega),aaH,aaQ,h];rfl
 have own1: ∀c,zC (yG N.length d0 ds) (start N (V.ref a::us)) c->c=a:=fun c ⟨j,d,h1,h2⟩=>by
   rcases yq h1 with ⟨rfl,_⟩| ⟨_,_,_,_,z⟩|z
   · rw [hat] at h2;cases h2;rfl
   · cases z
   · cases z
 have w: ∀c,B c/\c≠a->Sf (fun c=>H c=none\/c=a\/B c) (yG N.length d0 ds) (start N (V.ref a::us)) c:=fun c z=>⟨fun o=>z.2 (own1 c o),.inr (.inr z.1)⟩
 refine ⟨⟨?_,fun c o e=>?_,fun c e=>?_,fun j d h=>?_,fun j d h=>?_,fun j j' d e b h1 h2 h3 h4=>?_⟩,hat⟩
 · simp [L2.start,yG,hl];omega
 · split at e
   · cases e
   · exact e
 · split at e
   · rename_i z;exact .inr (.inl z)
   · exact .inl e
 · rcases yq h with ⟨_,z⟩| ⟨j',d',rfl,e,z⟩|z
   · cases z
   · cases z;obtain ⟨v,h1,h2⟩:=r.get e;exact ⟨v,hget j' v h1,h2.weak w⟩
   · cases z
 · rcases yq h with ⟨rfl,z⟩| ⟨j',d',_,e,z⟩|z
   · cases z;exact ⟨a,hat,if_pos rfl,t.stay (fun _ _ e _=>e) w fun _ e=>e⟩
   · cases z
   · cases z
 · have real: ∀(j:Nat) (d:D),(yG N.length d0 ds)[j]?=some (.own d)->j=0:=fun j d h=>by
     rcases yq h with ⟨z,_⟩| ⟨_,_,_,_,z⟩|z
     · exact z
     · cases z
     · cases z
   rw [real j d h1,real j' e h2]
def kG:Sl->Res D
 | .own d::_=> .ok d
 |_=> .stuck
theorem kF {env:Sl} {d:D} (h:kG env= .ok d):env[0]?=some (.own d):=by
 unfold kG at h
 split at h
 · cases h;rfl
 · cases h
def runJ (N n:Nat) (g:Sl->Res OutO):FO:=fun d0 ds=>must (ds.length=n) (g (yG N d0 ds)>>=fun o=>match o with
 | .nx env=>kG env>>=fun d=> .ok (.non,d)
 | .rt r env=>kG env>>=fun d=> .ok (r,d))
section
variable {P:aaD} {w:World} {K:aaa} {mg:Str->Option Value} {base:Heap}
theorem jfE {m qual:Str} {st:Stmt} {f:Addr} {fd:abC} {N ps:List Str} {k n:Nat} {g:Sl->Res OutO} (Fu:Fun K m qual st f fd) (S:FnScope N ps (jf st)) (hn:ps.length=n+1) (hN:n+1<=N.length)
  (hb: ∀(cdv:Value) (A:aaX) (outer:List Env) (s:aaj) (H:Hp) (E:XK),Room k (A.deeper (acR qual (jf st) s.heap.objs.size f cdv))->DSsO (cxOf CX0 P w K mg base N qual (jf st) f cdv A outer s H E).nox 0 (ql st) g):
  FnOk P w K mg base CX0 (k+1) f fd ps (spJ K n (runJ N.length n g)):=by
 with_unfolding_all exact (by
 refine Fu.ok S (fun vs H Q E ⟨B,ds,us,a,d0,r,d1,ev,hl,_⟩=>by rw [ev,aad,hl,hn]) (fun cdv A outer s H vs Q E hr h=>?_);obtain ⟨B,ds,us,a,d0,r,d1,ev,hl,rs,t,eF,q⟩:=h;refine ⟨_,hb cdv A outer s H E hr,?_⟩;obtain ⟨e0,eF⟩:=jp eF;obtain ⟨o,e1,eF⟩:=jc eF;subst ev;obtain ⟨kk,hat⟩:=US (N:=N) rs t (by omega)
 have fin: ∀(env':Sl) (σ':L2.St) (H':Hp) (v:V),EnvOk K (fun c=>H c=none\/c=a\/B c) (fun c=>if c=a then none else H c) env' σ' H'->At σ' 0 a->kG env'= .ok d1->Rep K (Sf (fun c=>H c=none\/c=a\/B c) env' σ') H' v r->Q v H':=fun env' σ' H' v k' a' e2 rv=>by
  have hi:=kF e2;obtain ⟨a2,h1,_,t2⟩:=k'.own 0 _ hi;rw [a'] at h1;cases h1
  have ww: ∀c,Sf (fun c=>H c=none\/c=a\/B c) env' σ' c->(H c=none\/B c)/\c≠a:=fun c z=>by
   have hca:c≠a:=by
     rintro rfl;exact z.1 ⟨0,_,hi,a'⟩
   refine ⟨?_,hca⟩;rcases z.2 with z|z|z
   · exact .inl z
   · exact absurd z hca
   · exact .inr z
  exact q v H' (fun c o hc e=>k'.base c o (by rw [if_neg hc];exact e)) (t2.stay (fun _ _ e _=>e) ww fun _ e=>e) (rv.weak ww)
 refine ⟨_,_,_,o,a,kk,hat,e1,?_⟩
 cases o with
 |nx env'=>
  obtain ⟨d,e2,e3⟩:=jc eF;cases e3;exact fun σ' H' k' a' f'=>fin env' σ' H' .non k' a' e2 .non
 |rt r' env'=>
  obtain ⟨d,e2,e3⟩:=jc eF;cases e3
  exact fun v σ' H' k' a' f' rv=>fin env' σ' H' v k' a' e2 rv)
end
structure AvK (P:aaD) (w:World) (K:aaa) (mg:Str->Option Value) (base:Heap) (k:Nat) (c:Str) (n:Nat) (F:FO):Prop where
 ex: ∃C f fd ps,FnOk P w K mg base CX0 k f fd ps (spJ K n F)/\aax K aav c=some (some (.ref C))/\mg c=some (.ref C)/\Mk K C f/\Binds K fd ps []
def jaT (c:Str) (n:Nat) (F:FO) (g:Sl->Res (List D)):Sl->Res D:=fun env=>g env>>=fun ds=>must (ds.length=n) (F (.obj c [] []) ds>>=fun q=>match q with
 | (.non,d)=> .ok d
 |_=> .stuck)
section
variable {X:Cx} {k n:Nat} {c:Str} {F:FO} {e:Expr} {es:List Expr} {pos p:Pos} {g:Sl->Res (List D)}
theorem AvK.make (A:AvK X.prog X.w X.K X.mg X.base k c n F) (hr:Room (k+1) X.A) (ha:DA X .s (e::es) g) (hg:Gl X c:=by rfl) (hdb:(c==("__debug__" :Str))=false:=by decide)
  (he:aal (e::es) X.env=(false,eval e X.env)::aal es X.env:=by exact jl rfl) (hpl:(abd pos (aal es X.env)).any (·.1)=false:=by exact jK rfl):
  DE X .t (.Call (.Name c p) (e::es) [] pos) (jaT c n F g):=by
 obtain ⟨C,f,fd,ps,h1,h2,h3,h4,h5⟩:=A.ex
 with_unfolding_all exact (
 PE.imp (jcR (E:=fun _ _ _=>False) h4 h1 hr hg h3 h5 .nil YQ ha hdb he hpl) fun σ H Q ⟨G,H0,env,d,k,ef,q⟩=>by
  obtain ⟨ds,e1,ef⟩:=jc ef;obtain ⟨hn,ef⟩:=jp ef;obtain ⟨⟨r,d1⟩,e2,ef⟩:=jc ef
  cases r with
  |non=>
   cases ef;refine ⟨G,H0,env,ds,k,e1,fun vs H1 s1 r1 x dx hx hdx ne=>?_⟩
   have S:Same H1 (upd (upd H1 dx (.own x)) x (.ins C dx [])):=fun b o eb=>by
    rw [jT (qL eb hx),jT (qL eb hdx)];exact eb
   have kx:Sf G env σ x:=k.new x (Same.free s1 hx);have rr:=r1.inDom.grow S;show spJ X.K n F (V.ref x::(vs++[])) _ _ (fun _ _ _=>False);rw [abj];refine ⟨Sf G env σ,ds,vs,x,_,.non,d,rfl,by rw [r1.length];exact hn,rr.weak fun b z=>⟨z.1,by rintro rfl;exact z.2 hx⟩,.obj jB ⟨h2,rfl⟩ rfl .nil,e2,fun v H' hs t rv=>⟨rv.nonE,?_⟩⟩;have sH:Same H H':=fun b o eb=>hs b o (qL (s1 b o eb) hx) (S b o (s1 b o eb))
   refine q _ H' sH (t.rep (fun b z=>⟨z.1.elim (fun z=>k.new b (Same.free s1 (Same.free S z))) fun z=>z,z.2⟩) kx) fun b eb o qb m=>?_
   cases eb;rw [s1 _ _ qb] at hx;cases hx
  |_=>cases ef)
end
section
variable {P:aaD} {w:World} {K:aaa} {mg:Str->Option Value} {base:Heap}
theorem jf3 {c m qual:Str} {st:Stmt} {C f:Addr} {fd:abC} {N ps:List Str} {k n:Nat} {g:Sl->Res OutO} (Fu:Fun K m qual st f fd) (hC:aax K aav c=some (some (.ref C))) (hmg:mg c=some (.ref C)) (mk:Mk K C f) (S:FnScope N ps (jf st)) (hbi:Binds K fd ps []) (hn:ps.length=n+1) (hN:n+1<=N.length)
  (hb: ∀(cdv:Value) (A:aaX) (outer:List Env) (s:aaj) (H:Hp) (E:XK),Room k (A.deeper (acR qual (jf st) s.heap.objs.size f cdv))->DSsO (cxOf CX0 P w K mg base N qual (jf st) f cdv A outer s H E).nox 0 (ql st) g):
  AvK P w K mg base (k+1) c n (runJ N.length n g):=
 ⟨C,f,fd,ps,jfE Fu S hn hN hb,hC,hmg,mk,hbi⟩
end
end M
namespace M
open PySem PySem.Spec L2
open PyProof.Rows hiding St
section
variable {prog:aaD} {w:World} {A:aaX} {E:Value->aaj->Prop} {s:aaj}
structure SetI (h:Heap) (a:Addr) (es:Array (Int×Value)) (ep:Nat) (t:adK):Prop where
 ex: ∃o,h.get? a=some o/\o.ExactSet/\o.data= .set es ep t
 el: ∀e∈es.toList,∃k tk,e.2= .int k tk/\e.1=hashInt k
 bd:es.size<adz
 ft:t.fits es.size=true
theorem SetI.of {a:Addr} {S:Int->Bool} {n:Nat} {h:Heap} (hS:h.SetOf (acu prog w) a S n): ∃es ep t,SetI h a es ep t/\es.size=n/\(∀k,S k=true↔ ∃e∈es.toList,(acu prog w).is k e.2=true):=by
 obtain ⟨o,es,ep,t,ho,hx,hd,hel,hm,hb,hf,hn⟩:=hS;refine ⟨es,ep,t,⟨⟨o,ho,hx,hd⟩,fun e he=>?_,hb,hf⟩,hn,hm⟩;obtain ⟨⟨k,h1,h2⟩,_⟩:=hel e he;obtain ⟨tk,h3⟩:=adT h1;exact ⟨k,tk,h3,h2⟩
theorem SetI.state {a:Addr} {es:Array (Int×Value)} {ep:Nat} {t:adK} (h:SetI s.heap a es ep t) {Q:(Array (Int×Value)×Nat×adK)->aaj->Prop} (hq:Q (es,ep,t) s):wpAny (model prog w) A (setState a) Q E s:=by
 obtain ⟨o,ho,_,hd⟩:=h.ex;exact wpAny_setState_of ho hd h.ft hq
theorem Q3 {es:Array (Int×Value)} (hel: ∀e∈es.toList,∃k tk,e.2= .int k tk/\e.1=hashInt k) {β:Type} {b0:β} {f:Int×Value->β->Sem (ForInStep β)} {Q:β->aaj->Prop}
   (hf: ∀h k tk,f (h,.int k tk) b0=pure (.yield b0)) (hq:Q b0 s):wpAny (model prog w) A (forIn es b0 f) Q E s:=by
 refine adA f (fun rest b s'=>b=b0/\s'=s/\ ∀e∈rest,e∈es.toList) Q ?_ ?_ es b0 ⟨rfl,rfl,fun _ h=>h⟩
 · rintro ⟨h,x⟩ rest b s' ⟨rfl,rfl,hm⟩;obtain ⟨k,tk,e1,e2⟩:=hel _ (hm _ aa1);dsimp only at e1;subst e1;rw [hf];exact aak ⟨rfl,rfl,fun e he=>hm e (aaI _ he)⟩
 · rintro b s' ⟨rfl,rfl,_⟩;exact hq
theorem Uu {a b c:Addr} {e1 e2 e3:Array (Int×Value)} {p1 p2 p3:Nat} {t1 t2 t3:adK} (h1:SetI s.heap a e1 p1 t1) (h2:SetI s.heap b e2 p2 t2) (h3:SetI s.heap c e3 p3 t3) {Q:Bool->aaj->Prop} (hq:Q true s):
  wpAny (model prog w) A (setsQuiet [a,b,c]) Q E s:=by
 unfold setsQuiet setEntries;simp only [List.forIn_cons,List.forIn_nil,bind_assoc,pure_bind];refine aab (h1.state ?_);refine aab (Q3 h1.el (fun _ _ _=>rfl) ?_);dsimp only;simp only [pure_bind,bind_assoc];refine aab (h2.state ?_);refine aab (Q3 h2.el (fun _ _ _=>rfl) ?_);dsimp only;simp only [pure_bind,bind_assoc];refine aab (h3.state ?_);refine aab (Q3 h3.el (fun _ _ _=>rfl) ?_);dsimp only;simp only [pure_bind,bind_assoc];exact aak hq
theorem kY {α:Type} (next:Nat->Nat): ∀(fuel k:Nat) (left:List α) (out:Array α) (x:α),x∈(pickOrder.go next fuel k left out).toList->x∈left\/x∈out.toList
 |0,_,_,out,x,h=> .inr h
 |fuel+1,k,left,out,x,h=>by
  unfold pickOrder.go at h
  split at h
  · rename_i y e;rcases kY next fuel (k+1) _ _ x h with z|z
    · exact .inl (List.mem_of_mem_eraseIdx z)
    · rw [Array.toList_push,aaL] at z;rcases z with z|z
      · exact .inr z
      · rw [List.mem_singleton] at z;subst z;exact .inl (aaZ e)
  · exact .inr h
theorem jaw {α:Type} {next:Nat->Nat} {xs:Array α} {x:α} (h:x∈(pickOrder next xs).toList):x∈xs.toList:=by
 rcases kY next _ _ _ _ x h with z|z
 · exact z
 · simp at z
theorem Xu {a:Addr} {ea:Array (Int×Value)} {pa:Nat} {ta:adK} (hA:SetI s.heap a ea pa ta) (hc:w.params.followText "set-order" =true\/((!ta.plain&&decide (ea.size>1))=false/\(!ta.led&&decide (ea.size>1))=false)) {Q:Array (Int×Value)->aaj->Prop}
  (h: ∀ws:Array (Int×Value),(∀e∈ws.toList,e∈ea.toList)->Q ws s):wpAny (model prog w) A (setWalk a) Q E s:=by
 unfold setWalk setsByText;refine aab (hA.state ?_);dsimp only;simp only [bind_assoc,pure_bind];refine aab (wpAny_askSetting ?_);dsimp only
 cases ht:(model prog w).w.params.followText "set-order" with
 |true=>
  simp only [if_true];refine aab (wpAny_askSetting (aak (h _ fun e he=>jaw he)))
 |false=>
  simp only [aaN,if_false];rcases hc with hc| ⟨h1,h2⟩
  · rw [show (model prog w).w.params.followText "set-order" =w.params.followText "set-order" from rfl,hc] at ht;cases ht
  · show wpAny _ _ (if (!ta.plain&&decide (ea.size>1))=true then _ else _) _ _ _;rw [h1];simp only [aaN,if_false];show wpAny _ _ ((if (!ta.led&&decide (ea.size>1))=true then unsupported "set:maker-not-led" else pure ())>>=fun _=>pure ea) _ _ _;rw [h2];simp only [aaN,if_false,pure_bind];exact aak (h _ fun _ z=>z)
theorem SetI.keep {h h':Heap} {a:Addr} {es:Array (Int×Value)} {ep:Nat} {t:adK} (x:SetI h a es ep t) (k: ∀o,h.get? a=some o->h'.get? a=some o):SetI h' a es ep t:=
 let ⟨o,h1,h2⟩:=x.ex
 ⟨⟨o,k o h1,h2⟩,x.el,x.bd,x.ft⟩
theorem QP {a o f:Addr} {ea eo:Array (Int×Value)} {pa po pf:Nat} {ta to_ tf:adK} (hA:SetI s.heap a ea pa ta) (hO:SetI s.heap o eo po to_) (hF:SetI s.heap f #[] pf tf) {Q:Array (Int×Value)->aaj->Prop}
   (h: ∀(ws:Array (Int×Value)) (h':Heap),(∀e∈ws.toList,e∈ea.toList)->(∀b ob,b≠f->s.heap.get? b=some ob->h'.get? b=some ob)->(∃pf' tf',SetI h' f #[] pf' tf')->Q ws {s with heap:=h'}):
   wpAny (model prog w) A (setWalkUnseen a [o,f] (some f)) Q E s:=by
 unfold setWalkUnseen setsByText;refine aab (hA.state ?_);dsimp only;simp only [bind_assoc,pure_bind];refine aab (wpAny_askSetting ?_);dsimp only;have fin: ∀ws:Array (Int×Value),(∀e∈ws.toList,e∈ea.toList)->Q ws s:=fun ws z=>h ws s.heap z (fun _ _ _ e=>e) ⟨_,_,hF⟩
 by_cases hc:((model prog w).w.params.followText "set-order" ||ta.led&&ta.plain||decide (ea.size<=1))=true
 · rw [if_pos hc];refine Xu hA ?_ fun ws hw=>fin ws hw
   simp only [Bool.or_eq_true,aap,decide_eq_true_eq] at hc;rcases hc with (hc| ⟨h1,h2⟩)|hc
   · exact .inl hc
   · exact .inr ⟨by simp [h2],by simp [h1]⟩
   · have: ¬(ea.size>1):=by omega
     exact .inr ⟨by simp [this],by simp [this]⟩
 · rw [if_neg hc];refine aab (Uu hA hO hF ?_);simp only [abE,aaN,if_false];refine aab (ado ?_);refine aab (hF.state ?_);dsimp only
   split
   · obtain ⟨ob,ho,hx,hd⟩:=hF.ex;refine aab (wpAny_storeSet_of ho hd ?_ (by simp));refine aak (h ea _ (fun _ z=>z) (fun b ob hb e=>Heap.get?_update_of_ne _ (acF hb) e) ?_)
     have hft:({tf with led:=tf.led&&ta.led,plain:=tf.plain&&ta.plain}:adK).fits (#[]:Array (Int×Value)).size=true:=by
      have:=hF.ft;cases tf;exact this
     obtain ⟨g1,_⟩:=SetOf_store (knd:=acu prog w) (S':=fun _=>false) ho hx hd (es':= #[]) (t':={tf with led:=tf.led&&ta.led,plain:=tf.plain&&ta.plain}) (fun e he=>by simp at he) (fun k=>by simp) (by decide) hft;exact ⟨_,_,⟨⟨_,g1,hx,rfl⟩,fun e he=>by simp at he,by decide,hft⟩⟩
   · exact aak (fin _ fun _ z=>z)
theorem Wd (k:Int) (tk:Tok):(acu prog w).is k (.int k tk)=true:=by
 with_unfolding_all exact (beq_self_eq_true k)
theorem u4 {a:Addr} (hT:s.TypeIs (.ref a) "set") {Q:Bool->aaj->Prop} (h:Q true s):wpAny (model prog w) A (abQ (.ref a)) Q E s:=by
 unfold abQ;unfold orM;refine aab (adf hT F.sub_set_set ?_);exact aak h
theorem Zz {id:String} {a o:Addr} {SA SO:Int->Bool} {na no:Nat} (hA:s.heap.SetOf (acu prog w) a SA na) (hO:s.heap.SetOf (acu prog w) o SO no) (hs: ∀k,SA k=true->SO k=true) (hn: ¬na/4>no) {Q:Value->aaj->Prop}
   (h: ∀(h':Heap),(∀b ob,b<s.heap.objs.size->s.heap.get? b=some ob->h'.get? b=some ob)->(∃pf' tf',SetI h' s.heap.objs.size #[] pf' tf')->Q (.ref s.heap.objs.size) {s with heap:=h'}):
   wpAny (model prog w) A (aci id a (.ref o)) Q E s:=by
 have tA:s.TypeIs (.ref a) "set" :=hA.typeIs;have tO:s.TypeIs (.ref o) "set" :=hO.typeIs;obtain ⟨ea,pa,ta,iA,rfl,mA⟩:=SetI.of hA;obtain ⟨eo,po,to_,iO,rfl,mO⟩:=SetI.of hO;unfold aci Builtin.Frozenset.sizeOf acN setEntries Builtin.Frozenset.baseOf setEpoch;dsimp only;refine aab (u4 tO ?_);simp only [abE,aaN,if_false,pure_bind,bind_assoc,Bool.false_and,if_true];refine aab (iO.state ?_);refine aab (iA.state ?_);dsimp only;rw [if_neg hn];refine aab (adf tA F.sub_set_set ?_);simp only [if_true];refine aab (wpAny_newSet_of (knd:=acu prog w) fun led hS=>?_);simp only [pure_bind];obtain ⟨er,pr,tr,iR,hz,_⟩:=SetI.of hS;have her:er= #[]:=Array.eq_empty_of_size_eq_zero hz;subst her;have kp: ∀b ob,s.heap.get? b=some ob->(s.heap.push {cls:= .type "set",dict:=none,data:= .set #[] 0 (.fresh 0 0 led)}).get? b=some ob:=fun b ob e=>aac _ e
 have iA1:=iA.keep (kp a);have iO1:=iO.keep (kp o);have lA:a<s.heap.objs.size:=let ⟨_,e,_⟩:=iA.ex;aat e;have lO:o<s.heap.objs.size:=let ⟨_,e,_⟩:=iO.ex;aat e;refine aab (iA1.state ?_);refine aab (ab8 ?_);refine aab (QP iA1 iO1 iR fun ws h' hw hk ⟨pf',tf',iF⟩=>?_);have iA2:=iA1.keep (h':=h') fun ob e=>hk _ _ (aaG lA) e
 have hO2:h'.SetOf (acu prog w) o SO eo.size:=by
   obtain ⟨ob,es,ep,t,ho,hx,hd,rest⟩:=hO;exact ⟨ob,es,ep,t,hk _ _ (aaG lO) (kp _ _ ho),hx,hd,rest⟩
 have hQ:=h h' (fun b ob hb e=>hk b ob (aaG hb) (kp b ob e)) ⟨pf',tf',iF⟩;refine aab (adA _ (fun rest b s'=>s'={s with heap:=h'}/\ ∀e∈rest,e∈ea.toList) _ ?_ ?_ ws _ ⟨rfl,hw⟩)
 · rintro ⟨hh,x⟩ rest b s' ⟨rfl,hm⟩;have hme:=hm _ aa1;obtain ⟨k,tk,e1,e2⟩:=iA.el _ hme;dsimp only at e1 e2;subst e1;subst e2;refine aab (ab8 ?_);have hSO:SO k=true:=hs k ((mA k).mpr ⟨_,hme,Wd (prog:=prog) (w:=w) k tk⟩);refine aab (wpAny_setFind_of (knd:=acu prog w) (k:=k) (Wd (prog:=prog) (w:=w) k tk) rfl hO2 fun r hr=>?_);rw [hr,hSO];simp only [pure_bind,abE,aaN,if_false];refine aak ?_;unfold Builtin.Frozenset.unchanged setEpoch;simp only [bind_assoc,pure_bind];refine aab (iA2.state ?_);dsimp only;simp only [bne_self_eq_false,aaN,if_false,pure_bind];exact aak ⟨rfl,fun e he=>hm e (aaI _ he)⟩
 · rintro b s' ⟨rfl,_⟩;exact aak (aak hQ)
theorem W8:entryFor table "set.__sub__" =some adv.«frozenset.__sub__» :=
 entryFor_alias (id':= "frozenset.__sub__") (by kernel_rfl) rfl (by decide+kernel) (by kernel_rfl)
theorem jaf {a o:Addr} {SA SO:Int->Bool} {na no:Nat} (hA:s.heap.SetOf (acu prog w) a SA na) (hO:s.heap.SetOf (acu prog w) o SO no) (hs: ∀k,SA k=true->SO k=true) (hn: ¬na/4>no) {Q:Value->aaj->Prop}
  (h: ∀(h':Heap),(∀b ob,b<s.heap.objs.size->s.heap.get? b=some ob->h'.get? b=some ob)->(∃pf' tf',SetI h' s.heap.objs.size #[] pf' tf')->Q (.ref s.heap.objs.size) {s with heap:=h'}):
  wpAny (model prog w) A (abG .Sub (.ref a) (.ref o)) Q E s:=by
 refine wpAny_binaryOp_same (op:= .Sub) hA.typeIs hO.typeIs F.fills_set_sub F.slot_set_sub (aba F.slot_set_sub hA.typeIs W8 ?_ (F.args_set_sub_2 _ _))
 show wpAny _ _ (do
  let (self,other)←ad3 "__sub__" ⟨[.ref a,.ref o],[]⟩
  let (l,r):=(self,other)
  if !(←abQ l<&&>abQ r) then rule s!"frozenset.{"__sub__"}.declined";return←ret .notImplemented
  ret (←aci s!"frozenset.{"__sub__"}" (←acN l) r)) _ _ _
 unfold ad3 slotArgs;simp only [List.isEmpty_nil,abE,aaN,if_false,bind_assoc,aad,aas,bne_self_eq_false,pure_bind];unfold andM;simp only [bind_assoc];refine aab (u4 hA.typeIs ?_);dsimp only [ToBool.toBool];refine aab (u4 hO.typeIs ?_);simp only [abE,aaN,if_false];unfold acN;simp only [pure_bind];refine aab (Zz hA hO hs hn fun h' hk hi=>?_);exact aak ⟨_,rfl,by simp,h h' hk hi⟩
end
theorem SetI.setOf {prog:aaD} {w:World} {h:Heap} {a:Addr} {pf:Nat} {tf:adK} (x:SetI h a #[] pf tf):h.SetOf (acu prog w) a (fun _=>false) 0:=by
 obtain ⟨o,h1,h2,h3⟩:=x.ex;exact ⟨o, #[],pf,tf,h1,h2,h3,fun e he=>by simp at he,fun k=>by simp,by decide,x.ft,rfl⟩
def dd (ns:List Int):List Int:=firstMet (fun i=>ns.getD i 0) ns.length
theorem jfW (ns:List Int) (k:Int):(dd ns).any (· ==k)=ns.any (· ==k):=by
 unfold dd;rw [firstMet_any];congr 1;apply List.ext_getElem
 · simp
 · intro i h1 h2;simp [aag h2]
section
variable {X:Cx}
theorem Vm: ∀ {is:List Int} {us:List Value},Vals (is.map V.int) us->IntsAre us is
 | [],_,.nil=> .nil
 |i::is,_,.cons h t=>by
  obtain ⟨k,rfl⟩:=h;exact .cons i k (Vm t)
theorem Ye (hc:X.calm=true):CallR X (.type "set") (fun xs H Q=> ∃(p:Addr) (is:List Int),xs=[.ref p]/\SqL X.K H p (is.map V.int)/\is.length+1<adz/\ ∀l,H l=none->Q (.ref l) (upd H l (.set (fun k=>is.any (· ==k)) (dd is).length))):=by
 intro pins s σ H xs us Q I r ⟨p,is,ex,hq,hz,q⟩;subst ex;obtain ⟨u,rfl,ru⟩:=QQ r;cases ru;obtain ⟨its,rv,pl,_⟩:=I.list hq;obtain ⟨v1,v2⟩:=KH rv;refine call_set_list (ns:=is) (I.ok.hd hc) pl.isList (by simpa using Vm rv) (by simp only [aaf];rw [v1];exact hz) fun h' tk hS hk=>?_
 have hl:H s.heap.objs.size=none:=I.hok.fresh (aai _)
 have hS':h'.SetOf (acu X.prog X.w) s.heap.objs.size (fun k=>is.any (· ==k)) (dd is).length:=by
  refine SetOf_congr hS (fun k=>?_) ?_
  · simp only [aaf,v1];exact jfW is k
  · simp only [aaf,v1];rfl
 exact ⟨.ref s.heap.objs.size,_,I.laid (t':=tk) (fun b o e=>hk b o (aat e) e) (aai _) (show ObjOk X.prog X.w _ h' _ (.set _ _) from hS'),rfl,q _ hl⟩
theorem jcW:OpR X (abG .Sub) (fun x y H Q=> ∃a b S n S' n',x= .ref a/\y= .ref b/\H a=some (.set S n)/\H b=some (.set S' n')/\(∀k,S k=true->S' k=true)/\ ¬n/4>n'/\ ∀l,H l=none->Q (.ref l) (upd H l (.set (fun _=>false) 0))):=by
 intro pins s σ H x y v u Q I rx ry ⟨a,b,S,n,S',n',ex,ey,ha,hb,hs,hn,q⟩;subst ex;subst ey;cases rx;cases ry;have hA:s.heap.SetOf (acu X.prog X.w) a S n:=I.hok a _ ha;have hB:s.heap.SetOf (acu X.prog X.w) b S' n':=I.hok b _ hb;refine jaf hA hB hs hn fun h' hk ⟨pf,tf,hi⟩=>?_
 have hl:H s.heap.objs.size=none:=I.hok.fresh (aai _);exact ⟨.ref s.heap.objs.size,_,I.laid (t':=s.toks) (fun b o e=>hk b o (aat e) e) (aai _) (show ObjOk X.prog X.w _ h' _ (.set _ _) from hi.setOf),rfl,q _ hl⟩
theorem uX:CallR X (.builtin "len") (fun xs H Q=> ∃a S n,xs=[.ref a]/\H a=some (.set S n)/\Q (.int n) H):=by
 intro pins s σ H xs us Q I r ⟨a,S,n,ex,ha,q⟩;subst ex;obtain ⟨u,rfl,ru⟩:=QQ r;cases ru;have hA:s.heap.SetOf (acu X.prog X.w) a S n:=I.hok a _ ha;obtain ⟨o,es,ep,t,ho,hx,hd,hel,hm,hb,hf,hn⟩:=hA;subst hn;have h1:adz=4096:=rfl;exact call_len_set ho hx hd hf (by rw [h1] at hb;omega) ⟨.int es.size,H,I.tok _,⟨_,rfl⟩,q⟩
def subL (a b:D):Res D:=match a,b with
 | .lst x,.lst y=>match Zp x,Zp y with
  |some u,some v=>must (u.length+1<adz/\v.length+1<adz/\(∀i∈u,i∈v)/\ ¬(dd u).length/4>(dd v).length) (.ok (.int 0))
  |_,_=> .stuck
 |_,_=> .stuck
theorem jag {a b d:D} (h:subL a b= .ok d): ∃u v:List Int,a= .lst (u.map D.int)/\b= .lst (v.map D.int)/\(u.length+1<adz/\v.length+1<adz/\(∀i∈u,i∈v)/\ ¬(dd u).length/4>(dd v).length)/\d= .int 0:=by
 unfold subL at h
 split at h
 · rename_i x y
   split at h
   · rename_i u v e1 e2;obtain ⟨h1,h2⟩:=jp h;cases h2;exact ⟨u,v,by rw [J6 e1],by rw [J6 e2],h1,rfl⟩
   · cases h
 · cases h
variable {l1 l2:Lv} {e1 e2:Expr} {f1 f2:Sl->Res D} {p1 p2 p3 q1 q2 q3 pos:Pos}
theorem uI (hc:X.calm=true) (h1:DE X l1 e1 f1) (h2:DE X l2 e2 f2) (hgl:Gl X "len") (hml:X.mg "len" =none) (hgs:Gl X "set") (hms:X.mg "set" =none)
   (he0:aal [.BinOp (.Call (.Name "set" p1) [e1] [] q1) .Sub (.Call (.Name "set" p2) [e2] [] q2) pos] X.env=(false,eval (.BinOp (.Call (.Name "set" p1) [e1] [] q1) .Sub (.Call (.Name "set" p2) [e2] [] q2) pos) X.env)::aal [] X.env:=by exact jl rfl)
   (he1:aal [e1] X.env=(false,eval e1 X.env)::aal [] X.env:=by exact jl rfl) (he2:aal [e2] X.env=(false,eval e2 X.env)::aal [] X.env:=by exact jl rfl):
   DE X .b (.Call (.Name "len" p3) [.BinOp (.Call (.Name "set" p1) [e1] [] q1) .Sub (.Call (.Name "set" p2) [e2] [] q2) pos] [] q3) (two f1 f2 subL):=by
 with_unfolding_all exact (
  PE.imp (QB uX hgl hml rfl (j8 (jcP jcW (Q5 (Ye hc) hgs hms rfl (j8 h1 wv he1) (by decide) (by decide) he1 rfl) (Q5 (Ye hc) hgs hms rfl (j8 h2 wv he2) (by decide) (by decide) he2 rfl)) wv he0) (by decide) (by decide) he0 rfl) fun σ H Q ⟨G,H0,env,d,k,ef,q⟩=>by
   obtain ⟨a,c1,ef⟩:=jc ef;obtain ⟨b,c2,c3⟩:=jc ef;obtain ⟨u,v,rfl,rfl,⟨z1,z2,z3,z4⟩,rfl⟩:=jag c3;refine ⟨G,H0,env,_,k,c1,fun x1 H1 s1 r1 _=>?_⟩;obtain ⟨p,xs,rfl,hp,_,rs⟩:=(r1.weak (A':=Any) Lv.weak_b).lstE;have ex:=Q2 rs;subst ex;refine ⟨p,u,rfl,.inl (.inl hp),z1,fun l hl=>?_⟩;have S1:=Same.upd (o:=HO.set (fun k=>u.any (· ==k)) (dd u).length) hl;refine ⟨G,H0,env,_,(k.grow s1).grow S1,c2,fun x2 H2 s2 r2 _=>?_⟩;obtain ⟨p',xs,rfl,hp',_,rs'⟩:=(r2.weak (A':=Any) Lv.weak_b).lstE;have ex:=Q2 rs';subst ex;refine ⟨p',v,rfl,.inl (.inl hp'),z2,fun l' hl'=>?_⟩;have S2:=Same.upd (o:=HO.set (fun k=>v.any (· ==k)) (dd v).length) hl';refine ⟨l,l',_,_,_,_,rfl,rfl,S2 _ _ (s2 _ _ jB),jB,fun k hk=>?_,z4,fun l2 hl2=>?_⟩
   · obtain ⟨i,hi,e⟩:=List.any_eq_true.mp hk;exact List.any_eq_true.mpr ⟨i,z3 i hi,e⟩
   · have S3:=Same.upd (o:=HO.set (fun _=>false) 0) hl2
     exact ⟨l2,_,0,rfl,jB,q _ _ (s1.trans (S1.trans (s2.trans (S2.trans S3)))) (.int 0) trivial⟩)
end
end M
namespace M
open PySem PySem.Spec L2
open PyProof.Rows hiding St
structure ZipAtL (h:Heap) (z TI TO i1 i2 l1 l2:Addr) (k1 k2:Nat) (f0:Value):Prop where
 hz:IsZip h z TI TO f0
 ti:aee h TI (.ref i1) (.ref i2)
 to: ∃a b,aee h TO a b
 h1:h.IsListIter i1 l1 k1
 h2:h.IsListIter i2 l2 k2
def ItZL (K:aaa) (a1 a2:Addr) (xs ys:List V):It:=⟨fun i H=>(SqL K H a1 xs/\SqL K H a2 ys)/\i<xs.length/\i<ys.length,fun i H v H'=> ∃p x y,H p=none/\xs[i]?=some x/\ys[i]?=some y/\v= .ref p/\H'=upd H p (.tup [x,y]),fun i H=>(SqL K H a1 xs/\SqL K H a2 ys)/\(xs.length<=i\/ys.length<=i)⟩
theorem U9 {P:aaD} {w:World} {K:aaa} {elts:List Expr} {n:Nat} {pos:Pos} {z TI TO i1 i2 a1 a2:Addr} (xs ys:List V) (D:ZipApart z TI TO i1 i2 a1 a2):
  Turn P w K (.Tuple elts n pos) (ItZL K a1 a2 xs ys) [z,TI,TO,i1,i2] z (fun i h=>ZipAtL h z TI TO i1 i2 a1 a2 i i .none) where
 mem:=by simp
 obj:=fun i h st b hb=>by
  obtain ⟨hz,ti,⟨x,y,to⟩,⟨o1,e1,c1,d1⟩,o2,e2,c2,d2⟩:=st;simp only [aah,aaq,or_false] at hb;rcases hb with rfl|rfl|rfl|rfl|rfl
  · exact ⟨_,hz,fun v q=>by cases q⟩
  · exact ⟨_,ti,fun v q=>by cases q⟩
  · exact ⟨_,to,fun v q=>by cases q⟩
  · exact ⟨o1,e1,fun v q=>by rw [d1] at q;cases q⟩
  · exact ⟨o2,e2,fun v q=>by rw [d2] at q;cases q⟩
 keep:=fun i h h' st k=>by
  obtain ⟨hz,ti,⟨x,y,to⟩,q1,q2⟩:=st;exact ⟨k z (by simp) _ hz,k TI (by simp) _ ti,⟨x,y,k TO (by simp) _ to⟩,q1.at fun o e=>k i1 (by simp) o e,q2.at fun o e=>k i2 (by simp) o e⟩
 item:=by
  intro X hP hw hK hc i pins s σ H E I hf st hg;subst hP hw hK;obtain ⟨⟨hq1,hq2⟩,g1,g2⟩:=hg;obtain ⟨its1,rv1,p1,_⟩:=I.list hq1;obtain ⟨its2,rv2,p2,_⟩:=I.list hq2;have hx:xs[i]?=some xs[i]:=aag g1;have hy:ys[i]?=some ys[i]:=aag g2;obtain ⟨u,hu,ru⟩:=rv1.get hx;obtain ⟨v,hv,rv⟩:=rv2.get hy;obtain ⟨za,zb,zto⟩:=st.to;refine wpAny_pyNext_zip_item D st.hz st.ti zto st.h1 st.h2 p1.isList p2.isList (x:=u) (y:=v) (by simpa using hu) (by simpa using hv) fun h' a1' a2' a3' a4' hT _ hk=>?_
  have Z':ZipAtL h' z TI TO i1 i2 a1 a2 (i+1) (i+1) (adV s.heap.objs.size):=⟨a1',hk _ _ D.TIz D.TITO D.TIi1 D.TIi2 st.ti,⟨_,_,a2'⟩,a3',a4'⟩
  refine ⟨_,rfl,wpAny_letOwnedTupleGo_zip Z'.hz fun h'' hz'' hs''=>?_⟩;have lt: ∀ {c o},s.heap.get? c=some o->c<s.heap.objs.size:=fun e=>aat e
  have flt: ∀c∈[z,TI,TO,i1,i2],c<s.heap.objs.size:=fun c hc=>by
    obtain ⟨hz,ti,⟨_,_,to⟩,⟨_,e1,_⟩,_,e2,_⟩:=st;simp only [aah,aaq,or_false] at hc;rcases hc with rfl|rfl|rfl|rfl|rfl
    · exact lt hz
    · exact lt ti
    · exact lt to
    · exact lt e1
    · exact lt e2
  have hfr:H s.heap.objs.size=none:=I.hok.fresh (aai _)
  have I1:Inv X pins σ (upd H s.heap.objs.size (.tup [xs[i],ys[i]])) {s with heap:=s.heap.push {cls:= .type "tuple",data:= .seq #[u,v]}}:=
    I.laid (t':=s.toks) (fun b o e=>aac _ e) (aai _) ⟨aaC (show 2<=20 by decide) (by decide),[u,v],.cons ru (.cons rv .nil),⟨_,aam _ rfl,rfl,_,rfl⟩⟩
  have f1: ∀b∈[z,TI,TO,i1,i2],FpOk X pins (upd H s.heap.objs.size (.tup [xs[i],ys[i]])) b:=fun b hb=>⟨by rw [jT (aaG (flt b hb))];exact (hf b hb).1,(hf b hb).2⟩
  have I2:=xr (t':=s.toks) (h':=h'') I1 (fun b o hb eo=>by
    have hbz:b≠z:=fun e=>hb (by simp [e])
    refine (hs''.2 b hbz).trans ?_
    by_cases hbs:b=s.heap.objs.size
    · subst hbs;rw [aam _ rfl] at eo;rw [←eo];exact hT
    · have eo':s.heap.get? b=some o:=by
       rcases acv eo with ⟨q,_⟩|q
       · exact absurd q hbs
       · exact q
      exact hk b o hbz (fun e=>hb (by simp [e])) (fun e=>hb (by simp [e])) (fun e=>hb (by simp [e])) eo') f1
  obtain ⟨_,ti',⟨q1,q2,to'⟩,w1,w2⟩:=Z';exact ⟨.ref s.heap.objs.size,_,I2,rfl,⟨_,_,_,hfr,hx,hy,rfl,rfl⟩,⟨hz'',hs''.extBut _ _ D.TIz ti',⟨q1,q2,hs''.extBut _ _ D.TOz to'⟩,w1.extBut hs''.extBut D.i1z,w2.extBut hs''.extBut D.i2z⟩,fun b hb=>(f1 b hb).1⟩
 done:=by
  intro X hP hw hK hc i pins s σ H E I hf st hg;subst hP hw hK;obtain ⟨⟨hq1,hq2⟩,g⟩:=hg;obtain ⟨its1,rv1,p1,_⟩:=I.list hq1;obtain ⟨its2,rv2,p2,_⟩:=I.list hq2;have hl1:=rv1.length;have hl2:=rv2.length;obtain ⟨za,zb,zto⟩:=st.to;refine wpAny_pyNext_zip_end (I.ok.hd hc) D st.hz st.ti zto st.h1 st.h2 p1.isList p2.isList (g.imp (fun g=>by simp;omega) fun g=>by simp;omega) fun h' hk=>⟨rfl,xr (t':=s.toks) I (fun b o hb eo=>hk b o (fun e=>hb (by simp [e])) (fun e=>hb (by simp [e])) (fun e=>hb (by simp [e])) (fun e=>hb (by simp [e])) eo) hf⟩
 self:=fun _ _ _ _ _ st h=>adg st.hz h
section
variable {X:Cx} {elts:List Expr} {n:Nat} {tpos p pos:Pos} {e1 e2:Expr} {f1 f2:Sl->Res D}
def Ud (f1 f2:Sl->Res D):Sl->Res (List D):=fun env=>f1 env>>=fun d=>f2 env>>=fun e=>match d,e with
 | .lst xs,.lst ys=> .ok (qR xs ys)
 |_,_=> .stuck
theorem jdH (hg : Gl X "zip") (hm : X.mg "zip" = none) (h1 : DE X .s e1 f1) (h2 : DE X .s e2 f2) (hs : aal [e1, e2] X.env = (false, eval e1 X.env) :: aal [e2] X.env := by exact jl rfl) (hs2 : aal [e2] X.env = (false, eval e2 X.env) :: aal [] X.env := by exact jl rfl)
    (hpl : (abd pos (aal [e2] X.env)).any (·.1) = false := by exact jK rfl) : DI X (.Tuple elts n tpos) (.Call (.Name "zip" p) [e1, e2] [] pos) (Ud f1 f2) := by
  have hE1 : PE X e1 (tE X.K .s f1) := by with_unfolding_all exact h1
  have hE2 : PE X e2 (tE X.K .s f2) := by with_unfolding_all exact h2
  with_unfolding_all exact (show PI X (.Tuple elts n tpos) (.Call (.Name "zip" p) [e1, e2] [] pos) (tI X.K (Ud f1 f2)) from by
    intro pins s σ H R I ⟨G, H0, env, ds, k, ef, q⟩
    obtain ⟨d1, c1, ef⟩ := jc ef
    obtain ⟨d2, c2, ef⟩ := jc ef
    have hA := j8 hE1 (j8 hE2 wv hs2) hs
    refine Call_ (Jq I hg hm Yg (aa0 (thn (hA pos pins s σ H (fun vs H2 => ∃ v1 v2, vs = [v1, v2] /\ Same H H2 /\ Rep X.K (Sf G env σ) H2 v1 d1 /\ Rep X.K (Sf G env σ) H2 v2 d2) I ⟨G, H0, env, d1, k, c1, fun v1 H1 s1 r1 _ => ⟨G, H0, env, d2, k.grow s1, c2, fun v2 H2 s2 r2 _ => ⟨v1, v2, rfl, s1.trans s2, r1.grow s2, r2⟩⟩⟩) fun us s1 ⟨vs, H1, I1, r1, v1, v2, ev, sm, rp1, rp2⟩ => ?_) hs hpl))
    subst ev
    obtain ⟨u1, u2, rfl, ru1, ru2⟩ := jae r1
    have k1 := k.grow sm
    split at ef
    · rename_i es1 es2
      cases ef
      obtain ⟨a1, xs, rfl, ha1, w1, rs1⟩ := rp1.lstE
      obtain ⟨a2, ys, rfl, ha2, w2, rs2⟩ := rp2.lstE
      cases ru1
      cases ru2
      obtain ⟨its1, rv1, p1, _⟩ := I1.list (.of ha1)
      obtain ⟨its2, rv2, p2, _⟩ := I1.list (.of ha2)
      have lt1 : a1 < s1.heap.objs.size := by obtain ⟨o, _, ho, _⟩ := p1; exact aat ho
      have lt2 : a2 < s1.heap.objs.size := by obtain ⟨o, _, ho, _⟩ := p2; exact aat ho
      refine call_zip_2 p1.isList p2.isList fun h' z1 z2 z3 z4 z5 _ hk => ?_
      have Z : ZipAtL h' (s1.heap.objs.size + 4) (s1.heap.objs.size + 2) (s1.heap.objs.size + 3) s1.heap.objs.size (s1.heap.objs.size + 1) a1 a2 0 0 .none := ⟨z1, z2, ⟨_, _, z3⟩, z4, z5⟩
      refine adg Z.hz ?_
      have I2 : Inv X pins σ H1 { s1 with heap := h' } := I1.kept (t' := s1.toks) hk
      refine ⟨s1.heap.objs.size + 4, [s1.heap.objs.size + 4, s1.heap.objs.size + 2, s1.heap.objs.size + 3, s1.heap.objs.size, s1.heap.objs.size + 1], _, _, H1, rfl, I2, U9 xs ys (adS lt1 lt2), Z, fun b hb => ?_, ?_⟩
      · have hb' : s1.heap.objs.size <= b := by
          simp only [aah, aaq, or_false] at hb
          rcases hb with rfl | rfl | rfl | rfl | rfl <;> first | exact Nat.le_add_right _ _ | exact aai _
        exact I1.fpOk hb' (I1.hok.fresh hb')
      · refine q _ H1 (fun H => H a1 = some (.lst xs) /\ H a2 = some (.lst ys)) sm (fun i H' pp => ?_) ⟨ha1, ha2⟩ fun env' σ' H' fr => ⟨fr.keep a1 _ ha1 fun ow => w1.1 ow, fr.keep a2 _ ha2 fun ow => w2.1 ow⟩
        have hl1 := rs1.length
        have hl2 := rs2.length
        have hq : SqL X.K H' a1 xs /\ SqL X.K H' a2 ys := ⟨.of pp.1, .of pp.2⟩
        rw [J1]
        refine ⟨fun hi => ⟨hq, by omega, by omega⟩, fun d hd x H2 y => ?_, fun hi => ⟨hq, by omega⟩⟩
        obtain ⟨p, x', y', hp, hx', hy', rfl, rfl⟩ := y
        obtain ⟨dx, dy, hdx, hdy, rfl⟩ := J2 _ _ _ _ hd
        obtain ⟨d', hd', rd⟩ := rs1.get' hx'
        obtain ⟨d'', hd'', rd'⟩ := rs2.get' hy'
        rw [hdx] at hd'; cases hd'
        rw [hdy] at hd''; cases hd''
        exact .inr ⟨p, _, _, hp, rfl, rfl, rfl, .cons (rd.weak fun _ z => z.1) (.cons (rd'.weak fun _ z => z.1) .nil)⟩
    · cases ef)
end
end M
namespace M
open PySem PySem.Spec L2
open PyProof.Rows hiding St
theorem fsc {N P:List Str} {sc:Scope} (h1:sc.kind= .function:=by rfl) (h2:sc.isCoroutine=false:=by rfl) (h3:sc.isGenerator=false:=by rfl) (h4:N.Nodup:=by decide+kernel) (h5:N.take P.length=P:=by rfl) (h6: ∀x∈P,sc.names.lookup x=some .local\/sc.names.lookup x=some .cell:=by decide+kernel) (h7: ∀y∈sc.names,y.2≠ .free:=by decide+kernel):FnScope N P sc:=⟨h1,h2,h3,h4,h5,h6,h7⟩
def Dx (K:aaa) (mg:Str->Option Value) (x:Str) (st:Stmt) (ps:List Str):Prop:= ∃f fd,Fun K x x st f fd/\mg x=some (.ref f)/\Binds K fd ps []
def LkF (K:aaa) (p:Addr) (x q:Str) (st:Stmt):Prop:= ∃(oc:Value) (od an:Option Addr) (osl:Array (Option Value)) (kV doc pm cdv ct:Value),
 K.lookup p=some ⟨oc,od,.func (abV x q (yg st) (ql st) (jf st) .none kV doc pm an cdv ct),osl⟩/\ac2 K cdv q=true
def DefN (K:aaa) (x:Str) (st:Stmt):Prop:= ∃p:Addr,aax K aav x=some (some (.ref p))/\LkF K p x x st/\aaR K (.ref p)=true
def Dm (K:aaa) (C:Addr) (m q:Str) (st:Stmt) (ps:List Str):Prop:= ∃f fd,Fun K m q st f fd/\Meth K C m f/\Binds K fd ps []
def DefM (K:aaa) (C:Addr) (m q:Str) (st:Stmt):Prop:= ∃p:Addr,aa8 K (.ref C) m=some (some (.ref p))/\ad9 K (.ref p)=true/\LkF K p m q st/\aaR K (.ref p)=true
abbrev Tk (x q:Str) (st:Stmt) (us:List Value) (ps:List Str):Prop:= ∀(kV doc pm:Value) (an:Option Addr) (cdv ct:Value),bindArgs (abV x q (yg st) (ql st) (jf st) .none kV doc pm an cdv ct) ⟨us,[]⟩=pure (ps.zip us)
section
variable {K:aaa} {mg:Str->Option Value} {x q m:Str} {st:Stmt} {ps:List Str} {h:Heap} {C:Addr}
theorem LkF.fn {p:Addr} (l:LkF K p x q st) (k:aaR K (.ref p)=true) (hb: ∀us,us.length=ps.length->Tk x q st us ps): ∃fd,Fun K x q st p fd/\Binds K fd ps []:=by
 obtain ⟨oc,od,an,osl,kV,doc,pm,cdv,ct,l,c⟩:=l;have F:=jcf l c k;exact ⟨_,F,F.binds fun a b c d e f us hl=>hb us hl a b c d e f⟩
theorem DefN.dx (d:DefN K x st) (KX:K.In h) (G:h.Ns aav mg) (hb: ∀us,us.length=ps.length->Tk x x st us ps):Dx K mg x st ps:=by
 obtain ⟨p,a,l,k⟩:=d;obtain ⟨fd,F,B⟩:=l.fn k hb;exact ⟨p,fd,F,abD KX G a,B⟩
theorem DefM.dm (d:DefM K C m q st) (hb: ∀us,us.length=ps.length->Tk m q st us ps):Dm K C m q st ps:=by
 obtain ⟨p,a,i,l,k⟩:=d;obtain ⟨fd,F,B⟩:=l.fn k hb;exact ⟨p,fd,F,⟨a,i,k⟩,B⟩
theorem tk1 {x q:Str} {st:Stmt} {p:Str} (h: ∀a,Tk x q st [a] [p]:=by intro _ _ _ _ _ _ _;rfl): ∀us:List Value,us.length=[p].length->Tk x q st us [p]
 | [a],_=>h a
theorem tk2 {x q:Str} {st:Stmt} {p p2:Str} (h: ∀a b,Tk x q st [a,b] [p,p2]:=by intro _ _ _ _ _ _ _ _;rfl): ∀us:List Value,us.length=[p,p2].length->Tk x q st us [p,p2]
 | [a,b],_=>h a b
theorem tk3 {x q:Str} {st:Stmt} {p p2 p3:Str} (h: ∀a b c,Tk x q st [a,b,c] [p,p2,p3]:=by intro _ _ _ _ _ _ _ _ _;rfl): ∀us:List Value,us.length=[p,p2,p3].length->Tk x q st us [p,p2,p3]
 | [a,b,c],_=>h a b c
theorem tk4 {x q:Str} {st:Stmt} {p p2 p3 p4:Str} (h: ∀a b c d,Tk x q st [a,b,c,d] [p,p2,p3,p4]:=by intro _ _ _ _ _ _ _ _ _ _;rfl): ∀us:List Value,us.length=[p,p2,p3,p4].length->Tk x q st us [p,p2,p3,p4]
 | [a,b,c,d],_=>h a b c d
end
section
variable {P:aaD} {w:World} {K:aaa} {mg:Str->Option Value} {base:Heap}
theorem qP {x:Str} {st:Stmt} {N ps:List Str} {k:Nat} (fr:Bool) {g:Sl->Res Out} (d:Dx K mg x st ps) (S:FnScope N ps (jf st))
  (hb: ∀(f:Addr) (cdv:Value) (A:aaX) (outer:List Env) (s:aaj) (H:Hp) (E:XK),Room k (A.deeper (acR x (jf st) s.heap.objs.size f cdv))->DSs (cxOf CX0 P w K mg base N x (jf st) f cdv A outer s H E).nox (ql st) g):
  Av P w K mg base (k+1) x ps fr (runF fr N.length g):=by
 obtain ⟨f,fd,F,m,B⟩:=d;exact jg2 fr F m S B (hb f)
theorem jf4 {x:Str} {st:Stmt} {N ps:List Str} {k n:Nat} {g:Sl->Res OutI} (d:Dx K mg x st ps) (S:FnScope N ps (jf st)) (hn:ps.length=n+1) (hN:n+1<=N.length)
  (hb: ∀(f:Addr) (cdv:Value) (A:aaX) (outer:List Env) (s:aaj) (H:Hp) (E:XK),Room k (A.deeper (acR x (jf st) s.heap.objs.size f cdv))->DSsI (cxOf CX0 P w K mg base N x (jf st) f cdv A outer s H E).nox n (ql st) g):
  AvI P w K mg base (k+1) x ps n (runI N.length n g):=by
 obtain ⟨f,fd,F,m,B⟩:=d;exact jf5 F m S B hn hN (hb f)
theorem jct {c m q:Str} {st:Stmt} {C:Addr} {N ps:List Str} {k:Nat} (fr:Bool) {g:Sl->Res Out} (d:Dm K C m q st ps) (hC:aax K aav c=some (some (.ref C))/\Cls K C) (S:FnScope N ps (jf st))
  (hb: ∀(f:Addr) (cdv:Value) (A:aaX) (outer:List Env) (s:aaj) (H:Hp) (E:XK),Room k (A.deeper (acR q (jf st) s.heap.objs.size f cdv))->DSs (cxOf CX0 P w K mg base N q (jf st) f cdv A outer s H E).nox (ql st) g):
  AvM P w K mg base (k+1) c m ps fr (runF fr N.length g):=by
 obtain ⟨f,fd,F,m,B⟩:=d;exact jf1 fr F hC.1 hC.2 m S B (hb f)
theorem jf2 {c q:Str} {st:Stmt} {C:Addr} {N ps:List Str} {k n:Nat} {g:Sl->Res OutO} (d:Dm K C "__init__" q st ps) (hC:aax K aav c=some (some (.ref C))/\Cls K C) (hmg:mg c=some (.ref C)) (mk:acP K C=true/\aaR K (.ref C)=true) (S:FnScope N ps (jf st)) (hn:ps.length=n+1) (hN:n+1<=N.length)
  (hb: ∀(f:Addr) (cdv:Value) (A:aaX) (outer:List Env) (s:aaj) (H:Hp) (E:XK),Room k (A.deeper (acR q (jf st) s.heap.objs.size f cdv))->DSsO (cxOf CX0 P w K mg base N q (jf st) f cdv A outer s H E).nox 0 (ql st) g):
  AvK P w K mg base (k+1) c n (runJ N.length n g):=by
 obtain ⟨f,fd,F,m,B⟩:=d;exact jf3 F hC.1 hmg ⟨mk.1,m.at_,m.fn,mk.2⟩ S B hn hN (hb f)
theorem Xg {x:Str} {st:Stmt} {ps:List Str} {k:Nat} (fr:Bool) (d:Dx K mg x st ps):Av P w K mg base k x ps fr (fun _=> .stuck):=by
 obtain ⟨f,fd,F,m,B⟩:=d;exact jdT fr F m B
theorem jf6 {x:Str} {st:Stmt} {ps:List Str} {k n:Nat} (d:Dx K mg x st ps) (hn:ps.length=n+1):AvI P w K mg base k x ps n (fun _ _ _=> .stuck):=by
 obtain ⟨f,fd,F,m,B⟩:=d;exact jbN F m B hn
end
section
variable {X:Cx} {a b e:Expr} {f f1 f2:Sl->Res D} {pos:Pos} {x:Str}
theorem vb (i:Nat) {x:Str} (hN:X.N[i]?=some x:=by rfl) (hv:Vis X.env.scope x:=by first|exact abw rfl|exact aa4 (abw rfl)|exact aa4 (aa4 rfl)) (hd:(x==("__debug__" :Str))=false:=by decide) (hcd:(x==("__classdict__" :Str))=false:=by decide):DE X .b (.Name x pos) (rdS i):=DE.b (dv i hN hv hd hcd)
theorem ib {i:Int} {j}:DE X .b (.Constant (.int i) j pos) (cI i):=jco
theorem i_s {i:Int} {j}:DE X .s (.Constant (.int i) j pos) (cI i):=jco
theorem ob {op:ad2} {r:R2} {g:D->D->Res D} (ho:OpR X (abG op) r) (hr:OpS X.K r g) (ha:DE X .b a f1) (hb:DE X .b b f2):DE X .b (.BinOp a op b pos) (two f1 f2 g):=Kp ho hr ha hb
theorem o_s {op:ad2} {r:R2} {g:D->D->Res D} (ho:OpR X (abG op) r) (hr:OpS X.K r g) (ha:DE X .b a f1) (hb:DE X .b b f2):DE X .s (.BinOp a op b pos) (two f1 f2 g):=Kp ho hr ha hb
theorem J5 (ha:DE X .b a f1) (hb:DE X .b b f2):DE X .b (.BinOp a .Mod b pos) (two f1 f2 modI):=Kp xT xU ha hb
theorem ZR (ha:DE X .b a f1) (hb:DE X .b b f2):DE X .b (.BinOp a .Pow b pos) (two f1 f2 powI):=Kp K5 K6 ha hb
theorem Qu (ha:DE X .b a f1) (hb:DE X .b b f2):DE X .b (.BinOp a .FloorDiv b pos) (two f1 f2 divW):=Kp jaF jaJ ha hb
theorem gi {x:Str} {i:Int} (hg:Gl X x) (hm: ∃t,X.mg x=some (.int i t)) (hd:(x==("__debug__" :Str))=false:=by decide):DE X .b (.Name x pos) (cI i):=hm.elim fun _ h=>uM hg h hd
theorem gis {x:Str} {i:Int} (hg:Gl X x) (hm: ∃t,X.mg x=some (.int i t)) (hd:(x==("__debug__" :Str))=false:=by decide):DE X .s (.Name x pos) (cI i):=hm.elim fun _ h=>uM hg h hd
theorem gst {x y:Str} (hg:Gl X x) (hm: ∃t,X.mg x=some (.str y t)) (hl:y.length<=aae:=by decide) (hd:(x==("__debug__" :Str))=false:=by decide):DE X .b (.Name x pos) (cS y):=hm.elim fun _ h=>jdJ hg h hl hd
end
end M
namespace M
open PySem PySem.Spec L2
open PyProof.Rows hiding St
section
variable {f f1 f2:Sl->Res D} {fa:Sl->Res (List D)} {t t1 t2:Sl->Res Bool} {g ga gb:Sl->Res Out} {env env':Sl} {d x y z:D} {ds:List D} {b:Bool} {i:Nat}
theorem kN (h:env[i]?=some (.shr d)):rdS i env= .ok d:=by unfold rdS;rw [h]
theorem jgs (h:env[i]?=some (.shr d)):rdB i env= .ok d:=by unfold rdB;rw [h]
theorem jgt (h:env[i]?=some (.own d)):rdB i env= .ok d:=by unfold rdB;rw [h]
theorem jg0 {j:Int}:cI j env= .ok (.int j):=rfl
theorem jg1:cB b env= .ok (.bl b):=rfl
theorem jgZ:cN env= .ok .non:=rfl
theorem jgY {x:Str}:cS x env= .ok (.str x):=rfl
theorem jfd:nil1 env= .ok []:=rfl
theorem jgJ:nxO env= .ok (.nx env):=rfl
theorem jfw {T:String} (h:f env= .ok x) (h2:isiD T x= .ok d):isiF T f env= .ok d:=by rw [xy,h];exact h2
theorem ja8 {o:Out} (h:t env= .ok b) (h1:(if b=true then ga env else gb env)= .ok o):ifO t ga gb env= .ok o:=by rw [Wm,h];exact h1
theorem YS (h:env[i]?=some (.own (.lst ds))):ownL i env= .ok ds:=by unfold ownL;rw [h]
theorem jem (h:env[i]?=some (.own d)):rdO i env= .ok d:=by unfold rdO;rw [h]
theorem Z2 {o:Out} (h:ga env= .ok (.nx env')) (h2:gb env'= .ok o):seqO ga gb env= .ok o:=(jU h).trans h2
theorem Vs {tt:D->Sl->Res Sl} {fi:Sl->Res (List D)} {o:Out} (h:fi env= .ok ds) (h2:forD (qp tt g) ds env= .ok o):forO fi tt g env= .ok o:=(yI h).trans h2
theorem ke {tt:D->Sl->Res Sl} {o:Out} (h:tt d env= .ok env') (h2:g env'= .ok o):qp tt g d env= .ok o:=(wQ h).trans h2
theorem jgR:gN i d env= .ok (env.set i (.shr d)):=rfl
theorem jgT {j:Nat}:g2 (gN i) (gN j) (.tup [x,y]) env= .ok ((env.set i (.shr x)).set j (.shr y)):=rfl
theorem jf7 {tt:D->Sl->Res Sl} (h:f env= .ok d) (h2:tt d env= .ok env'):asgO f tt env= .ok (.nx env'):=by unfold asgO;rw [h,y8,h2];rfl
theorem jdC (h:f env= .ok d):jfR f env= .ok (.nx env):=by unfold jfR;rw [h];rfl
theorem jbI (h:env[i]?=some (.own (.lst ds))):Yb i env= .ok (.nx (env.set i (.own (.lst [])))):=by unfold Yb;rw [YS h];rfl
theorem jf9 (h1:env[i]?=some (.own (.lst ds))) (h2:f env= .ok d) (h3:ds.length<aae):Ja i f env= .ok (.nx (env.set i (.own (.lst (ds++[d]))))):=u3 (YS h1) h2 h3
theorem jfH {es:List D} (h1:env[i]?=some (.own (.lst ds))) (h2:f env= .ok (.lst es)) (h3:ds.length+es.length<=aae):qa i f env= .ok (.nx (env.set i (.own (.lst (ds++es))))):=by
 unfold qa;rw [YS h1,y8,h2,y8];exact jk h3
theorem jg4 (h:t1 env= .ok false):andB t1 t2 env= .ok false:=by rw [Km,h];rfl
theorem jga (h:t1 env= .ok true) (h2:t2 env= .ok b):andB t1 t2 env= .ok b:=by rw [Km,h];exact h2
theorem jcD {o o':Out} (h:ga env= .ok o) (h2:outK gb o= .ok o'):seqO ga gb env= .ok o':=by rw [xI,h];exact h2
theorem jcV {o:Out} (h:g env= .ok o):outK g (.nx env)= .ok o:=h
theorem jaE {fr:Bool}:outK g (.rt fr d)= .ok (.rt fr d):=rfl
theorem jfu {α:Type} {c:Bool} {a b r:α} (hc:c=true) (h:a=r):(if c=true then a else b)=r:=(if_pos hc).trans h
theorem jfv {α:Type} {c:Bool} {a b r:α} (hc:c=false) (h:b=r):(if c=true then a else b)=r:=(if_neg (by rw [hc];decide)).trans h
theorem jgW {i j:Int} (hj:0<j/\j<1073741824):wD [.int i,.int j]= .ok (.tup [.int (i/j),.int (i%j)]):=jk hj
theorem jdG {i j:Int} (h:0<j/\j<2^200):divW (.int i) (.int j)= .ok (.int (i/j)):=XV (C:=DivW) h
theorem ixL0 (x:D) (r:List D):ixD (.lst (x::r)) (.int 0)= .ok x:=by
 simp only [ixD];rw [show ((0:Int))=((0:Nat):Int) from rfl,M.atI_nat];rfl
theorem ixL1 (x y:D) (r:List D):ixD (.lst (x::y::r)) (.int 1)= .ok y:=by
 simp only [ixD];rw [show ((1:Int))=((1:Nat):Int) from rfl,M.atI_nat];rfl
theorem ixT1 (x y:D) (r:List D):ixD (.tup (x::y::r)) (.int 1)= .ok y:=by
 simp only [ixD];rw [show ((1:Int))=((1:Nat):Int) from rfl,M.atI_nat];rfl
theorem ixT2 (x y z:D) (r:List D):ixD (.tup (x::y::z::r)) (.int 2)= .ok z:=by
 simp only [ixD];rw [show ((2:Int))=((2:Nat):Int) from rfl,M.atI_nat];rfl
theorem jbn {a b:Int}:eqR (.int a) (.int b)= .ok (.bl (a==b)):=uv
theorem Vb {a b:Int}:neR (.int a) (.int b)= .ok (.bl (!(a==b))):=by
 unfold neR;rw [jk (show EqC (.int a) (.int b) from .inl ⟨rfl,rfl,by simp [D.dep]⟩)];simp [eqD]
theorem big0:20000<=aae:=by decide
theorem sml {k:Nat} (h:k<=20000):k<=aae:=aaC h big0
theorem smll {k:Nat} (h:k<20000):k<aae:=aaB h big0
theorem jfF {c n:Str} {fo:Sl->Res D} (h:fo env= .ok x) (h2:fldD c n x= .ok d):fldF c n fo env= .ok d:=by unfold fldF;rw [h];exact h2
theorem jdy (h:f env= .ok (.lst ds)):Qv f env= .ok (ju 0 ds):=by unfold Qv;rw [h];rfl
theorem jcv {es:List D} (h1:f1 env= .ok (.lst ds)) (h2:f2 env= .ok (.lst es)):Ud f1 f2 env= .ok (qR ds es):=by unfold Ud;rw [h1,y8,h2];rfl
theorem WR {c m:Str} {n:Nat} {F:List D->Res D} {fo:Sl->Res D} {g:Sl->Res (List D)} {env:Sl} {fs:List Str} {vs ds:List D} {d:D} (h1:fo env= .ok (.obj c fs vs)) (h2:fs.contains m=false) (h3:g env= .ok ds) (h4:ds.length+1=n) (h5:F (.obj c fs vs::ds)= .ok d):xW c m n F fo g env= .ok d:=by
 unfold xW;rw [h1];refine (jk (c:=c=c/\fs.contains m=false) ⟨rfl,h2⟩).trans ?_;rw [h3];exact (jk (c:=ds.length+1=n) h4).trans h5
theorem jgH:powI (.int 10) (.int 2)= .ok (.int 100):=(jV (by decide)).trans rfl
theorem jgG:powI (.int 10) (.int 3)= .ok (.int 1000):=(jV (by decide)).trans rfl
theorem jgF:powI (.int 10) (.int 4)= .ok (.int 10000):=(jV (by decide)).trans rfl
theorem jgE:powI (.int 10) (.int 5)= .ok (.int 100000):=(jV (by decide)).trans rfl
theorem jgD:powI (.int 10) (.int 6)= .ok (.int 1000000):=(jV (by decide)).trans rfl
theorem jgC:powI (.int 10) (.int 7)= .ok (.int 10000000):=(jV (by decide)).trans rfl
theorem jgB:powI (.int 10) (.int 8)= .ok (.int 100000000):=(jV (by decide)).trans rfl
theorem jgA:powI (.int 10) (.int 9)= .ok (.int 1000000000):=(jV (by decide)).trans rfl
theorem je7:powI (.int 10) (.int 10)= .ok (.int 10000000000):=(jV (by decide)).trans rfl
theorem je6:powI (.int 10) (.int 11)= .ok (.int 100000000000):=(jV (by decide)).trans rfl
theorem je5:powI (.int 10) (.int 12)= .ok (.int 1000000000000):=(jV (by decide)).trans rfl
theorem je4:powI (.int 10) (.int 13)= .ok (.int 10000000000000):=(jV (by decide)).trans rfl
theorem je3:powI (.int 10) (.int 14)= .ok (.int 100000000000000):=(jV (by decide)).trans rfl
theorem je2:powI (.int 10) (.int 15)= .ok (.int 1000000000000000):=(jV (by decide)).trans rfl
theorem je1:powI (.int 10) (.int 16)= .ok (.int 10000000000000000):=(jV (by decide)).trans rfl
theorem je0:powI (.int 10) (.int 17)= .ok (.int 100000000000000000):=(jV (by decide)).trans rfl
theorem jeZ:powI (.int 10) (.int 18)= .ok (.int 1000000000000000000):=(jV (by decide)).trans rfl
theorem jeY:powI (.int 10) (.int 19)= .ok (.int 10000000000000000000):=(jV (by decide)).trans rfl
theorem jeX:powI (.int 10) (.int 20)= .ok (.int 100000000000000000000):=(jV (by decide)).trans rfl
theorem jeW:powI (.int 10) (.int 21)= .ok (.int 1000000000000000000000):=(jV (by decide)).trans rfl
theorem jeV:powI (.int 10) (.int 22)= .ok (.int 10000000000000000000000):=(jV (by decide)).trans rfl
theorem jeU:powI (.int 10) (.int 23)= .ok (.int 100000000000000000000000):=(jV (by decide)).trans rfl
theorem jeT:powI (.int 10) (.int 24)= .ok (.int 1000000000000000000000000):=(jV (by decide)).trans rfl
theorem jeS:powI (.int 10) (.int 25)= .ok (.int 10000000000000000000000000):=(jV (by decide)).trans rfl
theorem jeR:powI (.int 10) (.int 26)= .ok (.int 100000000000000000000000000):=(jV (by decide)).trans rfl
theorem jeQ:powI (.int 10) (.int 27)= .ok (.int 1000000000000000000000000000):=(jV (by decide)).trans rfl
theorem jeP:powI (.int 10) (.int 28)= .ok (.int 10000000000000000000000000000):=(jV (by decide)).trans rfl
theorem jeO:powI (.int 10) (.int 29)= .ok (.int 100000000000000000000000000000):=(jV (by decide)).trans rfl
theorem jeN:powI (.int 10) (.int 30)= .ok (.int 1000000000000000000000000000000):=(jV (by decide)).trans rfl
theorem jeM:powI (.int 10) (.int 31)= .ok (.int 10000000000000000000000000000000):=(jV (by decide)).trans rfl
theorem jeL:powI (.int 10) (.int 32)= .ok (.int 100000000000000000000000000000000):=(jV (by decide)).trans rfl
theorem jeK:powI (.int 10) (.int 33)= .ok (.int 1000000000000000000000000000000000):=(jV (by decide)).trans rfl
theorem jeJ:powI (.int 10) (.int 34)= .ok (.int 10000000000000000000000000000000000):=(jV (by decide)).trans rfl
theorem jeI:powI (.int 10) (.int 35)= .ok (.int 100000000000000000000000000000000000):=(jV (by decide)).trans rfl
end
end M
namespace M
open PySem PySem.Spec L2
open PyProof.Rows hiding St
section
variable {f f1 f2:Sl->Res D} {fa:Sl->Res (List D)} {t t1 t2:Sl->Res Bool} {g ga gb:Sl->Res Out} {env env':Sl} {d x y z:D} {ds:List D} {b:Bool} {i:Nat}
theorem jd8 (h:f1 env= .ok (.bl true)) (h2:f2 env= .ok d):toB f1 f2 true env= .ok d:=by rw [Vv,h];exact h2
theorem jc8 {c:Str} {n:Nat} {F:FO} {g:Sl->Res (List D)} (h1:g env= .ok ds) (h2:ds.length=n) (h3:F (.obj c [] []) ds= .ok (.non,d)):jaT c n F g env= .ok d:=by
 unfold jaT;rw [h1];refine (jk (c:=ds.length=n) h2).trans ?_;rw [h3];rfl
theorem jcU {ks:List Key} {es:List D} (h:env[i]?=some (.own (.dic ks es))):ownK i env= .ok (ks,es):=by unfold ownK;rw [h]
theorem jdD {ks:List Key} {es:List D} {k:Int} (h:env[i]?=some (.own (.dic ks es))) (h1:f2 env= .ok d) (h2:f1 env= .ok (.int k)) (h3:ks.length<aae):Xc i f1 f2 env= .ok (.nx (env.set i (.own (.dic (wX ks (.inl k)) (wY ks es (.inl k) d))))):=by
 unfold Xc;rw [jcU h,y8,h1,y8,h2,y8];exact jk h3
theorem kz {ks:List Key} {es:List D}:Jj (.dic ks es)= .own (.dic ks es):=rfl
theorem kr:Jj (.lst ds)= .own (.lst ds):=rfl
theorem ku {ks:List (List Key)} {es:List D}:Jj (.dit ks es)= .own (.dit ks es):=rfl
theorem kq:Jj .non= .shr .non:=rfl
theorem jal:Jj (.bl b)= .shr (.bl b):=rfl
theorem kt {j:Int}:Jj (.int j)= .shr (.int j):=rfl
theorem ko {j:Str}:Jj (.str j)= .shr (.str j):=rfl
theorem kn:Jj (.tup ds)= .shr (.tup ds):=rfl
theorem jff {j:Int} (h:f env= .ok (.int j)):negF f env= .ok (.int (-j)):=by unfold negF;rw [h];rfl
theorem ja5 (xs:List D) (d:D):ixD (.lst (xs++[d])) (.int (-1))= .ok d:=by
 simp only [ixD,L2.atI]
 have:L2.ixN (xs++[d]).length (-1)=some xs.length:=by
  unfold L2.ixN;rw [if_neg (by omega)];rw [if_pos (by simp only [aao,aad,aas];omega)];congr 1;simp only [aao,aad,aas];omega
 rw [this];simp
end
end M
namespace G
open PySem PySem.Spec L2 M
open PyProof.Rows hiding St
def top (i:Nat):Stmt:=PySem.Challenge.pw_endwise_k22_steps_told.main.body.getD i (.Pass ⟨0,0,0,0⟩)
abbrev xn:Stmt:=top 39
abbrev xM:Stmt:=top 41
abbrev Wz:Stmt:=top 19
abbrev YD:Stmt:=top 21
abbrev kK:Stmt:=top 20
abbrev yP:Stmt:=top 23
abbrev xm:Stmt:=top 18
abbrev JT:Stmt:=top 17
abbrev JR:Stmt:=top 12
abbrev JU:Stmt:=top 14
abbrev QX:Stmt:=top 13
abbrev JS:Stmt:=top 15
abbrev QV:Stmt:=top 16
abbrev WB:Stmt:=top 22
abbrev QW:Stmt:=top 35
abbrev yO:Stmt:=top 34
abbrev zi:Stmt:=Kf (top 33) 0
abbrev xN:Stmt:=top 40
abbrev yQ:Stmt:=top 42
abbrev xK:Stmt:=top 38
abbrev xp:Stmt:=top 43
abbrev yR:Stmt:=top 45
abbrev xL:Stmt:=top 47
abbrev JV:Stmt:=top 48
abbrev xo:Stmt:=top 44
abbrev xP:Stmt:=top 51
abbrev JW:Stmt:=top 46
abbrev JX:Stmt:=top 49
abbrev YC:Stmt:=top 24
abbrev QZ:Stmt:=top 30
abbrev QY:Stmt:=top 29
abbrev Q0:Stmt:=top 25
abbrev yM:Stmt:=top 26
abbrev yN:Stmt:=top 27
abbrev QU:Stmt:=top 36
abbrev wt:Stmt:=Kf (top 33) 3
abbrev xO:Stmt:=top 50
abbrev wR:Stmt:=Kf (top 33) 1
abbrev WA:Stmt:=top 52
def wj:Sl->Res Out:=
 (seqO (jW 2 (two (two (cI 10) (cI 40) powI) (cI 121) addD))
 (retO (two (two (two (two (rdS 0) (rdS 2) modI) (cI 31415926535897932384626433832795) mulI) (two (two (two (two (rdS 1) (rdS 1) mulI) (two (cI 3) (rdS 1) mulI) addD) (cI 7) addD) (cI 2718281828459045235360287471) mulI) addD) (rdS 2) modI)))
def zx:List D->Res D:=runF true 3 (wj)
def wL:Sl->Res Out:=
 (seqO (jW 1 (cS "abcdefghijklmnopqrstuvwxyz"))
 (seqO (asgO (app (jb (rdS 0) (jb (cI 8) nil1)) wD) (g2 (gN 0) (gN 4)))
 (seqO (asgO (app (jb (rdS 0) (jb (two (rdS 4) (cI 1) addD) nil1)) wD) (g2 (gN 0) (gN 5)))
 (seqO (jW 2 (cS ""))
 (seqO (forO (rngF (jb (two (rdS 4) (cI 1) addD) nil1)) (gN 3) (seqO (asgO (app (jb (rdS 0) (jb (cI 26) nil1)) wD) (g2 (gN 0) (gN 6)))
  (jW 2 (two (rdS 2) (two (rdS 1) (rdS 6) ixD) addD))))
 (retO (qz false 1 [2,1,5,0] (rngF (jb (cI 5) nil1)) (gN 0) j4 (two (two (j7 (rdS 1) zA (qQ (rdS 3)) slD) (two (rdS 2) (two (two (rdS 4) (two (cI 5) (rdS 0) mulI) addD) (cI 26) modI) ixD) addD) (j7 (rdS 1) (qQ (two (rdS 3) (cI 1) addD)) zA slD) addD))))))))
def wP:List D->Res D:=runF true 7 (wL)
def Vr:Sl->Res Out:=
 (retO (ifD (asB (isiF "tuple" (rdS 0))) (j7 (rdS 0) (qQ (cI 1)) zA slD) (tupF nil1)))
def jE:List D->Res D:=runF true 1 (Vr)
def Zr (j0:List D->Res D) (qv:List D->Res D):Sl->Res Out:=
 (seqO (setO 1 (lstF (jb (rdS 0) nil1)))
 (seqO (forO (itF (jg 1 j0 (jb (rdS 0) nil1))) (gN 2) (qa 1 (jg 1 qv (jb (rdS 2) nil1))))
 (retO (rdO 1))))
def j6:Nat->List D->Res D
 |0=>fun _=> .stuck
 |n+1=>runF true 3 (Zr jE (j6 n))
def Wl:Sl->Res Out:=
 (retO (ifD (asB (isiF "tuple" (rdS 0))) (tupF (jb (two (rdS 0) (cI 0) ixD) (jb (two (app (jb (rdS 0) nil1) lenD) (cI 1) subI) nil1))) cN))
def zF:List D->Res D:=runF true 1 (Wl)
def xv (qv:List D->Res D) (Qs:List D->Res D):Sl->Res Out:=
 (seqO (setO 1 cDT)
 (seqO (forO (itF (rdS 0)) (gN 2) (forO (itF (jg 1 qv (jb (rdS 2) nil1))) (gN 3) (ifO (asB (isiF "tuple" (rdS 3))) (UU 1 (jg 1 Qs (jb (rdS 3) nil1)) (cB true)) nxO)))
 (frzO 1 (retO (app (jb (rdS 1) nil1) QS)))))
def zP:List D->Res D:=runF true 4 (xv (j6 64) zF)
def wg (j0:List D->Res D):Sl->Res Out:=
 (seqO (setO 1 (lstF nil1))
 (seqO (forO (itF (rdS 0)) (gN 2) (qa 1 (jg 1 j0 (jb (rdS 2) nil1))))
 (retO (rdO 1))))
def qw:List D->Res D:=runF true 3 (wg jE)
def yy (xx:List D->Res D):Sl->Res Out:=
 (seqO (jW 1 (lstF (jb (rdS 0) nil1)))
 (seqO (jW 2 (cI 0))
 (seqO (jW 3 (cI 0))
 (seqO (q0 2000 (truF (rdS 1)) (seqO (jW 2 (two (rdS 2) (cI 1) (augI fun i j=>i+j)))
  (seqO (jW 3 (two (rdS 3) (app (jb (rdS 1) nil1) lenD) (augI fun i j=>i+j)))
  (seqO (ifO (orB (asB (two (rdS 2) (cI 60) gtI)) (asB (two (rdS 3) (cI 1000) gtI))) (retO (cB true)) nxO)
  (jW 1 (jg 1 xx (jb (rdS 1) nil1)))))))
 (retO (cB false))))))
def zf:List D->Res D:=runF true 4 (yy qw)
def Wj:Sl->Res Out:=
 (retO (toB (isiF "int" (rdS 0)) (notF (isiF "bool" (rdS 0))) true))
def Ql:List D->Res D:=runF true 1 (Wj)
def yz (J9:List D->Res D):Sl->Res Out:=
 (retO (toB (jg 1 J9 (jb (rdS 0) nil1)) (Ks (cI 0) (rdS 0) (cI 999) leI leI) true))
def wq:List D->Res D:=runF true 1 (yz Ql)
def xZ:Sl->Res Out:=
 (seqO (ifO (orB (notB (asB (isiF "str" (rdS 0)))) (notB (asB (Ks (cI 1) (app (jb (rdS 0) nil1) lenD) (cI 8) leI leI)))) (retO (cB false)) nxO)
 (retO (app (jb (qz false 1 [] (itF (rdS 0)) (gN 0) j4 (two (rdS 0) (cS "abcdefghijklmnopqrstuvwxyz") inD)) nil1) allD)))
def yo:List D->Res D:=runF true 1 (xZ)
def w6 (Qb:List D->Res D) (Zv:List D->Res D):Sl->Res Out:=
 (seqO (ifO (asB (isiF "tuple" (rdS 0))) (retO (toB (Ks (cI 1) (app (jb (rdS 0) nil1) lenD) (two (cI 9) (cI 1) addD) leI leI) (jg 1 Zv (jb (two (rdS 0) (cI 0) ixD) nil1)) true)) nxO)
 (retO (jg 1 Qb (jb (rdS 0) nil1))))
def wp:List D->Res D:=runF true 1 (w6 wq yo)
def Ju (zL:List D->Res D) (Qa:List D->Res D) (qv:List D->Res D):Sl->Res Out:=
 (retO (toB (notF (jg 1 zL (jb (rdS 0) nil1))) (app (jb (qz false 1 [] (itF (jg 1 qv (jb (rdS 0) nil1))) (gN 0) j4 (jg 1 Qa (jb (rdS 0) nil1))) nil1) allD) true))
def ym:List D->Res D:=runF true 1 (Ju zf wp (j6 64))
def QE (qv:List D->Res D):Sl->Res Out:=
 (seqO (setO 1 cD)
 (seqO (forO (itF (jg 1 qv (jb (rdS 0) nil1))) (gN 2) (ifO (notB (asB (isiF "tuple" (rdS 2)))) (Xc 1 (rdS 2) (cB true)) nxO))
 (frzO 1 (retO (app (jb (rdS 1) nil1) jaW)))))
def QN:List D->Res D:=runF true 3 (QE (j6 64))
def Jv (JA:List D->Res D) (QH:List D->Res D):Sl->Res Out:=
 (seqO (ifO (orB (notB (asB (isiF "tuple" (rdS 0)))) (asB (two (app (jb (rdS 0) nil1) lenD) (cI 2) neR))) (retO (cB false)) nxO)
 (seqO (ifO (orB (notB (asB (jg 1 JA (jb (two (rdS 0) (cI 0) ixD) nil1)))) (orB (notB (asB (jg 1 JA (jb (two (rdS 0) (cI 1) ixD) nil1)))) (notB (asB (isiF "tuple" (two (rdS 0) (cI 0) ixD)))))) (retO (cB false)) nxO)
 (retO (two (two (jg 1 QH (jb (two (rdS 0) (cI 1) ixD) nil1)) (jg 1 QH (jb (two (rdS 0) (cI 0) ixD) nil1)) subL) (cI 0) eqR))))
def yn:List D->Res D:=runF true 1 (Jv ym QN)
def xu (Zu:List D->Res D):Sl->Res Out:=
 (seqO (ifO (orB (notB (asB (isiF "list" (rdS 0)))) (asB (two (app (jb (rdS 0) nil1) lenD) (cI 40) gtI))) (retO (cB false)) nxO)
 (retO (app (jb (qz false 1 [] (itF (rdS 0)) (gN 0) j4 (jg 1 Zu (jb (rdS 0) nil1))) nil1) allD)))
def qZ:List D->Res D:=runF true 1 (xu yn)
def jZ (y0:List D->Res D) (yZ:List D->Res D):Sl->Res OutO:=
 (seqJ (ifJ (notB (asB (jg 1 yZ (jb (rdS 1) nil1)))) jbX nxJ)
 (seqJ (jam 0 "Rules" "listed" (app (jb (rdS 1) nil1) Kd))
 (jam 0 "Rules" "named" (jg 1 y0 (jb (two (qz false 2 [] (itF (rdS 1)) (g2 (gN 0) (gN 1)) j4 (rdS 0)) (qz false 2 [] (itF (rdS 1)) (g2 (gN 0) (gN 1)) j4 (rdS 1)) addD) nil1)))))
def qg:FO:=runJ 2 1 (jZ zP qZ)
def wM:Sl->Res Out:=
 (seqO (jW 2 (two (two (two (rdS 0) (cI 69621) mulI) (two (two (rdS 1) (cI 1) addD) (cI 1000003) mulI) addD) (two (two (cI 10) (cI 30) powI) (cI 57) addD) modI))
 (retO (two (two (rdS 2) (rdS 2) mulI) (two (two (cI 10) (cI 30) powI) (cI 57) addD) modI)))
def jz:List D->Res D:=runF true 3 (wM)
def zK (jO:List D->Res D) (jt:List D->Res D):Sl->Res Out:=
 (seqO (asgO (app (jb (rdS 0) (jb (cI 5) nil1)) wD) (g2 (gN 0) (gN 4)))
 (seqO (ifO (andB (asB (two (rdS 3) (lstF nil1) neR)) (orB (asB (two (rdS 4) (cI 0) eqR)) (andB (asB (two (rdS 2) (cI 0) eqR)) (asB (two (rdS 4) (cI 3) ltI))))) (retS (two (rdS 3) (two (rdS 0) (app (jb (rdS 3) nil1) lenD) modI) ixD)) nxO)
 (seqO (asgO (app (jb (rdS 0) (jb (cI 5) nil1)) wD) (g2 (gN 0) (gN 5)))
 (seqO (asgO (app (jb (rdS 0) (jb (cI 4) nil1)) wD) (g2 (gN 0) (gN 6)))
 (seqO (ifO (asB (two (rdS 2) (cI 0) eqR)) (jW 6 (cI 0)) nxO)
 (retO (app (jb (two (lstF (jb (two (rdS 1) (rdS 5) ixD) nil1)) (qz false 1 [1,3,0,2] (rngF (jb (rdS 6) nil1)) (gN 0) j4 (jg 4 jO (jb (jg 2 jt (jb (rdS 3) (jb (rdS 0) nil1))) (jb (rdS 1) (jb (two (rdS 4) (cI 1) subI) (jb (rdS 2) nil1)))))) addD) nil1) yF)))))))
def jS:Nat->List D->Res D
 |0=>fun _=> .stuck
 |n+1=>runF false 7 (zK (jS n) jz)
def Qr:Sl->Res Out:=
 (retO (toB (isiF "int" (rdS 0)) (notF (isiF "bool" (rdS 0))) true))
def jj:List D->Res D:=runF true 1 (Qr)
def qN (jm:List D->Res D) (jQ:List D->Res D):Sl->Res Out:=
 (seqO (ifO (asB (jg 1 jm (jb (rdS 0) nil1))) (retO (lstF (jb (rdS 0) nil1))) nxO)
 (seqO (setO 1 (lstF nil1))
 (seqO (forO (itF (j7 (rdS 0) (qQ (cI 1)) zA slD)) (gN 2) (qa 1 (jg 1 jQ (jb (rdS 2) nil1))))
 (retO (rdO 1)))))
def jv:Nat->List D->Res D
 |0=>fun _=> .stuck
 |n+1=>runF true 3 (qN jj (jv n))
def xw (jO:List D->Res D) (jt:List D->Res D) (jm:List D->Res D) (jQ:List D->Res D):Sl->Res Out:=
 (seqO (jW 2 (lstF (jb (two (rdS 0) (cI 1000) modI) (jb (two (two (two (rdS 0) (cI 1) addD) (two (two (rdS 0) (cI 1000) divW) (cI 999) modI) addD) (cI 1000) modI) nil1))))
 (seqO (jW 3 (jg 4 jO (jb (jg 2 jt (jb (rdS 0) (jb (cI 1) nil1))) (jb (rdS 1) (jb (cI 2) (jb (rdS 2) nil1))))))
 (seqO (ifO (orB (asB (jg 1 jm (jb (rdS 3) nil1))) (asB (two (two (two (rdS 0) (two (cI 10) (cI 7) powI) divW) (cI 4) modI) (cI 0) eqR))) (jW 3 (app (jb (two (lstF (jb (two (rdS 1) (two (two (rdS 0) (two (cI 10) (cI 8) powI) divW) (cI 5) modI) ixD) nil1)) (j7 (lstF (jb (two (rdS 2) (two (two (rdS 0) (two (cI 10) (cI 9) powI) divW) (cI 2) modI) ixD) (jb (two (rdS 2) (cI 1) ixD) nil1))) zA (qQ (two (two (rdS 0) (two (cI 10) (cI 10) powI) divW) (cI 3) modI)) slD) addD) nil1) yF)) (ifO (asB (two (two (two (rdS 0) (two (cI 10) (cI 12) powI) divW) (cI 4) modI) (cI 1) eqR)) (seqO (jW 4 (two (cI 4) (two (two (rdS 0) (two (cI 10) (cI 13) powI) divW) (cI 6) modI) addD))
  (jW 3 (app (jb (two (lstF (jb (two (rdS 1) (two (two (rdS 0) (two (cI 10) (cI 8) powI) divW) (cI 5) modI) ixD) nil1)) (qz false 1 [1,2,0] (rngF (jb (rdS 4) nil1)) (gN 0) j4 (jg 4 jO (jb (jg 2 jt (jb (rdS 3) (jb (two (cI 20) (rdS 0) addD) nil1))) (jb (rdS 1) (jb (cI 0) (jb (rdS 2) nil1)))))) addD) nil1) yF))) nxO))
 (retO (tupF (jb (rdS 3) (jb (jg 4 jO (jb (jg 2 jt (jb (rdS 0) (jb (cI 2) nil1))) (jb (rdS 1) (jb (cI 1) (jb (jg 1 jQ (jb (rdS 3) nil1)) nil1))))) nil1)))))))
def wI:List D->Res D:=runF true 5 (xw (jS 6) jz jj (jv 64))
def wK (jm:List D->Res D) (jG:List D->Res D):Sl->Res Out:=
 (seqO (setO 2 (lstF (jb (tupF (jb (rdS 1) (jb (rdS 0) nil1))) nil1)))
 (seqO (ifO (notB (asB (jg 1 jm (jb (rdS 0) nil1)))) (forO (rngF (jb (two (app (jb (rdS 0) nil1) lenD) (cI 1) subI) nil1)) (gN 3) (qa 2 (jg 2 jG (jb (two (rdS 0) (two (cI 1) (rdS 3) addE) ixD) (jb (two (rdS 1) (tupF (jb (rdS 3) nil1)) addE) nil1))))) nxO)
 (retO (rdO 2))))
def jy:Nat->List D->Res D
 |0=>fun _=> .stuck
 |n+1=>runF true 4 (wK jj (jy n))
def wn (qj:List D->Res D):Sl->Res Out:=
 (seqO (ifO (asB (two (rdS 1) (tupF nil1) eqR)) (retS (rdS 2)) nxO)
 (seqO (jW 3 (two (cI 1) (two (rdS 1) (cI 0) ixD) addD))
 (retO (two (two (j7 (rdS 0) zA (qQ (rdS 3)) slD) (tupF (jb (jg 3 qj (jb (two (rdS 0) (rdS 3) ixD) (jb (j7 (rdS 1) (qQ (cI 1)) zA slD) (jb (rdS 2) nil1)))) nil1)) addD) (j7 (rdS 0) (qQ (two (rdS 3) (cI 1) addD)) zA slD) addD))))
def j3:Nat->List D->Res D
 |0=>fun _=> .stuck
 |n+1=>runF false 4 (wn (j3 n))
def qM (jm:List D->Res D) (jP:List D->Res D):Sl->Res Out:=
 (seqO (ifO (asB (jg 1 jm (jb (rdS 0) nil1))) (retS (jdn (rdS 1) (rdS 0) (rdS 0))) nxO)
 (retO (app (jb (two (lstF (jb (two (rdS 0) (cI 0) ixD) nil1)) (qz false 1 [1] (itF (j7 (rdS 0) (qQ (cI 1)) zA slD)) (gN 0) j4 (jg 2 jP (jb (rdS 0) (jb (rdS 1) nil1)))) addD) nil1) yF)))
def jF:Nat->List D->Res D
 |0=>fun _=> .stuck
 |n+1=>runF false 2 (qM jj (jF n))
def q8 (jO:List D->Res D) (jt:List D->Res D) (jG:List D->Res D) (qj:List D->Res D) (jQ:List D->Res D) (jP:List D->Res D):Sl->Res Out:=
 (seqO (jW 3 (lstF (jb (two (rdS 0) (cI 1000) modI) (jb (two (two (two (rdS 0) (cI 1) addD) (two (two (rdS 0) (cI 1000) divW) (cI 999) modI) addD) (cI 1000) modI) nil1))))
 (seqO (jW 4 (jg 4 jO (jb (jg 2 jt (jb (rdS 0) (jb (cI 1) nil1))) (jb (rdS 1) (jb (cI 3) (jb (rdS 3) nil1))))))
 (seqO (ifO (andB (asB (two (rdS 2) (lstF nil1) neR)) (asB (two (two (two (rdS 0) (two (cI 10) (cI 7) powI) divW) (cI 2) modI) (cI 0) eqR))) (seqO (jW 5 (two (two (rdS 2) (two (two (rdS 0) (two (cI 10) (cI 8) powI) divW) (app (jb (rdS 2) nil1) lenD) modI) ixD) (cI 0) ixD))
  (seqO (setO 6 cD)
  (seqO (forO (Qv (jg 1 jQ (jb (rdS 5) nil1))) (g2 (gN 9) (gN 10)) (Xc 6 (rdS 10) (jg 4 jO (jb (jg 2 jt (jb (rdS 0) (jb (two (cI 2) (rdS 9) addD) nil1))) (jb (rdS 1) (jb (cI 1) (jb (rdS 3) nil1)))))))
  (seqO (jW 7 (jg 2 jG (jb (rdS 4) (jb (tupF nil1) nil1))))
  (seqO (jW 8 (two (two (rdS 7) (two (jg 2 jt (jb (rdS 0) (jb (cI 99) nil1))) (app (jb (rdS 7) nil1) lenD) modI) ixD) (cI 0) ixD))
  (jW 4 (chk (jg 3 qj (jb (rdS 4) (jb (rdS 8) (jb (jg 2 jP (jb (rdS 5) (jb (rdB 6) nil1))) nil1))))))))))) nxO)
 (retS (rdS 4)))))
def wa:List D->Res D:=runF false 11 (q8 (jS 6) jz (jy 64) (j3 64) (jv 64) (jF 64))
def yA (jm:List D->Res D):Sl->Res Out:=
 (seqO (setO 2 cD)
 (seqO (setO 3 (lstF (jb (tupF (jb (rdS 0) (jb (rdS 1) nil1))) nil1)))
 (seqO (q0 4000 (asB (two (rdB 3) (lstF nil1) neR)) (seqO (popO 3 (g2 (gN 4) (gN 5)))
  (ifO (asB (jg 1 jm (jb (rdS 4) nil1))) (ifSD 2 (rdS 4) (rdS 5) (rdS 5) (retO cN) nxO) (ifO (orB (asB (jg 1 jm (jb (rdS 5) nil1))) (orB (asB (two (two (rdS 4) (cI 0) ixD) (two (rdS 5) (cI 0) ixD) neR)) (asB (two (app (jb (rdS 4) nil1) lenD) (app (jb (rdS 5) nil1) lenD) neR)))) (retO cN) (qa 3 (qz false 1 [4,5] (YE (jb (cI 1) (jb (app (jb (rdS 4) nil1) lenD) nil1))) (gN 0) j4 (tupF (jb (two (rdS 1) (rdS 0) ixD) (jb (two (rdS 2) (rdS 0) ixD) nil1)))))))))
 (retO (rdO 2)))))
def zQ:List D->Res D:=runF true 6 (yA jj)
def yB (jG:List D->Res D) (Qc:List D->Res D) (qj:List D->Res D) (jP:List D->Res D):Sl->Res Out:=
 (seqO (setO 2 (lstF nil1))
 (seqO (forO (itF (jg 2 jG (jb (rdS 1) (jb (tupF nil1) nil1)))) (g2 (gN 3) (gN 4)) (forO (Qv (rdS 0)) (g2 (gN 5) (gN 6)) (seqO (jW 7 (jg 2 Qc (jb (two (rdS 6) (cI 0) ixD) (jb (rdS 4) nil1))))
  (ifO (asB (two (rdS 7) cN notN)) (Ja 2 (tupF (jb (rdS 3) (jb (rdS 5) (jb (jg 3 qj (jb (rdS 1) (jb (rdS 3) (jb (jg 2 jP (jb (two (rdS 6) (cI 1) ixD) (jb (rdS 7) nil1))) nil1)))) nil1))))) nxO))))
 (retO (rdO 2))))
def zR:List D->Res D:=runF true 8 (yB (jy 64) zQ (j3 64) (jF 64))
def W4 (j0:List D->Res D) (yY:List D->Res D):Sl->Res Out:=
 (seqO (setO 1 (lstF (jb (tupF nil1) nil1)))
 (seqO (forO (jbp (jg 1 j0 (jb (rdS 0) nil1))) (g2 (gN 2) (gN 3)) (qa 1 (qz false 1 [2] (itF (jg 1 yY (jb (rdS 3) nil1))) (gN 0) j4 (two (tupF (jb (rdS 1) nil1)) (rdS 0) addD))))
 (retO (rdO 1))))
def wc:Nat->List D->Res D
 |0=>fun _=> .stuck
 |n+1=>runF true 4 (W4 jE (wc n))
def zV (Qs:List D->Res D) (j0:List D->Res D) (wA:FI):Sl->Res OutI:=
 (seqI (ifI (notB (asB (isiF "tuple" (rdS 0)))) (jap 2 (rdS 0) (rdS 1) (rdS 1)) nxI)
 (seqI (ifI (asB (two (jg 1 Qs (jb (rdS 0) nil1)) (jg 1 Qs (jb (rdS 1) nil1)) neR)) (retI (cB false)) nxI)
 (seqI (forI (zipF (jg 1 j0 (jb (rdS 0) nil1)) (jg 1 j0 (jb (rdS 1) nil1))) (g2 (gN 3) (gN 4)) (ifNI (Qw wA 2 (rdS 3) (rdS 4)) (retI (cB false)) nxI))
 (retI (cB true)))))
def jD:Nat->FI
 |0=>fun _ _ _=> .stuck
 |n+1=>runI 5 2 (zV zF jE (jD n))
def Jw (wA:FI):Sl->Res Out:=
 (seqO (setO 2 cD)
 (jbY 2 (Qw wA 2 (rdS 0) (rdS 1))))
def zY:List D->Res D:=runF true 3 (Jw (jD 64))
def Jx (zL:List D->Res D):Sl->Res Out:=
 (seqO (ifO (asB (jg 1 zL (jb (rdS 0) nil1))) jb7 nxO)
 (retS (rdS 0)))
def yp:List D->Res D:=runF false 1 (Jx zf)
def zI (qV:List D->Res D):Sl->Res Out:=
 (seqO (ifO (asB (two (rdS 1) (tupF nil1) eqR)) (retS (rdS 2)) nxO)
 (seqO (jW 3 (two (two (rdS 1) (cI 0) ixD) (cI 1) addD))
 (retO (two (two (j7 (rdS 0) zA (qQ (rdS 3)) slD) (tupF (jb (jg 3 qV (jb (two (rdS 0) (rdS 3) ixD) (jb (j7 (rdS 1) (qQ (cI 1)) zA slD) (jb (rdS 2) nil1)))) nil1)) addD) (j7 (rdS 0) (qQ (two (rdS 3) (cI 1) addD)) zA slD) addD))))
def qH:Nat->List D->Res D
 |0=>fun _=> .stuck
 |n+1=>runF false 4 (zI (qH n))
def zJ (qW:List D->Res D) (j0:List D->Res D):Sl->Res Out:=
 (seqO (ifO (notB (asB (isiF "tuple" (rdS 0)))) (retS (jdn (rdS 1) (rdS 0) (rdS 0))) nxO)
 (retO (two (j7 (rdS 0) zA (qQ (cI 1)) slD) (app (jb (qz false 1 [1] (itF (jg 1 j0 (jb (rdS 0) nil1))) (gN 0) j4 (jg 2 qW (jb (rdS 0) (jb (rdS 1) nil1)))) nil1) yF) addD)))
def qx:Nat->List D->Res D
 |0=>fun _=> .stuck
 |n+1=>runF false 2 (zJ (qx n) jE)
def Jt (Zx:List D->Res D) (qV:List D->Res D) (qW:List D->Res D):Sl->Res Out:=
 (retS (jg 1 Zx (jb (jg 3 qV (jb (rdS 0) (jb (rdS 1) (jb (jg 2 qW (jb (two (rdS 2) (cI 1) ixD) (jb (rdS 3) nil1))) nil1)))) nil1)))
def xk:List D->Res D:=runF false 4 (Jt yp (qH 64) (qx 64))
def zj (yY:List D->Res D) (qv:List D->Res D) (Zw:List D->Res D) (Zt:List D->Res D):Sl->Res Out:=
 (seqO (setO 2 (lstF nil1))
 (seqO (forO (Ud (jg 1 yY (jb (rdS 1) nil1)) (jg 1 qv (jb (rdS 1) nil1))) (g2 (gN 3) (gN 4)) (forO (Qv (fldF "Rules" "listed" (rdB 0))) (g2 (gN 5) (gN 6)) (seqO (jW 7 (jg 2 Zw (jb (two (rdS 6) (cI 0) ixD) (jb (rdS 4) nil1))))
  (ifO (asB (two (rdS 7) cN notN)) (Ja 2 (tupF (jb (rdS 3) (jb (rdS 5) (jb (jg 4 Zt (jb (rdS 1) (jb (rdS 3) (jb (rdS 6) (jb (rdS 7) nil1))))) nil1))))) nxO))))
 (retO (rdO 2))))
def jw:List D->Res D:=runF true 8 (zj (wc 64) (j6 64) zY xk)
def wN (jm:List D->Res D):Sl->Res Out:=
 (seqO (ifO (notB (asB (isiF "list" (rdS 0)))) (retO (cB false)) nxO)
 (seqO (forO (itF (rdS 0)) (gN 1) (seqO (ifO (orB (notB (asB (isiF "tuple" (rdS 1)))) (orB (asB (two (app (jb (rdS 1) nil1) lenD) (cI 3) neR)) (orB (notB (asB (isiF "tuple" (two (rdS 1) (cI 0) ixD)))) (notB (asB (jg 1 jm (jb (two (rdS 1) (cI 1) ixD) nil1))))))) (retO (cB false)) nxO)
  (ifO (notB (asB (app (jb (qz false 1 [] (itF (two (rdS 1) (cI 0) ixD)) (gN 0) j4 (jg 1 jm (jb (rdS 0) nil1))) nil1) allD))) (retO (cB false)) nxO)))
 (retO (cB true))))
def zZ:List D->Res D:=runF true 2 (wN jj)
def zS:Sl->Res Out:=
 (retO (app (jb (fldF "Rules" "listed" (rdB 0)) nil1) Kd))
def qy:List D->Res D:=runF true 1 (zS)
def jbh (wl:List D->Res D) (x8:List D->Res D) (zl:FO) (y4:List D->Res D) (ya:List D->Res D) (xb:List D->Res D) (j9:List D->Res D) (jt:List D->Res D) (x9:List D->Res D) (wT:List D->Res D) (jG:List D->Res D):Sl->Res Out:=
 (seqO (jW 1 (jg 2 wl (jb (two (two (rdS 0) (lstF (jb (cI 0) nil1)) addS) (cI 0) ixD) (jb (cI 0) nil1))))
 (seqO (jW 2 (jg 1 x8 (jb (rdS 1) nil1)))
 (seqO (jW 3 (qz false 1 [2,1] (rngF (jb (two (two (rdS 1) (two (cI 10) (cI 20) powI) divW) (cI 6) modI) nil1)) (gN 0) j4 (jg 2 y4 (jb (jg 2 jt (jb (rdS 2) (jb (rdS 0) nil1))) (jb (rdS 1) nil1)))))
 (seqO (jW 4 (jaT "Rules" 1 zl (jb (app (jb (rdS 3) nil1) Kd) nil1)))
 (seqO (forO (Qv (j7 (rdS 0) (qQ (cI 1)) (qQ (cI 5)) slS)) (g2 (gN 5) (gN 6)) (seqO (jW 7 (jg 3 ya (jb (jg 2 wl (jb (rdS 6) (jb (two (rdS 5) (cI 1) addD) nil1))) (jb (rdS 2) (jb (rdS 3) nil1)))))
  (seqO (jW 8 (jg 2 xb (jb (rdS 3) (jb (rdS 7) nil1))))
  (seqO (setO 9 (xW "Rules" "steps" 2 j9 (rdS 4) (jb (rdS 7) nil1)))
  (seqO (ifO (orB (notB (asB (jg 1 x9 (jb (rdB 9) nil1)))) (asB (two (rdB 9) (rdS 8) neR))) (retO (cB false)) nxO)
  (seqO (Yb 9)
  (seqO (jW 10 (xW "Rules" "steps" 2 j9 (rdS 4) (jb (rdS 7) nil1)))
  (seqO (ifO (orB (asB (two (rdS 10) (rdS 8) neR)) (asB (two (xW "Rules" "told" 1 wT (rdS 4) noA) (rdS 3) neR))) (retO (cB false)) nxO)
  (ifO (andB (asB (two (rdS 8) (lstF nil1) neR)) (asB (two (app (jb (jg 2 jG (jb (two (two (rdS 8) (negF (cI 1)) ixD) (cI 2) ixD) (jb (tupF nil1) nil1))) nil1) lenD) (cI 81) ltI))) (ifO (asB (two (xW "Rules" "steps" 2 j9 (rdS 4) (jb (two (two (rdS 8) (negF (cI 1)) ixD) (cI 2) ixD) nil1)) (jg 2 xb (jb (rdS 3) (jb (two (two (rdS 8) (negF (cI 1)) ixD) (cI 2) ixD) nil1))) neR)) (retO (cB false)) nxO) nxO)))))))))
 (retO (toB (two (xW "Rules" "steps" 2 j9 (rdS 4) (jb (tupF (jb (two (rdS 2) (cI 0) ixD) nil1)) nil1)) (jg 2 xb (jb (rdS 3) (jb (tupF (jb (two (rdS 2) (cI 0) ixD) nil1)) nil1))) eqR) (two (xW "Rules" "steps" 2 j9 (rdS 4) (jb (cI 7) nil1)) (lstF nil1) eqR) true)))))))
def F_law:List D->Res D:=runF true 11 (jbh zx wP qg wI wa zR jw jz zZ qy (jy 64))
end G
namespace G
open PySem PySem.Spec L2 M
open PyProof.Rows hiding St
structure Gm (K:aaa) (mg:Str->Option Value):Prop where
 b_isinstance:mg "isinstance" =none
 b_bool:mg "bool" =none
 b_int:mg "int" =none
 b_all:mg "all" =none
 b_len:mg "len" =none
 b_tuple:mg "tuple" =none
 b_list:mg "list" =none
 b_sorted:mg "sorted" =none
 b_set:mg "set" =none
 b_range:mg "range" =none
 b_divmod:mg "divmod" =none
 b_str:mg "str" =none
 b_enumerate:mg "enumerate" =none
 b_zip:mg "zip" =none
 c_LETTERS: ∃t,mg "LETTERS" =some (.str "abcdefghijklmnopqrstuvwxyz" t)
 c_MOST_LETTERS: ∃t,mg "MOST_LETTERS" =some (.int 8 t)
 c_MOST_PLACES: ∃t,mg "MOST_PLACES" =some (.int 9 t)
 c_MOST_BLANK: ∃t,mg "MOST_BLANK" =some (.int 999 t)
 c_MOST_LEVELS: ∃t,mg "MOST_LEVELS" =some (.int 60 t)
 c_MOST_PARTS: ∃t,mg "MOST_PARTS" =some (.int 1000 t)
 c_MOST_RULES: ∃t,mg "MOST_RULES" =some (.int 40 t)
 f_Rules_listed:FldN K "Rules" "listed"
 f_Rules_named:FldN K "Rules" "named"
theorem jhj:FnScope ["_law_cell", "_law_k", "_law_big"] ["_law_cell", "_law_k"] (jf xn):=fsc
theorem jhf:FnScope ["_law_number", "_law_letters", "_law_base", "_law_k", "_law_size", "_law_at", "_law_sign"] ["_law_number"] (jf xM):=fsc
theorem jhI:FnScope ["term"] ["term"] (jf Wz):=fsc
theorem jhG:FnScope ["term", "found", "place"] ["term"] (jf YD):=fsc
theorem jhu:FnScope ["term"] ["term"] (jf kK):=fsc
theorem jhm:FnScope ["terms", "met", "term", "found"] ["terms"] (jf yP):=fsc
theorem jhE:FnScope ["row", "below", "thing"] ["row"] (jf xm):=fsc
theorem jhx:FnScope ["thing", "row", "depth", "counted"] ["thing"] (jf JT):=fsc
theorem jhC:FnScope ["thing"] ["thing"] (jf JR):=fsc
theorem jhw:FnScope ["thing"] ["thing"] (jf JU):=fsc
theorem jhy:FnScope ["thing"] ["thing"] (jf QX):=fsc
theorem jhz:FnScope ["thing"] ["thing"] (jf JS):=fsc
theorem jhB:FnScope ["thing"] ["thing"] (jf QV):=fsc
theorem jhp:FnScope ["term", "met", "found"] ["term"] (jf WB):=fsc
theorem jhA:FnScope ["thing"] ["thing"] (jf QW):=fsc
theorem jhn:FnScope ["thing"] ["thing"] (jf yO):=fsc
theorem jg5:FnScope ["self", "rules"] ["self", "rules"] (jf zi):=fsc
theorem jhe:FnScope ["_law_number", "_law_k", "_law_mixed_here"] ["_law_number", "_law_k"] (jf xN):=fsc
theorem jhk:FnScope ["_law_number", "_law_names_here", "_law_deep", "_law_free", "_law_kind", "_law_which", "_law_count"] ["_law_number", "_law_names_here", "_law_deep", "_law_free"] (jf yQ):=fsc
theorem jhl:FnScope ["_law_found"] ["_law_found"] (jf xK):=fsc
theorem jg8:FnScope ["_law_term_here", "_law_found", "_law_place"] ["_law_term_here"] (jf xp):=fsc
theorem jhi:FnScope ["_law_number", "_law_names_here", "_law_free", "_law_left", "_law_many"] ["_law_number", "_law_names_here"] (jf yR):=fsc
theorem jhg:FnScope ["_law_term_here", "_law_path", "_law_found", "_law_k"] ["_law_term_here", "_law_path"] (jf xL):=fsc
theorem jhh:FnScope ["_law_term_here", "_law_path", "_law_other", "_law_at"] ["_law_term_here", "_law_path", "_law_other"] (jf JV):=fsc
theorem jhb:FnScope ["_law_term_here", "_law_filling"] ["_law_term_here", "_law_filling"] (jf xo):=fsc
theorem jg9:FnScope ["_law_number", "_law_names_here", "_law_rules", "_law_free", "_law_term_here", "_law_left", "_law_filling", "_law_spots", "_law_path", "_law_k", "_law_blank"] ["_law_number", "_law_names_here", "_law_rules"] (jf xP):=fsc
theorem jhc:FnScope ["_law_pattern", "_law_term_here", "_law_due_here", "_law_left", "_law_one", "_law_other"] ["_law_pattern", "_law_term_here"] (jf JW):=fsc
theorem jha:FnScope ["_law_rules", "_law_term_here", "_law_due_here", "_law_path", "_law_piece", "_law_number", "_law_rule_here", "_law_filling"] ["_law_rules", "_law_term_here"] (jf JX):=fsc
theorem jhH:FnScope ["term", "found", "number", "place"] ["term"] (jf YC):=fsc
theorem jhs:FnScope ["pattern", "term", "filling", "place", "there"] ["pattern", "term", "filling"] (jf QZ):=fsc
theorem jht:FnScope ["pattern", "term", "filling"] ["pattern", "term"] (jf QY):=fsc
theorem jhq:FnScope ["term"] ["term"] (jf Q0):=fsc
theorem jhJ:FnScope ["term", "path", "other", "at"] ["term", "path", "other"] (jf yM):=fsc
theorem jhr:FnScope ["term", "filling"] ["term", "filling"] (jf yN):=fsc
theorem jhK:FnScope ["term", "path", "rule", "filling"] ["term", "path", "rule", "filling"] (jf QU):=fsc
theorem jg6:FnScope ["self", "term", "found", "path", "there", "number", "rule", "filling"] ["self", "term"] (jf wt):=fsc
theorem jhd:FnScope ["_law_found", "_law_step"] ["_law_found"] (jf xO):=fsc
theorem jg7:FnScope ["self"] ["self"] (jf wR):=fsc
theorem jhD:FnScope ["_law_script", "_law_lead", "_law_names_here", "_law_some", "_law_rules", "_law_k", "_law_cell", "_law_term_here", "_law_due_here", "_law_found", "_law_again"] ["_law_script"] (jf WA):=fsc
section
variable (P:aaD) (w:World) (K:aaa) (mg:Str->Option Value) (base:Heap) (k:Nat)
abbrev xF (f:List D->Res D):Prop:=Av P w K mg base k "_law_spread" ["_law_cell", "_law_k"] true f
abbrev yj (f:List D->Res D):Prop:=Av P w K mg base k "_law_names" ["_law_number"] true f
abbrev xC (f:List D->Res D):Prop:=Av P w K mg base k "places" ["term"] true f
abbrev Jc (f:List D->Res D):Prop:=Av P w K mg base k "parts" ["term"] true f
abbrev Ua (f:List D->Res D):Prop:=Av P w K mg base k "head" ["term"] true f
abbrev Je (f:List D->Res D):Prop:=Av P w K mg base k "all_heads" ["terms"] true f
abbrev xD (f:List D->Res D):Prop:=Av P w K mg base k "level_below" ["row"] true f
abbrev yE (f:List D->Res D):Prop:=Av P w K mg base k "is_great" ["thing"] true f
abbrev Qg (f:List D->Res D):Prop:=Av P w K mg base k "is_whole" ["thing"] true f
abbrev Qi (f:List D->Res D):Prop:=Av P w K mg base k "is_blank" ["thing"] true f
abbrev ZH (f:List D->Res D):Prop:=Av P w K mg base k "is_name" ["thing"] true f
abbrev Qh (f:List D->Res D):Prop:=Av P w K mg base k "is_piece" ["thing"] true f
abbrev ZF (f:List D->Res D):Prop:=Av P w K mg base k "is_term" ["thing"] true f
abbrev Xj (f:List D->Res D):Prop:=Av P w K mg base k "blanks" ["term"] true f
abbrev ZG (f:List D->Res D):Prop:=Av P w K mg base k "is_rule" ["thing"] true f
abbrev Jd (f:List D->Res D):Prop:=Av P w K mg base k "are_rules" ["thing"] true f
abbrev zw (f:FO):Prop:=AvK P w K mg base k "Rules" 1 f
abbrev ze (f:List D->Res D):Prop:=Av P w K mg base k "_law_mixed" ["_law_number", "_law_k"] true f
abbrev wG (f:List D->Res D):Prop:=Av P w K mg base k "_law_term" ["_law_number", "_law_names_here", "_law_deep", "_law_free"] false f
abbrev qo (f:List D->Res D):Prop:=Av P w K mg base k "_law_whole" ["_law_found"] true f
abbrev zu (f:List D->Res D):Prop:=Av P w K mg base k "_law_blanks" ["_law_term_here"] true f
abbrev Jf (f:List D->Res D):Prop:=Av P w K mg base k "_law_rule" ["_law_number", "_law_names_here"] true f
abbrev zd (f:List D->Res D):Prop:=Av P w K mg base k "_law_parts" ["_law_term_here", "_law_path"] true f
abbrev xj (f:List D->Res D):Prop:=Av P w K mg base k "_law_put" ["_law_term_here", "_law_path", "_law_other"] false f
abbrev zr (f:List D->Res D):Prop:=Av P w K mg base k "_law_filled" ["_law_term_here", "_law_filling"] false f
abbrev yl (f:List D->Res D):Prop:=Av P w K mg base k "_law_drawn" ["_law_number", "_law_names_here", "_law_rules"] false f
abbrev Qj (f:List D->Res D):Prop:=Av P w K mg base k "_law_fit" ["_law_pattern", "_law_term_here"] true f
abbrev Qk (f:List D->Res D):Prop:=Av P w K mg base k "_law_due" ["_law_rules", "_law_term_here"] true f
abbrev Xi (f:List D->Res D):Prop:=Av P w K mg base k "paths" ["term"] true f
abbrev JJ (f:FI):Prop:=AvI P w K mg base k "fits_on" ["pattern", "term", "filling"] 2 f
abbrev ZI (f:List D->Res D):Prop:=Av P w K mg base k "fitting" ["pattern", "term"] true f
abbrev ZJ (f:List D->Res D):Prop:=Av P w K mg base k "bounded" ["term"] false f
abbrev xB (f:List D->Res D):Prop:=Av P w K mg base k "put_there" ["term", "path", "other"] false f
abbrev xE (f:List D->Res D):Prop:=Av P w K mg base k "exchanged" ["term", "filling"] false f
abbrev ZE (f:List D->Res D):Prop:=Av P w K mg base k "stepped" ["term", "path", "rule", "filling"] false f
abbrev wH (f:List D->Res D):Prop:=AvM P w K mg base k "Rules" "steps" ["self", "term"] true f
abbrev yk (f:List D->Res D):Prop:=Av P w K mg base k "_law_kinds" ["_law_found"] true f
abbrev wU (f:List D->Res D):Prop:=AvM P w K mg base k "Rules" "told" ["self"] true f
end
section
variable {P:aaD} {w:World} {K:aaa} {mg:Str->Option Value} {base:Heap} {k:Nat} {C:Addr}
theorem ZO (T:Gm K  mg) (d:Dx K mg "_law_spread" xn ["_law_cell", "_law_k"]):
  xF P w K mg base (k+1) (runF true 3 (wj)):=
 qP true d jhj fun f cdv A outer s H E hr=>
  (je (by exact (jJ 2 jhj.nd (DE.s (jI jx jM (o_s K5 K6 ib ib) i_s))))
 (by exact (jh (jN (Kp (l:= .t) xT xU (DE.b (jI jx jM (o_s xS Qp (J5 (vb 0) (vb 2)) ib) (o_s xS Qp (DE.b (jI jx jM (DE.s (jI jx jM (o_s xS Qp (vb 1) (vb 1)) (o_s xS Qp ib (vb 1)))) i_s)) ib))) (vb 2))))))
theorem WK (T : Gm K  mg) (d : Dx K mg "_law_names" xM ["_law_number"]) :
    yj P w K mg base (k + 1) (runF true 7 (wL)) :=
  qP true d jhf fun f cdv A outer s H E hr =>
    (je (by exact (jJ 1 jhf.nd (jcn (l := .s))))
  (by exact (je (by exact (Wn (DE.s (xz zO xi rfl T.b_divmod zc (ja (dv 0) (ja i_s jd)))) (wf rfl (jn 0 jhf.nd) (jn 4 jhf.nd))))
  (by exact (je (by exact (Wn (DE.s (xz zO xi rfl T.b_divmod zc (ja (dv 0) (ja (by exact (DE.s (jI jx jM (dv 4) i_s))) jd)))) (wf rfl (jn 0 jhf.nd) (jn 5 jhf.nd))))
  (by exact (je (by exact (jJ 2 jhf.nd (jcn (l := .s))))
  (by exact (je (by exact (we aaM rfl (xf rfl T.b_range (ja (by exact (DE.b (jI jx jM (dv 4) i_s))) jd)) (jn 3 jhf.nd) (je (by exact (Wn (DE.s (xz zO xi rfl T.b_divmod zc (ja (dv 0) (ja i_s jd)))) (wf rfl (jn 0 jhf.nd) (jn 6 jhf.nd))))
    (by exact (jh (jJ 2 jhf.nd (DE.s (jI jx jM (dv 2) (qd (dv 1) (vb 6))))))))))
  (by exact (jh (jN (zN false ["_law_k", "_law_base", "_law_letters", "_law_at", "_law_number", "."] 1 [2, 1, 5, 0] (zp rfl rfl (show (["_law_k", "_law_base", "_law_letters", "_law_at", "_law_number", "."] : List Str).Nodup by decide +kernel) (by intro p hp; simp only [aah, aaq, or_false] at hp; rcases hp with rfl | rfl | rfl | rfl <;> rfl) rfl) rfl (xf rfl T.b_range (ja ib jd)) (fun C s₂ H₂ fp => ⟨(jn 0 (show (["_law_k", "_law_base", "_law_letters", "_law_at", "_law_number", "."] : List Str).Nodup by decide +kernel)), zm, (DE.s (jI jx jM (DE.s (jI jx jM (DE.s (qO (dv 1) zM (qY (vb 3)))) (qd (dv 2) (J5 (DE.b (jI jx jM (dv 4) (o_s xS Qp ib (vb 0)))) ib)))) (DE.s (qO (dv 1) (qY (DE.b (jI jx jM (dv 3) i_s))) zM))))⟩))))))))))))))
theorem vt (T:Gm K  mg) (d:Dx K mg "places" Wz ["term"]):
  xC P w K mg base (k+1) (runF true 1 (Vr)):=
 qP true d jhI fun f cdv A outer s H E hr=>
  (jh (jN (jcp (qk (zE (l':= .b) "tuple" "tuple" qi (vb 0) rfl T.b_isinstance rfl T.b_tuple aaA)) (qO (dv 0) (qY ib) zM) (q9 jd))))
theorem jaI (T : Gm K  mg) (d : Dx K mg "parts" YD ["term"]) (zT : xC P w K mg base k j0) (xG : Jc P w K mg base k qv) :
    Jc P w K mg base (k + 1) (runF true 3 (Zr j0 qv)) :=
  qP true d jhG fun f cdv A outer s H E hr =>
    (je (by exact (wO 1 jhG.nd (qG (ja (dv 0) jd))))
  (by exact (je (by exact (we aaM rfl (zW (DE.s (by exact Av.callT zT hr (ja (dv 0) jd)))) (jn 2 jhG.nd) (jh (xc 1 (DE.s (by exact Av.callT xG hr (ja (dv 2) jd)))))))
  (by exact (jh (ye 1))))))
theorem jc1 (T:Gm K  mg) (d:Dx K mg "head" kK ["term"]):
  Ua P w K mg base (k+1) (runF true 1 (Wl)):=
 qP true d jhu fun f cdv A outer s H E hr=>
  (jh (jN (jcp (qk (zE (l':= .b) "tuple" "tuple" qi (vb 0) rfl T.b_isinstance rfl T.b_tuple aaA)) (q9 (ja (by exact (qd (dv 0) ib)) (ja (by exact (o_s vn vx (j5 (l':= .b) qc wE rfl T.b_len aa3 (ja (vb 0) jd)) ib)) jd))) (X7 (l:= .t)))))
theorem XG (T : Gm K  mg) (d : Dx K mg "all_heads" yP ["terms"]) (xG : Jc P w K mg base k qv) (Ub : Ua P w K mg base k Qs) :
    Je P w K mg base (k + 1) (runF true 4 (xv qv Qs)) :=
  qP true d jhm fun f cdv A outer s H E hr =>
    (je (by exact (wO 1 jhm.nd uP))
  (by exact (je (by exact (we aaM rfl (zW (dv 0)) (jn 2 jhm.nd) (jh (we aaM rfl (zW (DE.s (by exact Av.callT xG hr (ja (dv 2) jd)))) (jn 3 jhm.nd) (jh (qX (qk (zE (l' := .b) "tuple" "tuple" qi (vb 3) rfl T.b_isinstance rfl T.b_tuple aaA)) (jh (jbu 1 (ua hr) (DE.b (by exact Av.callT Ub hr (ja (dv 3) jd))) (xJ (l := .s)))) jR))))))
  (by exact (jh (jcj 1 (jN (xz (Yc rfl) UW rfl T.b_sorted Yh (ja (dv 1) jd)))))))))
theorem ZN (T : Gm K  mg) (d : Dx K mg "level_below" xm ["row"]) (zT : xC P w K mg base k j0) :
    xD P w K mg base (k + 1) (runF true 3 (wg j0)) :=
  qP true d jhE fun f cdv A outer s H E hr =>
    (je (by exact (wO 1 jhE.nd (qG jd)))
  (by exact (je (by exact (we aaM rfl (zW (dv 0)) (jn 2 jhE.nd) (jh (xc 1 (DE.s (by exact Av.callT zT hr (ja (dv 2) jd)))))))
  (by exact (jh (ye 1))))))
theorem YZ (T : Gm K  mg) (d : Dx K mg "is_great" JT ["thing"]) (Xk : xD P w K mg base k xx) :
    yE P w K mg base (k + 1) (runF true 4 (yy xx)) :=
  qP true d jhx fun f cdv A outer s H E hr =>
    (je (by exact (jJ 1 jhx.nd (DE.s (qG (ja (dv 0) jd)))))
  (by exact (je (by exact (jJ 2 jhx.nd i_s))
  (by exact (je (by exact (jJ 3 jhx.nd i_s))
  (by exact (je (by exact (VH 2000 aaM (jfN (vb 1)) (je (by exact (jck 2 jhx.nd ib jcd))
    (by exact (je (by exact (jck 3 jhx.nd (j5 (l' := .b) qc wE rfl T.b_len aa3 (ja (vb 1) jd)) jcd))
    (by exact (je (by exact (qX (DW.dt (y6 (qh jcX jc3 (vb 2) (gi rfl T.c_MOST_LEVELS)) (yd (qh jcX jc3 (vb 3) (gi rfl T.c_MOST_PARTS))))) (jh (jN (xJ (l := .t)))) jR))
    (by exact (jh (jJ 1 jhx.nd (DE.s (by exact Av.callT Xk hr (ja (dv 1) jd)))))))))))))
  (by exact (jh (jN (xJ (l := .t))))))))))))
theorem YX (T:Gm K  mg) (d:Dx K mg "is_whole" JR ["thing"]):
  Qg P w K mg base (k+1) (runF true 1 (Wj)):=
 qP true d jhC fun f cdv A outer s H E hr=>
  (jh (jN (Wp (zE (l':= .b) "int" "int" Vk (vb 0) rfl T.b_isinstance rfl T.b_int aef) (Wo (uK (l:= .t) (zE (l':= .b) "bool" "bool" XT (vb 0) rfl T.b_isinstance rfl T.b_bool ad5))))))
theorem Y0 (T:Gm K  mg) (d:Dx K mg "is_blank" JU ["thing"]) (U3:Qg P w K mg base k J9):
  Qi P w K mg base (k+1) (runF true 1 (yz J9)):=
 qP true d jhw fun f cdv A outer s H E hr=>
  (jh (jN (Wp (DE.b (by exact Av.callT U3 hr (ja (dv 0) jd))) (Wo (VM (l:= .t) Uw UE Uw UE ib (vb 0) (gi rfl T.c_MOST_BLANK))))))
theorem UA (T:Gm K  mg) (d:Dx K mg "is_name" QX ["thing"]):
  ZH P w K mg base (k+1) (runF true 1 (xZ)):=
 qP true d jhy fun f cdv A outer s H E hr=>
  (je (by exact (qX (DW.dt (y6 (zD (qk (zE (l':= .b) "str" "str" ja7 (vb 0) rfl T.b_isinstance rfl T.b_str PyProof.Rows.boot_str))) (yd (zD (jbs Uw UE Uw UE ib (j5 (l':= .b) qc wE rfl T.b_len aa3 (ja (vb 0) jd)) (gi rfl T.c_MOST_LETTERS)))))) (jh (jN (xJ (l:= .t)))) jR))
 (by exact (jh (jN (j5 (l':= .t) (JH rfl) VW rfl T.b_all acq (ja (by exact (DE.b (zN false ["sign", "."] 1 [] (zp rfl rfl (show (["sign", "."]:List Str).Nodup by decide+kernel) (by intro p hp;cases hp) rfl) rfl (zW (dv 0)) (fun C s₂ H₂ fp=>⟨(jn 0 (show (["sign", "."]:List Str).Nodup by decide+kernel)),zm,(VL (l:= .s) vp jfb (vb 0) (gst rfl T.c_LETTERS))⟩)))) jd))))))
theorem YY (T:Gm K  mg) (d:Dx K mg "is_piece" JS ["thing"]) (U5:Qi P w K mg base k Qb) (u9:ZH P w K mg base k Zv):
  Qh P w K mg base (k+1) (runF true 1 (w6 Qb Zv)):=
 qP true d jhz fun f cdv A outer s H E hr=>
  (je (by exact (qX (qk (zE (l':= .b) "tuple" "tuple" qi (vb 0) rfl T.b_isinstance rfl T.b_tuple aaA)) (jh (jN (Wp (VM (l:= .b) Uw UE Uw UE ib (j5 (l':= .b) qc wE rfl T.b_len aa3 (ja (vb 0) jd)) (DE.b (jI jx jM (gis rfl T.c_MOST_PLACES) i_s))) (Wo (by exact Av.callT u9 hr (ja (by exact (qd (dv 0) ib)) jd)))))) jR))
 (by exact (jh (jN (by exact Av.callT U5 hr (ja (dv 0) jd))))))
theorem Uy (T:Gm K  mg) (d:Dx K mg "is_term" QV ["thing"]) (Qm:yE P w K mg base k zL) (U4:Qh P w K mg base k Qa) (xG:Jc P w K mg base k qv):
  ZF P w K mg base (k+1) (runF true 1 (Ju zL Qa qv)):=
 qP true d jhB fun f cdv A outer s H E hr=>
  (jh (jN (Wp (uK (l:= .b) (DE.b (by exact Av.callT Qm hr (ja (dv 0) jd)))) (Wo (j5 (l':= .t) (JH rfl) VW rfl T.b_all acq (ja (by exact (DE.b (zN false ["found", "."] 1 [] (zp rfl rfl (show (["found", "."]:List Str).Nodup by decide+kernel) (by intro p hp;cases hp) rfl) rfl (zW (DE.s (by exact Av.callT xG hr (ja (dv 0) jd)))) (fun C s₂ H₂ fp=>⟨(jn 0 (show (["found", "."]:List Str).Nodup by decide+kernel)),zm,(DE.s (by exact Av.callT U4 hr (ja (dv 0) jd)))⟩)))) jd))))))
theorem vv (T : Gm K  mg) (d : Dx K mg "blanks" WB ["term"]) (xG : Jc P w K mg base k qv) :
    Xj P w K mg base (k + 1) (runF true 3 (QE qv)) :=
  qP true d jhp fun f cdv A outer s H E hr =>
    (je (by exact (wO 1 jhp.nd QK))
  (by exact (je (by exact (we aaM rfl (zW (DE.s (by exact Av.callT xG hr (ja (dv 0) jd)))) (jn 2 jhp.nd) (jh (qX (zD (qk (zE (l' := .b) "tuple" "tuple" qi (vb 2) rfl T.b_isinstance rfl T.b_tuple aaA))) (jh (uE 1 (ua hr) (vb 2) (xJ (l := .s)))) jR))))
  (by exact (jh (jcj 1 (jN (zo (UX rfl) jbJ rfl T.b_list wo (ja (dv 1) jd)))))))))
theorem Uz (T : Gm K  mg) (d : Dx K mg "is_rule" QW ["thing"]) (Yp : ZF P w K mg base k JA) (Uc : Xj P w K mg base k QH) :
    ZG P w K mg base (k + 1) (runF true 1 (Jv JA QH)) :=
  qP true d jhA fun f cdv A outer s H E hr =>
    (je (by exact (qX (DW.dt (y6 (zD (qk (zE (l' := .b) "tuple" "tuple" qi (vb 0) rfl T.b_isinstance rfl T.b_tuple aaA))) (yd (qh (wJ (Room.u200 hr)) J4 (j5 (l' := .b) qc wE rfl T.b_len aa3 (ja (vb 0) jd)) ib)))) (jh (jN (xJ (l := .t)))) jR))
  (by exact (je (by exact (qX (DW.dt (y6 (zD (qk (DE.b (by exact Av.callT Yp hr (ja (by exact (qd (dv 0) ib)) jd))))) (y6 (zD (qk (DE.b (by exact Av.callT Yp hr (ja (by exact (qd (dv 0) ib)) jd))))) (yd (zD (qk (zE (l' := .b) "tuple" "tuple" qi (DE.b (qd (dv 0) ib)) rfl T.b_isinstance rfl T.b_tuple aaA))))))) (jh (jN (xJ (l := .t)))) jR))
  (by exact (jh (jN (VL (l := .t) (xH (Room.u200 hr)) Zc (uI rfl (by exact (DE.b (by exact Av.callT Uc hr (ja (by exact (qd (dv 0) ib)) jd)))) (by exact (DE.b (by exact Av.callT Uc hr (ja (by exact (qd (dv 0) ib)) jd)))) rfl T.b_len rfl T.b_set) ib)))))))
theorem XF (T:Gm K  mg) (d:Dx K mg "are_rules" yO ["thing"]) (u8:ZG P w K mg base k Zu):
  Jd P w K mg base (k+1) (runF true 1 (xu Zu)):=
 qP true d jhn fun f cdv A outer s H E hr=>
  (je (by exact (qX (DW.dt (y6 (zD (qk (zE (l':= .b) "list" "list" XS (vb 0) rfl T.b_isinstance rfl T.b_list wo))) (yd (qh jcX jc3 (j5 (l':= .b) qc wE rfl T.b_len aa3 (ja (vb 0) jd)) (gi rfl T.c_MOST_RULES))))) (jh (jN (xJ (l:= .t)))) jR))
 (by exact (jh (jN (j5 (l':= .t) (JH rfl) VW rfl T.b_all acq (ja (by exact (DE.b (zN false ["rule", "."] 1 [] (zp rfl rfl (show (["rule", "."]:List Str).Nodup by decide+kernel) (by intro p hp;cases hp) rfl) rfl (zW (dv 0)) (fun C s₂ H₂ fp=>⟨(jn 0 (show (["rule", "."]:List Str).Nodup by decide+kernel)),zm,(DE.s (by exact Av.callT u8 hr (ja (dv 0) jd)))⟩)))) jd))))))
theorem yV (T : Gm K  mg) (d : Dm K C "__init__" "Rules.__init__" zi ["self", "rules"]) (hC : aax K aav "Rules" = some (some (.ref C)) /\ Cls K C) (hmg : mg "Rules" = some (.ref C)) (mk : acP K C = true /\ aaR K (.ref C) = true) (KF : Je P w K mg base k y0) (KD : Jd P w K mg base k yZ) :
    zw P w K mg base (k + 1) (runJ 2 1 (jZ y0 yZ)) :=
  jf2 d hC hmg mk jg5 rfl (by decide) fun f cdv A outer s H E hr =>
    (X5 (by exact (jfP (zD (qk (DE.b (by exact Av.callT KD hr (ja (dv 1) jd))))) (VF uB) jbt))
  (by exact (X5 (by exact (VG (i := 0) T.f_Rules_listed (by exact (DE.s (zo yh Kt rfl T.b_list wo (ja (dv 1) jd))))))
  (by exact (VF (VG (i := 0) T.f_Rules_named (by exact (DE.s (by exact Av.callT KF hr (ja (by exact (DE.s (jI jx jM (DE.s (zN false ["left", "right", "."] 2 [] (zp rfl rfl (show (["left", "right", "."] : List Str).Nodup by decide +kernel) (by intro p hp; cases hp) rfl) rfl (zW (dv 1)) (fun C s₂ H₂ fp => ⟨(wf rfl (jn 0 (show (["left", "right", "."] : List Str).Nodup by decide +kernel)) (jn 1 (show (["left", "right", "."] : List Str).Nodup by decide +kernel))), zm, (dv 0)⟩))) (DE.s (zN false ["left", "right", "."] 2 [] (zp rfl rfl (show (["left", "right", "."] : List Str).Nodup by decide +kernel) (by intro p hp; cases hp) rfl) rfl (zW (dv 1)) (fun C s₂ H₂ fp => ⟨(wf rfl (jn 0 (show (["left", "right", "."] : List Str).Nodup by decide +kernel)) (jn 1 (show (["left", "right", "."] : List Str).Nodup by decide +kernel))), zm, (dv 1)⟩)))))) jd))))))))))
theorem WL (T:Gm K  mg) (d:Dx K mg "_law_mixed" xN ["_law_number", "_law_k"]):
  ze P w K mg base (k+1) (runF true 3 (wM)):=
 qP true d jhe fun f cdv A outer s H E hr=>
  (je (by exact (jJ 2 jhe.nd (o_s xT xU (DE.b (jI jx jM (o_s xS Qp (vb 0) ib) (o_s xS Qp (DE.b (jI jx jM (dv 1) i_s)) ib))) (DE.b (jI jx jM (o_s K5 K6 ib ib) i_s)))))
 (by exact (jh (jN (Kp (l:= .t) xT xU (ob xS Qp (vb 2) (vb 2)) (DE.b (jI jx jM (o_s K5 K6 ib ib) i_s)))))))
theorem XH (T : Gm K  mg) (d : Dx K mg "_law_term" yQ ["_law_number", "_law_names_here", "_law_deep", "_law_free"]) (qI : wG P w K mg base k jO) (jX : ze P w K mg base k jt) :
    wG P w K mg base (k + 1) (runF false 7 (zK jO jt)) :=
  qP false d jhk fun f cdv A outer s H E hr =>
    (je (by exact (Wn (DE.s (xz zO xi rfl T.b_divmod zc (ja (dv 0) (ja i_s jd)))) (wf rfl (jn 0 jhk.nd) (jn 4 jhk.nd))))
  (by exact (je (by exact (qX (DW.dt (VD (qh (wJ (Room.u200 hr)) J4 (vb 3) (DE.b (qG jd))) (Xa (DW.dt (y6 (qh (xH (Room.u200 hr)) Zc (vb 4) ib) (yd (DW.dt (VD (qh (xH (Room.u200 hr)) Zc (vb 2) ib) (Xa (qh je8 jfa (vb 4) ib)))))))))) (jh (yf (qd (dv 3) (J5 (vb 0) (j5 (l' := .b) qc wE rfl T.b_len aa3 (ja (vb 3) jd)))))) jR))
  (by exact (je (by exact (Wn (DE.s (xz zO xi rfl T.b_divmod zc (ja (dv 0) (ja i_s jd)))) (wf rfl (jn 0 jhk.nd) (jn 5 jhk.nd))))
  (by exact (je (by exact (Wn (DE.s (xz zO xi rfl T.b_divmod zc (ja (dv 0) (ja i_s jd)))) (wf rfl (jn 0 jhk.nd) (jn 6 jhk.nd))))
  (by exact (je (by exact (qX (qh (xH (Room.u200 hr)) Zc (vb 2) ib) (jh (jJ 6 jhk.nd i_s)) jR))
  (by exact (jh (jN (zo zq JG rfl T.b_tuple aaA (ja (by exact (DE.s (jI jx jM (DE.s (qG (ja (by exact (qd (dv 1) (vb 5))) jd))) (DE.s (zN false ["_law_k", "_law_names_here", "_law_free", "_law_number", "_law_deep", "."] 1 [1, 3, 0, 2] (zp rfl rfl (show (["_law_k", "_law_names_here", "_law_free", "_law_number", "_law_deep", "."] : List Str).Nodup by decide +kernel) (by intro p hp; simp only [aah, aaq, or_false] at hp; rcases hp with rfl | rfl | rfl | rfl <;> rfl) rfl) rfl (xf rfl T.b_range (ja (vb 6) jd)) (fun C s₂ H₂ fp => ⟨(jn 0 (show (["_law_k", "_law_names_here", "_law_free", "_law_number", "_law_deep", "."] : List Str).Nodup by decide +kernel)), zm, (by exact Av.call qI hr (ja (by exact (DE.s (by exact Av.callT jX hr (ja (dv 3) (ja (dv 0) jd))))) (ja (dv 1) (ja (by exact (o_s vn vx (vb 4) ib)) (ja (dv 2) jd)))))⟩)))))) jd))))))))))))))
theorem WI (T:Gm K  mg) (d:Dx K mg "_law_whole" xK ["_law_found"]):
  qo P w K mg base (k+1) (runF true 1 (Qr)):=
 qP true d jhl fun f cdv A outer s H E hr=>
  (jh (jN (Wp (zE (l':= .b) "int" "int" Vk (vb 0) rfl T.b_isinstance rfl T.b_int aef) (Wo (uK (l:= .t) (zE (l':= .b) "bool" "bool" XT (vb 0) rfl T.b_isinstance rfl T.b_bool ad5))))))
theorem ZQ (T : Gm K  mg) (d : Dx K mg "_law_blanks" xp ["_law_term_here"]) (jL : qo P w K mg base k jm) (zz : zu P w K mg base k jQ) :
    zu P w K mg base (k + 1) (runF true 3 (qN jm jQ)) :=
  qP true d jg8 fun f cdv A outer s H E hr =>
    (je (by exact (qX (qk (DE.b (by exact Av.callT jL hr (ja (dv 0) jd)))) (jh (jN (qG (ja (dv 0) jd)))) jR))
  (by exact (je (by exact (wO 1 jg8.nd (qG jd)))
  (by exact (je (by exact (we aaM rfl (zW (DE.s (qO (dv 0) (qY ib) zM))) (jn 2 jg8.nd) (jh (xc 1 (DE.s (by exact Av.callT zz hr (ja (dv 2) jd)))))))
  (by exact (jh (ye 1))))))))
theorem XI (T : Gm K  mg) (d : Dx K mg "_law_rule" yR ["_law_number", "_law_names_here"]) (qI : wG P w K mg base k jO) (jX : ze P w K mg base k jt) (jL : qo P w K mg base k jm) (zz : zu P w K mg base k jQ) :
    Jf P w K mg base (k + 1) (runF true 5 (xw jO jt jm jQ)) :=
  qP true d jhi fun f cdv A outer s H E hr =>
    (je (by exact (jJ 2 jhi.nd (DE.s (qG (ja (by exact (o_s xT xU (vb 0) ib)) (ja (by exact (o_s xT xU (DE.b (jI jx jM (DE.s (jI jx jM (dv 0) i_s)) (o_s xT xU (Qu (vb 0) ib) ib))) ib)) jd))))))
  (by exact (je (by exact (jJ 3 jhi.nd (by exact Av.call qI hr (ja (by exact (DE.s (by exact Av.callT jX hr (ja (dv 0) (ja i_s jd))))) (ja (dv 1) (ja i_s (ja (dv 2) jd)))))))
  (by exact (je (by exact (qX (DW.dt (y6 (qk (DE.b (by exact Av.callT jL hr (ja (dv 3) jd)))) (yd (qh (xH (Room.u200 hr)) Zc (J5 (Qu (vb 0) (ZR ib ib)) ib) ib)))) (jh (jJ 3 jhi.nd (DE.s (zo zq JG rfl T.b_tuple aaA (ja (by exact (DE.s (jI jx jM (DE.s (qG (ja (by exact (qd (dv 1) (J5 (Qu (vb 0) (ZR ib ib)) ib))) jd))) (DE.s (qO (DE.s (qG (ja (by exact (qd (dv 2) (J5 (Qu (vb 0) (ZR ib ib)) ib))) (ja (by exact (qd (dv 2) ib)) jd)))) zM (qY (J5 (Qu (vb 0) (ZR ib ib)) ib))))))) jd))))) (jh (qX (qh (xH (Room.u200 hr)) Zc (J5 (Qu (vb 0) (ZR ib ib)) ib) ib) (je (by exact (jJ 4 jhi.nd (DE.s (jI jx jM i_s (o_s xT xU (Qu (vb 0) (ZR ib ib)) ib)))))
      (by exact (jh (jJ 3 jhi.nd (DE.s (zo zq JG rfl T.b_tuple aaA (ja (by exact (DE.s (jI jx jM (DE.s (qG (ja (by exact (qd (dv 1) (J5 (Qu (vb 0) (ZR ib ib)) ib))) jd))) (DE.s (zN false ["_law_k", "_law_names_here", "_law_free", "_law_number", "."] 1 [1, 2, 0] (zp rfl rfl (show (["_law_k", "_law_names_here", "_law_free", "_law_number", "."] : List Str).Nodup by decide +kernel) (by intro p hp; simp only [aah, aaq, or_false] at hp; rcases hp with rfl | rfl | rfl <;> rfl) rfl) rfl (xf rfl T.b_range (ja (vb 4) jd)) (fun C s₂ H₂ fp => ⟨(jn 0 (show (["_law_k", "_law_names_here", "_law_free", "_law_number", "."] : List Str).Nodup by decide +kernel)), zm, (by exact Av.call qI hr (ja (by exact (DE.s (by exact Av.callT jX hr (ja (dv 3) (ja (by exact (DE.s (jI jx jM i_s (dv 0)))) jd))))) (ja (dv 1) (ja i_s (ja (dv 2) jd)))))⟩)))))) jd))))))) jR))))
  (by exact (jh (jN (q9 (ja (dv 3) (ja (by exact (by exact Av.call qI hr (ja (by exact (DE.s (by exact Av.callT jX hr (ja (dv 0) (ja i_s jd))))) (ja (dv 1) (ja i_s (ja (by exact (DE.s (by exact Av.callT zz hr (ja (dv 3) jd)))) jd)))))) jd)))))))))))
theorem WJ (T : Gm K  mg) (d : Dx K mg "_law_parts" xL ["_law_term_here", "_law_path"]) (jL : qo P w K mg base k jm) (qJ : zd P w K mg base k jG) :
    zd P w K mg base (k + 1) (runF true 4 (wK jm jG)) :=
  qP true d jhg fun f cdv A outer s H E hr =>
    (je (by exact (wO 2 jhg.nd (qG (ja (by exact (DE.s (q9 (ja (dv 1) (ja (dv 0) jd))))) jd))))
  (by exact (je (by exact (qX (zD (qk (DE.b (by exact Av.callT jL hr (ja (dv 0) jd))))) (jh (we aaM rfl (xf rfl T.b_range (ja (by exact (ob vn vx (j5 (l' := .b) qc wE rfl T.b_len aa3 (ja (vb 0) jd)) ib)) jd)) (jn 3 jhg.nd) (jh (xc 2 (DE.s (by exact Av.callT qJ hr (ja (by exact (qd (dv 0) (DE.b (jI vq vz i_s (dv 3))))) (ja (by exact (DE.s (jI vq vz (dv 1) (DE.s (q9 (ja (dv 3) jd)))))) jd)))))))) jR))
  (by exact (jh (ye 2))))))
theorem Y1 (T : Gm K  mg) (d : Dx K mg "_law_put" JV ["_law_term_here", "_law_path", "_law_other"]) (xl : xj P w K mg base k qj) :
    xj P w K mg base (k + 1) (runF false 4 (wn qj)) :=
  qP false d jhh fun f cdv A outer s H E hr =>
    (je (by exact (qX (qh (xH (Room.u200 hr)) Zc (vb 1) (DE.b (q9 jd))) (jh (yf (dv 2))) jR))
  (by exact (je (by exact (jJ 3 jhh.nd (DE.s (jI jx jM i_s (qd (dv 1) ib)))))
  (by exact (jh (jN (jI jx jM (DE.s (jI jx jM (DE.s (qO (dv 0) zM (qY (vb 3)))) (DE.s (q9 (ja (by exact (by exact Av.call xl hr (ja (by exact (qd (dv 0) (vb 3))) (ja (by exact (DE.s (qO (dv 1) (qY ib) zM))) (ja (dv 2) jd))))) jd))))) (DE.s (qO (dv 0) (qY (DE.b (jI jx jM (dv 3) i_s))) zM)))))))))
theorem ZP (T:Gm K  mg) (d:Dx K mg "_law_filled" xo ["_law_term_here", "_law_filling"]) (jL:qo P w K mg base k jm) (zy:zr P w K mg base k jP):
  zr P w K mg base (k+1) (runF false 2 (qM jm jP)):=
 qP false d jhb fun f cdv A outer s H E hr=>
  (je (by exact (qX (qk (DE.b (by exact Av.callT jL hr (ja (dv 0) jd)))) (jh (yf (uN (ua hr) (dv 1) (vb 0) (dv 0)))) jR))
 (by exact (jh (jN (zo zq JG rfl T.b_tuple aaA (ja (by exact (DE.s (jI jx jM (DE.s (qG (ja (by exact (qd (dv 0) ib)) jd))) (DE.s (zN false ["_law_place", "_law_filling", "."] 1 [1] (zp rfl rfl (show (["_law_place", "_law_filling", "."]:List Str).Nodup by decide+kernel) (by intro p hp;simp only [aah,aaq,or_false] at hp;rcases hp with rfl<;>rfl) rfl) rfl (zW (DE.s (qO (dv 0) (qY ib) zM))) (fun C s₂ H₂ fp=>⟨(jn 0 (show (["_law_place", "_law_filling", "."]:List Str).Nodup by decide+kernel)),zm,(by exact Av.call zy hr (ja (dv 0) (ja (dv 1) jd)))⟩)))))) jd))))))
theorem WN (T : Gm K  mg) (d : Dx K mg "_law_drawn" xP ["_law_number", "_law_names_here", "_law_rules"]) (qI : wG P w K mg base k jO) (jX : ze P w K mg base k jt) (qJ : zd P w K mg base k jG) (xl : xj P w K mg base k qj) (zz : zu P w K mg base k jQ) (zy : zr P w K mg base k jP) :
    yl P w K mg base (k + 1) (runF false 11 (q8 jO jt jG qj jQ jP)) :=
  qP false d jg9 fun f cdv A outer s H E hr =>
    (je (by exact (jJ 3 jg9.nd (DE.s (qG (ja (by exact (o_s xT xU (vb 0) ib)) (ja (by exact (o_s xT xU (DE.b (jI jx jM (DE.s (jI jx jM (dv 0) i_s)) (o_s xT xU (Qu (vb 0) ib) ib))) ib)) jd))))))
  (by exact (je (by exact (jJ 4 jg9.nd (by exact Av.call qI hr (ja (by exact (DE.s (by exact Av.callT jX hr (ja (dv 0) (ja i_s jd))))) (ja (dv 1) (ja i_s (ja (dv 3) jd)))))))
  (by exact (je (by exact (qX (DW.dt (VD (qh (wJ (Room.u200 hr)) J4 (vb 2) (DE.b (qG jd))) (Xa (qh (xH (Room.u200 hr)) Zc (J5 (Qu (vb 0) (ZR ib ib)) ib) ib)))) (je (by exact (jJ 5 jg9.nd (qd (qd (dv 2) (J5 (Qu (vb 0) (ZR ib ib)) (j5 (l' := .b) qc wE rfl T.b_len aa3 (ja (vb 2) jd)))) ib)))
    (by exact (je (by exact (wO 6 jg9.nd QK))
    (by exact (je (by exact (we aaM rfl (Xd rfl T.b_enumerate (by exact (DE.s (by exact Av.callT zz hr (ja (dv 5) jd))))) (wf rfl (jn 9 jg9.nd) (jn 10 jg9.nd)) (jh (uE 6 (ua hr) (vb 10) (by exact Av.call qI hr (ja (by exact (DE.s (by exact Av.callT jX hr (ja (dv 0) (ja (by exact (DE.s (jI jx jM i_s (dv 9)))) jd))))) (ja (dv 1) (ja i_s (ja (dv 3) jd)))))))))
    (by exact (je (by exact (jJ 7 jg9.nd (DE.s (by exact Av.callT qJ hr (ja (dv 4) (ja (DE.s (q9 jd)) jd))))))
    (by exact (je (by exact (jJ 8 jg9.nd (qd (qd (dv 7) (J5 (DE.b (by exact Av.callT jX hr (ja (dv 0) (ja i_s jd)))) (j5 (l' := .b) qc wE rfl T.b_len aa3 (ja (vb 7) jd)))) ib)))
    (by exact (jh (jJ 4 jg9.nd (DE.chk (l' := .s) (by exact Av.callA xl hr (ja (vb 4) (ja (vb 8) (ja (by exact (by exact Av.callA zy hr (ja (vb 5) (ja (db 6) jd)))) jd))))))))))))))))) jR))
  (by exact (jh (yf (dv 4)))))))))
theorem Y2 (T : Gm K  mg) (d : Dx K mg "_law_fit" JW ["_law_pattern", "_law_term_here"]) (jL : qo P w K mg base k jm) :
    Qj P w K mg base (k + 1) (runF true 6 (yA jm)) :=
  qP true d jhc fun f cdv A outer s H E hr =>
    (je (by exact (wO 2 jhc.nd QK))
  (by exact (je (by exact (wO 3 jhc.nd (qG (ja (by exact (DE.s (q9 (ja (dv 0) (ja (dv 1) jd))))) jd))))
  (by exact (je (by exact (VH 4000 aaM (qh (wJ (Room.u200 hr)) J4 (db 3) (DE.b (qG jd))) (je (by exact (jfQ 3 (wf rfl (jn 4 jhc.nd) (jn 5 jhc.nd))))
    (by exact (jh (qX (qk (DE.b (by exact Av.callT jL hr (ja (dv 4) jd)))) (jh (jdB (Room.u200 hr) 2 (vb 4) (dv 5) (vb 5) (jh (jN (X7 (l := .t)))) jR)) (jh (qX (DW.dt (y6 (qk (DE.b (by exact Av.callT jL hr (ja (dv 5) jd)))) (y6 (qh (wJ (Room.u200 hr)) J4 (DE.b (qd (dv 4) ib)) (DE.b (qd (dv 5) ib))) (yd (qh (wJ (Room.u200 hr)) J4 (j5 (l' := .b) qc wE rfl T.b_len aa3 (ja (vb 4) jd)) (j5 (l' := .b) qc wE rfl T.b_len aa3 (ja (vb 5) jd))))))) (jh (jN (X7 (l := .t)))) (jh (xc 3 (DE.s (zN false ["_law_k", "_law_one", "_law_other", "."] 1 [4, 5] (zp rfl rfl (show (["_law_k", "_law_one", "_law_other", "."] : List Str).Nodup by decide +kernel) (by intro p hp; simp only [aah, aaq, or_false] at hp; rcases hp with rfl | rfl <;> rfl) rfl) rfl (uG rfl T.b_range (ja ib (ja (by exact (j5 (l' := .b) qc wE rfl T.b_len aa3 (ja (vb 4) jd))) jd))) (fun C s₂ H₂ fp => ⟨(jn 0 (show (["_law_k", "_law_one", "_law_other", "."] : List Str).Nodup by decide +kernel)), zm, (DE.s (q9 (ja (by exact (qd (dv 1) (vb 0))) (ja (by exact (qd (dv 2) (vb 0))) jd))))⟩)))))))))))))
  (by exact (jh (ye 2))))))))
theorem Y3 (T : Gm K  mg) (d : Dx K mg "_law_due" JX ["_law_rules", "_law_term_here"]) (qJ : zd P w K mg base k jG) (U6 : Qj P w K mg base k Qc) (xl : xj P w K mg base k qj) (zy : zr P w K mg base k jP) :
    Qk P w K mg base (k + 1) (runF true 8 (yB jG Qc qj jP)) :=
  qP true d jha fun f cdv A outer s H E hr =>
    (je (by exact (wO 2 jha.nd (qG jd)))
  (by exact (je (by exact (we aaM rfl (zW (DE.s (by exact Av.callT qJ hr (ja (dv 1) (ja (DE.s (q9 jd)) jd))))) (wf rfl (jn 3 jha.nd) (jn 4 jha.nd)) (jh (we aaM rfl (Xd rfl T.b_enumerate (dv 0)) (wf rfl (jn 5 jha.nd) (jn 6 jha.nd)) (je (by exact (jJ 7 jha.nd (DE.s (by exact Av.callT U6 hr (ja (by exact (qd (dv 6) ib)) (ja (dv 4) jd))))))
      (by exact (jh (qX (qh vo vy (vb 7) (X7 (l := .b))) (jh (X6 2 (DE.s (q9 (ja (dv 3) (ja (dv 5) (ja (by exact (by exact Av.call xl hr (ja (dv 1) (ja (dv 3) (ja (by exact (by exact Av.call zy hr (ja (by exact (qd (dv 6) ib)) (ja (dv 7) jd)))) jd))))) jd))))))) jR))))))))
  (by exact (jh (ye 2))))))
theorem jaH (T : Gm K  mg) (d : Dx K mg "paths" YC ["term"]) (zT : xC P w K mg base k j0) (KC : Xi P w K mg base k yY) :
    Xi P w K mg base (k + 1) (runF true 4 (W4 j0 yY)) :=
  qP true d jhH fun f cdv A outer s H E hr =>
    (je (by exact (wO 1 jhH.nd (qG (ja (DE.s (q9 jd)) jd))))
  (by exact (je (by exact (we aaM rfl (jbA rfl T.b_enumerate (by exact (DE.s (by exact Av.callT zT hr (ja (dv 0) jd))))) (wf rfl (jn 2 jhH.nd) (jn 3 jhH.nd)) (jh (xc 1 (DE.s (zN false ["rest", "number", "."] 1 [2] (zp rfl rfl (show (["rest", "number", "."] : List Str).Nodup by decide +kernel) (by intro p hp; simp only [aah, aaq, or_false] at hp; rcases hp with rfl <;> rfl) rfl) rfl (zW (DE.s (by exact Av.callT KC hr (ja (dv 3) jd)))) (fun C s₂ H₂ fp => ⟨(jn 0 (show (["rest", "number", "."] : List Str).Nodup by decide +kernel)), zm, (DE.s (jI jx jM (DE.s (q9 (ja (dv 1) jd))) (dv 0)))⟩)))))))
  (by exact (jh (ye 1))))))
theorem UC (T : Gm K  mg) (d : Dx K mg "fits_on" QZ ["pattern", "term", "filling"]) (Ub : Ua P w K mg base k Qs) (zT : xC P w K mg base k j0) (ZK : JJ P w K mg base k wA) :
    JJ P w K mg base (k + 1) (runI 5 2 (zV Qs j0 wA)) :=
  jf4 d jhs rfl (by decide) fun f cdv A outer s H E hr =>
    (Zy (by exact (jci (zD (qk (zE (l' := .b) "tuple" "tuple" qi (vb 0) rfl T.b_isinstance rfl T.b_tuple aaA))) (JD (uC (Room.u200 hr) 2 (vb 0) (dv 1) (vb 1))) Xb))
  (by exact (Zy (by exact (jci (qh (wJ (Room.u200 hr)) J4 (DE.b (by exact Av.callT Ub hr (ja (dv 0) jd))) (DE.b (by exact Av.callT Ub hr (ja (dv 1) jd)))) (JD (Kn (xJ (l := .b)))) Xb))
  (by exact (Zy (by exact (jdA aaM rfl (jfU rfl T.b_zip (by exact (DE.s (by exact Av.callT zT hr (ja (dv 0) jd)))) (by exact (DE.s (by exact Av.callT zT hr (ja (dv 1) jd))))) (jdI rfl (VI 3 (by decide) jhs.nd) (VI 4 (by decide) jhs.nd)) (JD (jdz (by exact AvI.call 2 ZK hr (dv 3) (dv 4)) (JD (Kn (xJ (l := .b)))) Xb))))
  (by exact (JD (Kn (xJ (l := .b))))))))))
theorem UB (T:Gm K  mg) (d:Dx K mg "fitting" QY ["pattern", "term"]) (ZK:JJ P w K mg base k wA):
  ZI P w K mg base (k+1) (runF true 3 (Jw wA)):=
 qP true d jht fun f cdv A outer s H E hr=>
  (je (by exact (wO 2 jht.nd QK))
 (by exact (jh (uD (by exact AvI.call 2 ZK hr (dv 0) (dv 1)) (hn:=jb4)))))
theorem UD (T:Gm K  mg) (d:Dx K mg "bounded" Q0 ["term"]) (Qm:yE P w K mg base k zL):
  ZJ P w K mg base (k+1) (runF false 1 (Jx zL)):=
 qP false d jhq fun f cdv A outer s H E hr=>
  (je (by exact (qX (qk (DE.b (by exact Av.callT Qm hr (ja (dv 0) jd)))) uA jR))
 (by exact (jh (yf (dv 0)))))
theorem XD (T : Gm K  mg) (d : Dx K mg "put_there" yM ["term", "path", "other"]) (Jg : xB P w K mg base k qV) :
    xB P w K mg base (k + 1) (runF false 4 (zI qV)) :=
  qP false d jhJ fun f cdv A outer s H E hr =>
    (je (by exact (qX (qh (xH (Room.u200 hr)) Zc (vb 1) (DE.b (q9 jd))) (jh (yf (dv 2))) jR))
  (by exact (je (by exact (jJ 3 jhJ.nd (DE.s (jI jx jM (qd (dv 1) ib) i_s))))
  (by exact (jh (jN (jI jx jM (DE.s (jI jx jM (DE.s (qO (dv 0) zM (qY (vb 3)))) (DE.s (q9 (ja (by exact (by exact Av.call Jg hr (ja (by exact (qd (dv 0) (vb 3))) (ja (by exact (DE.s (qO (dv 1) (qY ib) zM))) (ja (dv 2) jd))))) jd))))) (DE.s (qO (dv 0) (qY (DE.b (jI jx jM (dv 3) i_s))) zM)))))))))
theorem XE (T:Gm K  mg) (d:Dx K mg "exchanged" yN ["term", "filling"]) (Jh:xE P w K mg base k qW) (zT:xC P w K mg base k j0):
  xE P w K mg base (k+1) (runF false 2 (zJ qW j0)):=
 qP false d jhr fun f cdv A outer s H E hr=>
  (je (by exact (qX (zD (qk (zE (l':= .b) "tuple" "tuple" qi (vb 0) rfl T.b_isinstance rfl T.b_tuple aaA))) (jh (yf (uN (ua hr) (dv 1) (vb 0) (dv 0)))) jR))
 (by exact (jh (jN (jI jx jM (DE.s (qO (dv 0) zM (qY ib))) (DE.s (zo zq JG rfl T.b_tuple aaA (ja (by exact (DE.s (zN false ["place", "filling", "."] 1 [1] (zp rfl rfl (show (["place", "filling", "."]:List Str).Nodup by decide+kernel) (by intro p hp;simp only [aah,aaq,or_false] at hp;rcases hp with rfl<;>rfl) rfl) rfl (zW (DE.s (by exact Av.callT zT hr (ja (dv 0) jd)))) (fun C s₂ H₂ fp=>⟨(jn 0 (show (["place", "filling", "."]:List Str).Nodup by decide+kernel)),zm,(by exact Av.call Jh hr (ja (dv 0) (ja (dv 1) jd)))⟩)))) jd))))))))
theorem Ux (T:Gm K  mg) (d:Dx K mg "stepped" QU ["term", "path", "rule", "filling"]) (jab:ZJ P w K mg base k Zx) (Jg:xB P w K mg base k qV) (Jh:xE P w K mg base k qW):
  ZE P w K mg base (k+1) (runF false 4 (Jt Zx qV qW)):=
 qP false d jhK fun f cdv A outer s H E hr=>
  (jh (yf (by exact Av.call jab hr (ja (by exact (by exact Av.call Jg hr (ja (dv 0) (ja (dv 1) (ja (by exact (by exact Av.call Jh hr (ja (by exact (qd (dv 2) ib)) (ja (dv 3) jd)))) jd))))) jd))))
theorem Qt (T : Gm K  mg) (d : Dm K C "steps" "Rules.steps" wt ["self", "term"]) (hC : aax K aav "Rules" = some (some (.ref C)) /\ Cls K C) (KC : Xi P w K mg base k yY) (xG : Jc P w K mg base k qv) (jaa : ZI P w K mg base k Zw) (u7 : ZE P w K mg base k Zt) :
    wH P w K mg base (k + 1) (runF true 8 (zj yY qv Zw Zt)) :=
  jct true d hC jg6 fun f cdv A outer s H E hr =>
    (je (by exact (wO 2 jg6.nd (qG jd)))
  (by exact (je (by exact (we aaM rfl (jdH rfl T.b_zip (by exact (DE.s (by exact Av.callT KC hr (ja (dv 1) jd)))) (by exact (DE.s (by exact Av.callT xG hr (ja (dv 1) jd))))) (wf rfl (jn 3 jg6.nd) (jn 4 jg6.nd)) (jh (we aaM rfl (Xd rfl T.b_enumerate (by exact (uO 0 T.f_Rules_listed))) (wf rfl (jn 5 jg6.nd) (jn 6 jg6.nd)) (je (by exact (jJ 7 jg6.nd (DE.s (by exact Av.callT jaa hr (ja (by exact (qd (dv 6) ib)) (ja (dv 4) jd))))))
      (by exact (jh (qX (qh vo vy (vb 7) (X7 (l := .b))) (jh (X6 2 (DE.s (q9 (ja (dv 3) (ja (dv 5) (ja (by exact (by exact Av.call u7 hr (ja (dv 1) (ja (dv 3) (ja (dv 6) (ja (dv 7) jd)))))) jd))))))) jR))))))))
  (by exact (jh (ye 2))))))
theorem WM (T : Gm K  mg) (d : Dx K mg "_law_kinds" xO ["_law_found"]) (jL : qo P w K mg base k jm) :
    yk P w K mg base (k + 1) (runF true 2 (wN jm)) :=
  qP true d jhd fun f cdv A outer s H E hr =>
    (je (by exact (qX (zD (qk (zE (l' := .b) "list" "list" XS (vb 0) rfl T.b_isinstance rfl T.b_list wo))) (jh (jN (xJ (l := .t)))) jR))
  (by exact (je (by exact (we aaM rfl (zW (dv 0)) (jn 1 jhd.nd) (je (by exact (qX (DW.dt (y6 (zD (qk (zE (l' := .b) "tuple" "tuple" qi (vb 1) rfl T.b_isinstance rfl T.b_tuple aaA))) (y6 (qh (wJ (Room.u200 hr)) J4 (j5 (l' := .b) qc wE rfl T.b_len aa3 (ja (vb 1) jd)) ib) (y6 (zD (qk (zE (l' := .b) "tuple" "tuple" qi (DE.b (qd (dv 1) ib)) rfl T.b_isinstance rfl T.b_tuple aaA))) (yd (zD (qk (DE.b (by exact Av.callT jL hr (ja (by exact (qd (dv 1) ib)) jd)))))))))) (jh (jN (xJ (l := .t)))) jR))
    (by exact (jh (qX (zD (qk (j5 (l' := .b) (JH rfl) VW rfl T.b_all acq (ja (by exact (DE.b (zN false ["_law_k", "."] 1 [] (zp rfl rfl (show (["_law_k", "."] : List Str).Nodup by decide +kernel) (by intro p hp; cases hp) rfl) rfl (zW (qd (dv 1) ib)) (fun C s₂ H₂ fp => ⟨(jn 0 (show (["_law_k", "."] : List Str).Nodup by decide +kernel)), zm, (DE.s (by exact Av.callT jL hr (ja (dv 0) jd)))⟩)))) jd)))) (jh (jN (xJ (l := .t)))) jR))))))
  (by exact (jh (jN (xJ (l := .t))))))))
theorem Zb (T:Gm K  mg) (d:Dm K C "told" "Rules.told" wR ["self"]) (hC:aax K aav "Rules" =some (some (.ref C))/\Cls K C):
  wU P w K mg base (k+1) (runF true 1 (zS)):=
 jct true d hC jg7 fun f cdv A outer s H E hr=>
  (jh (jN (zo yh Kt rfl T.b_list wo (ja (by exact (uO 0 T.f_Rules_listed)) jd))))
theorem je9 {f : Addr} {fd : abC} (T : Gm K  mg) (Fu : Fun K "law" "law" WA f fd) (JK : xF P w K mg base k wl) (Yq : yj P w K mg base k x8) {wz : Nat} (JL : zw P w K mg base wz zl) (yX : wz + 1 <= k) (KG : Jf P w K mg base k y4) (Ys : yl P w K mg base k ya) (Qn : Qk P w K mg base k xb) (qK : wH P w K mg base k j9) (jX : ze P w K mg base k jt) (Yr : yk P w K mg base k x9) (ZU : wU P w K mg base k wT) (qJ : zd P w K mg base k jG) :
    FnOk P w K mg base CX0 (k + 1) f fd ["_law_script"] (spF K true 1 (runF true 11 (jbh wl x8 zl y4 ya xb j9 jt x9 wT jG))) :=
  UQ true Fu jhD fun cdv A outer s H E hr =>
    (je (by exact (jJ 1 jhD.nd (DE.s (by exact Av.callT JK hr (ja (by exact (qd (DE.s (jI jcZ jc4 (dv 0) (DE.s (qG (ja i_s jd))))) ib)) (ja i_s jd))))))
  (by exact (je (by exact (jJ 2 jhD.nd (DE.s (by exact Av.callT Yq hr (ja (dv 1) jd)))))
  (by exact (je (by exact (jbv 3 jhD.nd false ["_law_k", "_law_names_here", "_law_lead", "."] 1 [2, 1] (zp rfl rfl (show (["_law_k", "_law_names_here", "_law_lead", "."] : List Str).Nodup by decide +kernel) (by intro p hp; simp only [aah, aaq, or_false] at hp; rcases hp with rfl | rfl <;> rfl) rfl) rfl (xf rfl T.b_range (ja (by exact (J5 (Qu (vb 1) (ZR ib ib)) ib)) jd)) (fun C s₂ H₂ fp => ⟨(jn 0 (show (["_law_k", "_law_names_here", "_law_lead", "."] : List Str).Nodup by decide +kernel)), zm, (DE.s (by exact Av.callT KG hr (ja (by exact (DE.s (by exact Av.callT jX hr (ja (dv 2) (ja (dv 0) jd))))) (ja (dv 1) jd))))⟩)))
  (by exact (je (by exact (jJ 4 jhD.nd (DE.s (by exact AvK.make JL (hr.mono yX) (by exact (ja (by exact (DE.s (zo yh Kt rfl T.b_list wo (ja (dv 3) jd)))) jd))))))
  (by exact (je (by exact (we aaM rfl (Xd rfl T.b_enumerate (by exact (DE.s (uJ (dv 0) (qY ib) (qY ib))))) (wf rfl (jn 5 jhD.nd) (jn 6 jhD.nd)) (je (by exact (jJ 7 jhD.nd (by exact Av.call Ys hr (ja (by exact (DE.s (by exact Av.callT JK hr (ja (dv 6) (ja (by exact (DE.s (jI jx jM (dv 5) i_s))) jd))))) (ja (dv 2) (ja (dv 3) jd))))))
    (by exact (je (by exact (jJ 8 jhD.nd (DE.s (by exact Av.callT Qn hr (ja (dv 3) (ja (dv 7) jd))))))
    (by exact (je (by exact (wO 9 jhD.nd (by exact AvM.callT qK hr (dv 4) (ja (dv 7) jd))))
    (by exact (je (by exact (qX (DW.dt (y6 (zD (qk (by exact Av.callA Yr hr (ja (db 9) jd)))) (yd (qh (wJ (Room.u200 hr)) J4 (db 9) (vb 8))))) (jh (jN (xJ (l := .t)))) jR))
    (by exact (je (by exact (jbx 9))
    (by exact (je (by exact (jJ 10 jhD.nd (DE.s (by exact AvM.callT qK hr (dv 4) (ja (dv 7) jd)))))
    (by exact (je (by exact (qX (DW.dt (y6 (qh (wJ (Room.u200 hr)) J4 (vb 10) (vb 8)) (yd (qh (wJ (Room.u200 hr)) J4 (DE.b (by exact AvM.call0T ZU hr (dv 4))) (vb 3))))) (jh (jN (xJ (l := .t)))) jR))
    (by exact (jh (qX (DW.dt (VD (qh (wJ (Room.u200 hr)) J4 (vb 8) (DE.b (qG jd))) (Xa (qh je8 jfa (j5 (l' := .b) qc wE rfl T.b_len aa3 (ja (by exact (DE.b (by exact Av.callT qJ hr (ja (by exact (qd (qd (dv 8) (uL (l' := .b) ib)) ib)) (ja (DE.s (q9 jd)) jd))))) jd)) ib)))) (jh (qX (qh (wJ (Room.u200 hr)) J4 (DE.b (by exact AvM.callT qK hr (dv 4) (by exact (ja (by exact (qd (qd (dv 8) (uL (l' := .b) ib)) ib)) jd)))) (DE.b (by exact Av.callT Qn hr (ja (dv 3) (ja (by exact (qd (qd (dv 8) (uL (l' := .b) ib)) ib)) jd))))) (jh (jN (xJ (l := .t)))) jR)) jR))))))))))))))))))
  (by exact (jh (jN (Wp (VL (l := .b) (xH (Room.u200 hr)) Zc (DE.b (by exact AvM.callT qK hr (dv 4) (by exact (ja (by exact (DE.s (q9 (ja (by exact (qd (dv 2) ib)) jd)))) jd)))) (DE.b (by exact Av.callT Qn hr (ja (dv 3) (ja (by exact (DE.s (q9 (ja (by exact (qd (dv 2) ib)) jd)))) jd))))) (Wo (VL (l := .t) (xH (Room.u200 hr)) Zc (DE.b (by exact AvM.callT qK hr (dv 4) (by exact (ja i_s jd)))) (DE.b (qG jd)))))))))))))))))
end
end G
namespace G
open PySem PySem.Spec L2 M
open PyProof.Rows hiding St
theorem all_mk {l:aeb} {w:World} {K:aaa} {h:Heap} {mg:Str->Option Value} {fa p38:Addr} (KX:K.In h) (G:h.Ns aav mg) (hfa:mg "law" =some (.ref fa))
  {od38 an38:Option Addr} {sl38:Array (Option Value)} {oc38 kV38 dc38 pm38 cd38 ct38:Value} {a_Rules:Addr}
  (d0:DefN K "_law_spread" xn)
  (d1:DefN K "_law_names" xM)
  (d2:DefN K "places" Wz)
  (d3:DefN K "parts" YD)
  (d4:DefN K "head" kK)
  (d5:DefN K "all_heads" yP)
  (d6:DefN K "level_below" xm)
  (d7:DefN K "is_great" JT)
  (d8:DefN K "is_whole" JR)
  (d9:DefN K "is_blank" JU)
  (d10:DefN K "is_name" QX)
  (d11:DefN K "is_piece" JS)
  (d12:DefN K "is_term" QV)
  (d13:DefN K "blanks" WB)
  (d14:DefN K "is_rule" QW)
  (d15:DefN K "are_rules" yO)
  (d16:DefM K a_Rules "__init__" "Rules.__init__" zi)
  (d17:DefN K "_law_mixed" xN)
  (d18:DefN K "_law_term" yQ)
  (d19:DefN K "_law_whole" xK)
  (d20:DefN K "_law_blanks" xp)
  (d21:DefN K "_law_rule" yR)
  (d22:DefN K "_law_parts" xL)
  (d23:DefN K "_law_put" JV)
  (d24:DefN K "_law_filled" xo)
  (d25:DefN K "_law_drawn" xP)
  (d26:DefN K "_law_fit" JW)
  (d27:DefN K "_law_due" JX)
  (d28:DefN K "paths" YC)
  (d29:DefN K "fits_on" QZ)
  (d30:DefN K "fitting" QY)
  (d31:DefN K "bounded" Q0)
  (d32:DefN K "put_there" yM)
  (d33:DefN K "exchanged" yN)
  (d34:DefN K "stepped" QU)
  (d35:DefM K a_Rules "steps" "Rules.steps" wt)
  (d36:DefN K "_law_kinds" xO)
  (d37:DefM K a_Rules "told" "Rules.told" wR)
  (a38:aax K aav "law" =some (some (.ref p38))) (l38:K.lookup p38=some ⟨oc38,od38,.func (abV "law" "law" (yg WA) (ql WA) (jf WA) .none kV38 dc38 pm38 an38 cd38 ct38),sl38⟩) (c38:ac2 K cd38 "law" =true) (k38:aaR K (.ref p38)=true)
  (z0:aax K aav "isinstance" =some none)
  (z1:aax K aav "bool" =some none)
  (z2:aax K aav "int" =some none)
  (z3:aax K aav "all" =some none)
  (z4:aax K aav "len" =some none)
  (z5:aax K aav "tuple" =some none)
  (z6:aax K aav "list" =some none)
  (z7:aax K aav "sorted" =some none)
  (z8:aax K aav "set" =some none)
  (z9:aax K aav "range" =some none)
  (z10:aax K aav "divmod" =some none)
  (z11:aax K aav "str" =some none)
  (z12:aax K aav "enumerate" =some none)
  (z13:aax K aav "zip" =some none)
  (y_LETTERS: ∃t,aax K aav "LETTERS" =some (some (.str "abcdefghijklmnopqrstuvwxyz" t)))
  (y_MOST_LETTERS: ∃t,aax K aav "MOST_LETTERS" =some (some (.int 8 t)))
  (y_MOST_PLACES: ∃t,aax K aav "MOST_PLACES" =some (some (.int 9 t)))
  (y_MOST_BLANK: ∃t,aax K aav "MOST_BLANK" =some (some (.int 999 t)))
  (y_MOST_LEVELS: ∃t,aax K aav "MOST_LEVELS" =some (some (.int 60 t)))
  (y_MOST_PARTS: ∃t,aax K aav "MOST_PARTS" =some (some (.int 1000 t)))
  (y_MOST_RULES: ∃t,aax K aav "MOST_RULES" =some (some (.int 40 t)))
  (yD:aax K aav "Rules" =some (some (.ref a_Rules))) (Jm:acD K a_Rules Str.empty=true) (Js:ac6 K a_Rules=true) (Jl:adW K a_Rules=true) (Jk:aa8 K (.ref a_Rules) "__setattr__" =some (some (.builtin "object.__setattr__")))
  (wy:aa8 K (.ref a_Rules) "listed" =some none)
  (wS:aa8 K (.ref a_Rules) "named" =some none)
  (WQ:acP K a_Rules=true) (WV:aaR K (.ref a_Rules)=true)
  : ∃fd:abC,(∀(s:aaj) (v:Value),BindsTo s fd ⟨[v],[]⟩ [("_law_script",v)])/\ ∀base:Heap,K.In base->base.Ns aav mg->FnOk l.prog w K mg base CX0 71 fa fd ["_law_script"] (spF K true 1 F_law):=by
 have e:=hfa.symm.trans (abD KX G a38);cases e;have T:Gm K  mg:=⟨aaP KX G z0,aaP KX G z1,aaP KX G z2,aaP KX G z3,aaP KX G z4,aaP KX G z5,aaP KX G z6,aaP KX G z7,aaP KX G z8,aaP KX G z9,aaP KX G z10,aaP KX G z11,aaP KX G z12,aaP KX G z13,y_LETTERS.imp fun _ h=>abD KX G h,y_MOST_LETTERS.imp fun _ h=>abD KX G h,y_MOST_PLACES.imp fun _ h=>abD KX G h,y_MOST_BLANK.imp fun _ h=>abD KX G h,y_MOST_LEVELS.imp fun _ h=>abD KX G h,y_MOST_PARTS.imp fun _ h=>abD KX G h,y_MOST_RULES.imp fun _ h=>abD KX G h,⟨a_Rules,yD,⟨Jm,Js,Jl,Jk⟩,wy⟩,⟨a_Rules,yD,⟨Jm,Js,Jl,Jk⟩,wS⟩⟩
 have U:=jcf (st:=WA) l38 c38 k38;have Xf:aax K aav "Rules" =some (some (.ref a_Rules))/\Cls K a_Rules:=⟨yD,Jm,Js,Jl,Jk⟩
 refine ⟨abV "law" "law" (yg WA) (ql WA) (jf WA) .none kV38 dc38 pm38 an38 cd38 ct38,fun s v=> .of_eq rfl,fun base _ _=>?_⟩;have V0:xF l.prog w K mg base 1 zx:=ZO (k:=0) T (d0.dx KX G tk2);have V1:yj l.prog w K mg base 1 wP:=WK (k:=0) T (d1.dx KX G tk1);have V2:xC l.prog w K mg base 1 jE:=vt (k:=0) T (d2.dx KX G tk1)
 have V3: ∀n,Jc l.prog w K mg base (1+n) (j6 n):=by
  intro n
  induction n with
  |zero=>exact Xg true (d3.dx KX G tk1)
  |succ n ih=>exact jaI (k:=1+n) T (d3.dx KX G tk1) (V2.mono (by omega)) ih
 have V4:Ua l.prog w K mg base 1 zF:=jc1 (k:=0) T (d4.dx KX G tk1);have V5:Je l.prog w K mg base 66 zP:=XG (k:=65) T (d5.dx KX G tk1) ((V3 64).mono (by decide)) (V4.mono (by decide));have V6:xD l.prog w K mg base 2 qw:=ZN (k:=1) T (d6.dx KX G tk1) (V2.mono (by decide));have V7:yE l.prog w K mg base 3 zf:=YZ (k:=2) T (d7.dx KX G tk1) (V6.mono (by decide));have V8:Qg l.prog w K mg base 1 Ql:=YX (k:=0) T (d8.dx KX G tk1);have V9:Qi l.prog w K mg base 2 wq:=Y0 (k:=1) T (d9.dx KX G tk1) (V8.mono (by decide));have V10:ZH l.prog w K mg base 1 yo:=UA (k:=0) T (d10.dx KX G tk1);have V11:Qh l.prog w K mg base 3 wp:=YY (k:=2) T (d11.dx KX G tk1) (V9.mono (by decide)) (V10.mono (by decide));have V12:ZF l.prog w K mg base 66 ym:=Uy (k:=65) T (d12.dx KX G tk1) (V7.mono (by decide)) (V11.mono (by decide)) ((V3 64).mono (by decide));have V13:Xj l.prog w K mg base 66 QN:=vv (k:=65) T (d13.dx KX G tk1) ((V3 64).mono (by decide));have V14:ZG l.prog w K mg base 67 yn:=Uz (k:=66) T (d14.dx KX G tk1) (V12.mono (by decide)) (V13.mono (by decide));have V15:Jd l.prog w K mg base 68 qZ:=XF (k:=67) T (d15.dx KX G tk1) (V14.mono (by decide));have V16:zw l.prog w K mg base 69 qg:=yV (k:=68) T (d16.dm tk2) Xf (abD KX G yD) ⟨WQ,WV⟩ (V5.mono (by decide)) (V15.mono (by decide));have V17:ze l.prog w K mg base 1 jz:=WL (k:=0) T (d17.dx KX G tk2)
 have V18: ∀n,wG l.prog w K mg base (1+n) (jS n):=by
  intro n
  induction n with
  |zero=>exact Xg false (d18.dx KX G tk4)
  |succ n ih=>exact XH (k:=1+n) T (d18.dx KX G tk4) ih (V17.mono (by omega))
 have V19:qo l.prog w K mg base 1 jj:=WI (k:=0) T (d19.dx KX G tk1)
 have V20: ∀n,zu l.prog w K mg base (1+n) (jv n):=by
  intro n
  induction n with
  |zero=>exact Xg true (d20.dx KX G tk1)
  |succ n ih=>exact ZQ (k:=1+n) T (d20.dx KX G tk1) (V19.mono (by omega)) ih
 have V21:Jf l.prog w K mg base 66 wI:=XI (k:=65) T (d21.dx KX G tk2) ((V18 6).mono (by decide)) (V17.mono (by decide)) (V19.mono (by decide)) ((V20 64).mono (by decide))
 have V22: ∀n,zd l.prog w K mg base (1+n) (jy n):=by
  intro n
  induction n with
  |zero=>exact Xg true (d22.dx KX G tk2)
  |succ n ih=>exact WJ (k:=1+n) T (d22.dx KX G tk2) (V19.mono (by omega)) ih
 have V23: ∀n,xj l.prog w K mg base (0+n) (j3 n):=by
  intro n
  induction n with
  |zero=>exact Xg false (d23.dx KX G tk3)
  |succ n ih=>exact Y1 (k:=0+n) T (d23.dx KX G tk3) ih
 have V24: ∀n,zr l.prog w K mg base (1+n) (jF n):=by
  intro n
  induction n with
  |zero=>exact Xg false (d24.dx KX G tk2)
  |succ n ih=>exact ZP (k:=1+n) T (d24.dx KX G tk2) (V19.mono (by omega)) ih
 have V25:yl l.prog w K mg base 66 wa:=WN (k:=65) T (d25.dx KX G tk3) ((V18 6).mono (by decide)) (V17.mono (by decide)) ((V22 64).mono (by decide)) ((V23 64).mono (by decide)) ((V20 64).mono (by decide)) ((V24 64).mono (by decide));have V26:Qj l.prog w K mg base 2 zQ:=Y2 (k:=1) T (d26.dx KX G tk2) (V19.mono (by decide));have V27:Qk l.prog w K mg base 66 zR:=Y3 (k:=65) T (d27.dx KX G tk2) ((V22 64).mono (by decide)) (V26.mono (by decide)) ((V23 64).mono (by decide)) ((V24 64).mono (by decide))
 have V28: ∀n,Xi l.prog w K mg base (1+n) (wc n):=by
  intro n
  induction n with
  |zero=>exact Xg true (d28.dx KX G tk1)
  |succ n ih=>exact jaH (k:=1+n) T (d28.dx KX G tk1) (V2.mono (by omega)) ih
 have V29: ∀n,JJ l.prog w K mg base (1+n) (jD n):=by
  intro n
  induction n with
  |zero=>exact jf6 (d29.dx KX G tk3) rfl
  |succ n ih=>exact UC (k:=1+n) T (d29.dx KX G tk3) (V4.mono (by omega)) (V2.mono (by omega)) ih
 have V30:ZI l.prog w K mg base 66 zY:=UB (k:=65) T (d30.dx KX G tk2) ((V29 64).mono (by decide));have V31:ZJ l.prog w K mg base 4 yp:=UD (k:=3) T (d31.dx KX G tk1) (V7.mono (by decide))
 have V32: ∀n,xB l.prog w K mg base (0+n) (qH n):=by
  intro n
  induction n with
  |zero=>exact Xg false (d32.dx KX G tk3)
  |succ n ih=>exact XD (k:=0+n) T (d32.dx KX G tk3) ih
 have V33: ∀n,xE l.prog w K mg base (1+n) (qx n):=by
  intro n
  induction n with
  |zero=>exact Xg false (d33.dx KX G tk2)
  |succ n ih=>exact XE (k:=1+n) T (d33.dx KX G tk2) ih (V2.mono (by omega))
 have V34:ZE l.prog w K mg base 66 xk:=Ux (k:=65) T (d34.dx KX G tk4) (V31.mono (by decide)) ((V32 64).mono (by decide)) ((V33 64).mono (by decide));have V35:wH l.prog w K mg base 67 jw:=Qt (k:=66) T (d35.dm tk2) Xf ((V28 64).mono (by decide)) ((V3 64).mono (by decide)) (V30.mono (by decide)) (V34.mono (by decide));have V36:yk l.prog w K mg base 2 zZ:=WM (k:=1) T (d36.dx KX G tk1) (V19.mono (by decide));have V37:wU l.prog w K mg base 1 qy:=Zb (k:=0) T (d37.dm tk1) Xf;exact je9 (k:=70) T U (V0.mono (by decide)) (V1.mono (by decide)) V16 (by decide) (V21.mono (by decide)) (V25.mono (by decide)) (V27.mono (by decide)) (V35.mono (by decide)) (V17.mono (by decide)) (V36.mono (by decide)) (V37.mono (by decide)) ((V22 64).mono (by decide))
end G
namespace G
open PySem PySem.Spec L2 M
open Builtin.Int (intBits)
local macro_rules | `(tactic| decreasing_trivial) => `(tactic| first
  | (dsimp only [List.set, kz, kr, ku, kq, jal, kt, ko, kn])
  | (with_reducible (show _ = _; assumption))
  | (with_reducible apply yt)
  | (with_reducible apply Wx)
  | (with_reducible apply jf7)
  | (with_reducible apply jgR)
  | (with_reducible apply jgT)
  | (with_reducible apply qC)
  | (with_reducible apply JZ)
  | (with_reducible apply jgJ)
  | (with_reducible apply jr)
  | (with_reducible apply ji)
  | (with_reducible apply jfd)
  | (with_reducible apply jg0)
  | (with_reducible apply jg1)
  | (with_reducible apply jgZ)
  | (with_reducible apply jgY)
  | (with_reducible apply jH)
  | (with_reducible apply zX)
  | (with_reducible apply wr)
  | (with_reducible apply Zh)
  | (with_reducible apply jfw)
  | (with_reducible apply qf)
  | (with_reducible apply wx)
  | (with_reducible apply jgb)
  | (with_reducible apply YW)
  | (with_reducible apply qU)
  | (with_reducible apply qT)
  | (with_reducible apply Qq)
  | (with_reducible apply ke)
  | (with_reducible apply Vs)
  | (with_reducible apply jf9)
  | (with_reducible apply jfH)
  | (with_reducible apply jbI)
  | (with_reducible apply jdC)
  | (with_reducible apply kN)
  | (with_reducible apply jem)
  | (with_reducible apply jb9)
  | (with_reducible apply jfT)
  | (with_reducible apply jdG)
  | (with_reducible apply jbn)
  | (with_reducible apply Vb)
  | (with_reducible apply ix0)
  | (with_reducible apply ixL0)
  | (with_reducible apply ixL1)
  | (with_reducible apply jc8)
  | (with_reducible apply WR)
  | (with_reducible apply jdD)
  | (with_reducible apply jff)
  | (with_reducible apply jcD)
  | (with_reducible apply jcV)
  | (with_reducible apply jaE)
  | (with_reducible apply ja8)
  | (with_reducible apply jgW)
  | (with_reducible apply ixT1)
  | (with_reducible apply ixT2)
  | (with_reducible apply jfF)
  | (with_reducible apply jdy)
  | (with_reducible apply jcv)
  | (with_reducible apply sml)
  | (with_reducible apply smll)
  | (with_reducible apply KB)
  | ((with_reducible apply jgs); exact rfl) | ((with_reducible apply jgt); exact rfl)
  | ((with_reducible show powI _ _ = _); first | exact jgH | exact jgG | exact jgF | exact jgE | exact jgD | exact jgC | exact jgB | exact jgA | exact je7 | exact je6 | exact je5 | exact je4 | exact je3 | exact je2 | exact je1 | exact je0 | exact jeZ | exact jeY | exact jeX | exact jeW | exact jeV | exact jeU | exact jeT | exact jeS | exact jeR | exact jeQ | exact jeP | exact jeO | exact jeN | exact jeM | exact jeL | exact jeK | exact jeJ | exact jeI)
  | ((with_reducible show cD _ = _); exact rfl)
  | ((with_reducible show cDT _ = _); exact rfl)
  | ((with_reducible show isiD _ _ = _); exact rfl)
  | ((with_reducible show lenD _ = _); exact rfl)
  | ((with_reducible show List.contains _ _ = _); exact rfl)
  | ((with_reducible show fldD _ _ _ = _); exact rfl)
  | ((with_reducible show getElem? _ _ = _); exact rfl)
  | ((with_reducible show List.length _ = _); exact rfl)
  | ((with_reducible show zA _ = _); exact rfl)
  | ((with_reducible show vV _ = _); exact rfl)
  | ((with_reducible show isN _ _ = _); exact rfl)
  | ((with_reducible show notN _ _ = _); exact rfl)
  | ((with_reducible show slD _ _ _ = _); exact rfl)
  | ((with_reducible show yF _ = _); exact rfl)
  | ((with_reducible show Kd _ = _); exact rfl)
  | ((with_reducible show addD _ _ = _); exact rfl)
  | ((with_reducible show augI _ _ _ = _); exact rfl)
  | ((with_reducible show iOp _ _ _ _ = _); exact rfl)
  | ((with_reducible show ite _ _ _ = _); first | refine jfu (by first | rfl | assumption) ?_ | refine jfv (by first | rfl | assumption) ?_)
  | ((with_reducible show _ < _); first | omega | (simp only [aad, aas, aao, aan]; omega)) | ((with_reducible show _ <= _); first | omega | (simp only [aad, aas, aao, aan]; omega)) | ((with_reducible show _ /\ _); omega))
local macro_rules | `(tactic| decreasing_with $t) => `(tactic| (apply Eq.trans (b := Res.ok _); (repeat' decreasing_trivial); all_goals (try ($t))))
def abc:Str:= "abcdefghijklmnopqrstuvwxyz"
theorem cut1 (x:D) (r:List D):cutD (x::r) (some 1) none=r:=by
 have h1:HT.sIx (x::r).length 0 (some 1)=1:=by
  have:=HT.sIx_nat (x::r).length 0 1;simp only [aad] at this ⊢;exact this.trans (by omega)
 unfold cutD;rw [h1,HT.sIx_none];simp
theorem J0 {d:D} (h:jc5 d=true):jE [d]= .ok (.tup (kids d)):=by
 cases d with
 |tup ds=>
  cases ds with
  |nil=>rfl
  |cons x r=>
   show Res.ok (D.tup (cutD (x::r) (some 1) none))=_;rw [cut1];rfl
 |_=>first|rfl|cases h
theorem XQ {row:List D} (h:fines row=true) (hl:row.length<=1000):qw [.lst row]= .ok (.lst (wF row)):=by
 have key:=Zs (body:=qp (gN 2) (qa 1 (jg 1 jE (jb (rdS 2) nil1)))) (fun (a:List D×Slot)=>[.shr (.lst row),.own (.lst a.1),a.2]) (fun a d=>(a.1++kids d,.shr d)) (fun ds a=>fines ds=true/\a.1.length+(wF ds).length<=10000) (fun d ds a ⟨h1,h2⟩=>by
  simp only [fines,aap] at h1;have e:wF (d::ds)=kids d++wF ds:=rfl;rw [e,aao] at h2;refine ⟨?_,h1.2,by simp only [aao];omega⟩;show qa 1 (jg 1 jE (jb (rdS 2) nil1)) [.shr (.lst row),.own (.lst a.1),.shr d]=_;show (Res.ok a.1>>=fun ds=>jE [d]>>=_)=_;rw [J0 (QG h1.1)]
  exact jk (c:=a.1.length+(kids d).length<=aae) (aaC (by omega:_<=10000) (by decide))) row ([],.un) ⟨h,by have:=uZ h;simp only [aas];omega⟩
 have hfold: ∀(ds:List D) (a:List D×Slot),(ds.foldl (fun (a:List D×Slot) d=>(a.1++kids d,Slot.shr d)) a).1=a.1++wF ds:=by
  intro ds
  induction ds with
  |nil=>intro a;simp [wF]
  |cons d ds ih=>intro a;rw [List.foldl_cons,ih];simp [wF]
 have e1:wg jE (qm 3 [.lst row])= .ok (.rt true (.lst (wF row))):=by
  unfold wg;have h1:qm 3 [.lst row]=[.shr (.lst row),.un,.un]:=rfl;rw [h1];show (forD (qp (gN 2) (qa 1 (jg 1 jE (jb (rdS 2) nil1)))) row [.shr (.lst row),.own (.lst []),.un]>>=_)=_;rw [key];show Res.ok (Out.rt true (D.lst (row.foldl (fun (a:List D×Slot) d=>(a.1++kids d,Slot.shr d)) ([],.un)).1))=_;rw [hfold];simp
 exact yb e1
def Wh:Sl->Res Out:=(seqO (jW 2 (two (rdS 2) (cI 1) (augI fun i j=>i+j)))
 (seqO (jW 3 (two (rdS 3) (app (jb (rdS 1) nil1) lenD) (augI fun i j=>i+j)))
 (seqO (ifO (orB (asB (two (rdS 2) (cI 60) gtI)) (asB (two (rdS 3) (cI 1000) gtI))) (retO (cB true)) nxO)
 (jW 1 (jg 1 qw (jb (rdS 1) nil1))))))
theorem UO {d:D} {row:List D} {dp ct:Nat} (h:fines row=true):Wh [.shr d,.shr (.lst row),.shr (.int dp),.shr (.int ct)]=if 60<dp+1\/1000<ct+row.length then .ok (.rt true (.bl true)) else .ok (.nx [.shr d,.shr (.lst (wF row)),.shr (.int ((dp+1:Nat):Int)),.shr (.int ((ct+row.length:Nat):Int))]):=by
 have e0:Wh [.shr d,.shr (.lst row),.shr (.int dp),.shr (.int ct)]=((if decide ((60:Int)< (dp:Int)+1)=true then Res.ok true else Res.ok (decide ((1000:Int)< (ct:Int)+row.length)))>>=fun b=>(if b=true then Res.ok (Out.rt true (.bl true)) else Res.ok (.nx [.shr d,.shr (.lst row),.shr (.int ((dp:Int)+1)),.shr (.int ((ct:Int)+row.length))])))>>=outK (jW 1 (jg 1 qw (jb (rdS 1) nil1))):=by
   unfold Wh;rw [xI,Vw];show (seqO _ _) _=_;rw [xI];rfl
 rw [e0]
 by_cases h1:60<dp+1
 · rw [if_pos (by simp;omega),if_pos (.inl h1)];rfl
 · rw [if_neg (by simp;omega)]
   by_cases h2:1000<ct+row.length
   · rw [if_pos (.inr h2)];have:decide ((1000:Int)< (ct:Int)+row.length)=true:=by simp;omega
     rw [this];rfl
   · rw [if_neg (by omega)];have:decide ((1000:Int)< (ct:Int)+row.length)=false:=by simp;omega
     rw [this];show (qw [.lst row]>>=_)=_;rw [XQ h (by omega)];show Res.ok (Out.nx [.shr d,.shr (.lst (wF row)),.shr (.int ((dp:Int)+1)),.shr (.int ((ct:Int)+row.length))])=_;simp
theorem Wg (d:D): ∀(n:Nat) (row:List D) (dp ct:Nat),fines row=true->dp<=60->ct<=1000->62<=dp+n->
  ((60<dp+hgts row\/1000<ct+nums row)->q0 n (truF (rdS 1)) Wh [.shr d,.shr (.lst row),.shr (.int dp),.shr (.int ct)]= .ok (.rt true (.bl true)))/\
  (¬(60<dp+hgts row\/1000<ct+nums row)-> ∃env,q0 n (truF (rdS 1)) Wh [.shr d,.shr (.lst row),.shr (.int dp),.shr (.int ct)]= .ok (.nx env))
 |0,_,dp,ct,_,h1,_,h2=>by omega
 |n+1,row,dp,ct,hf,h1,h2,h3=>by
  cases row with
  |nil=>
   simp only [hgts,nums];exact ⟨fun h=>by omega,fun _=>⟨_,ZW rfl⟩⟩
  |cons x r=>
   have hs:=UO (d:=d) (dp:=dp) (ct:=ct) hf;have hb:=UN (x::r) (by simp);have hn:=Z9 (x::r)
   by_cases hg:60<dp+1\/1000<ct+(x::r).length
   · rw [if_pos hg] at hs;exact ⟨fun _=>QO rfl hs,fun h=>absurd (show 60<dp+hgts (x::r)\/1000<ct+nums (x::r) by omega) h⟩
   · rw [if_neg hg] at hs;have ih:=Wg d n (wF (x::r)) (dp+1) (ct+(x::r).length) (Kg hf) (by omega) (by omega) (by omega);rw [Ji rfl hs,hb,hn]
     constructor
     · intro h;exact ih.1 (by omega)
     · intro h;exact ih.2 (by omega)
def isGr (d:D):Bool:=decide (60<hgt d\/1000<num d)
theorem jce {d:D} (h:fine d=true):zf [d]= .ok (.bl (isGr d)):=by
 have hl:=Wg d 2000 [d] 0 0 (by simp [fines,h]) (by omega) (by omega) (by omega);have e1:hgts [d]=hgt d:=by simp [hgts]
 have e2:nums [d]=num d:=by simp [nums]
 rw [e1,e2] at hl;simp only [adJ] at hl
 have e0:yy qw (qm 4 [d])=(q0 2000 (truF (rdS 1)) Wh [.shr d,.shr (.lst [d]),.shr (.int ((0:Nat):Int)),.shr (.int ((0:Nat):Int))]>>=outK (retO (cB false))):=by
   unfold yy;rw [xI];show (seqO _ _) _=_;rw [xI];rfl
 by_cases hg:60<hgt d\/1000<num d
 · have:isGr d=true:=by simp [isGr,hg]
   rw [this];refine yb (o:= .rt true (.bl true)) ?_;rw [e0,hl.1 hg];rfl
 · have:isGr d=false:=by simp [isGr];omega
   rw [this];obtain ⟨env,he⟩:=hl.2 hg;refine yb (o:= .rt true (.bl false)) ?_;rw [e0,he];rfl
theorem VS {cs:List Slot} {fe:Sl->Res D} (R:D->Prop) (P:D->Prop) (hf: ∀d acc,P d-> ∃t,fe (.shr d::(cs++[.own (.lst acc)]))= .ok t/\R t):
  ∀(ds:List D) (x:Slot) (acc:List D),(∀d∈ds,P d)->acc.length+ds.length<=aae->(∀t∈acc,R t)->
   ∃(y:Slot) (ts:List D),zB (1+cs.length) (gN 0) j4 fe ds (x::(cs++[.own (.lst acc)]))= .ok (y::(cs++[.own (.lst ts)]))/\ts.length=acc.length+ds.length/\ ∀t∈ts,R t
 | [],x,acc,_,_,hr=>⟨x,acc,rfl,by simp,hr⟩
 |d::ds,x,acc,hP,hl,hr=>by
  simp only [aad] at hl;obtain ⟨t,ht,hR⟩:=hf d acc (hP d (by simp))
  obtain ⟨y,ts,h1,h2,h3⟩:=VS R P hf ds (.shr d) (acc++[t]) (fun e he=>hP e (by simp [he])) (by simp only [aao,aad,aas];omega) (fun u hu=>by
   rcases aaL.mp hu with h|h
   · exact hr u h
   · simp only [aah,aaq,or_false] at h
     rw [h];exact hR)
  refine ⟨y,ts,?_,by rw [h2];simp only [aao,aad,aas];omega,h3⟩
  have e1:ownL (1+cs.length) (.shr d::(cs++[.own (.lst acc)]))= .ok acc:=by
   unfold ownL;rw [show (1+cs.length)=cs.length+1 by omega,aaQ,aar (aai _)];simp
  have e2:(Slot.shr d::(cs++[Slot.own (.lst acc)])).set (1+cs.length) (.own (.lst (acc++[t])))= .shr d::(cs++[.own (.lst (acc++[t]))]):=by
   rw [show (1+cs.length)=cs.length+1 by omega,acj,List.set_append_right _ _ (aai _)];simp
  show (fe (.shr d::(cs++[.own (.lst acc)]))>>=_)=_;rw [ht];show (ownL (1+cs.length) (.shr d::(cs++[.own (.lst acc)]))>>=_)=_;rw [e1];show must _ _=_;rw [jk (by omega)];show zB _ _ _ _ ds ((Slot.shr d::(cs++[Slot.own (.lst acc)])).set (1+cs.length) (.own (.lst (acc++[t]))))=_;rw [e2,h1]
theorem Xe {js:List Nat} {fi:Sl->Res (List D)} {fe:Sl->Res D} {env:Sl} {ds:List D} {cs:List Slot} (R:D->Prop) (P:D->Prop) (hc:js.map (capS false env)=cs) (hi:fi env= .ok ds) (hP: ∀d∈ds,P d) (hl:ds.length<=aae)
  (hf: ∀d acc,P d-> ∃t,fe (.shr d::(cs++[.own (.lst acc)]))= .ok t/\R t): ∃ts,qz false 1 js fi (gN 0) j4 fe env= .ok (.lst ts)/\ts.length=ds.length/\ ∀t∈ts,R t:=by
 obtain ⟨y,ts,h1,h2,h3⟩:=VS (cs:=cs) R P hf ds .un [] hP (by simpa using hl) (fun _ h=>by cases h);refine ⟨ts,?_,by simpa using h2,h3⟩;have hlen:js.length=cs.length:=by rw [←hc];simp
 show (fi env>>=_)=_;rw [hi];show (zB (1+js.length) (gN 0) j4 fe ds (xh false 1 js env)>>=_)=_
 have he:xh false 1 js env= .un::(cs++[.own (.lst [])]):=by
  unfold xh;rw [hc];rfl
 rw [he,hlen,h1];show (ownL (1+cs.length) (y::(cs++[.own (.lst ts)]))>>=_)=_
 have e1:ownL (1+cs.length) (y::(cs++[.own (.lst ts)]))= .ok ts:=by
  unfold ownL;rw [show (1+cs.length)=cs.length+1 by omega,aaQ,aar (aai _)];simp
 rw [e1];exact jk (c:=false=true->D.imms ts=true) (fun h=>by cases h)
theorem jdE {f1 f2:Sl->Res D} {env:Sl} {i j:Int} (h1:f1 env= .ok (.int i)) (h2:f2 env= .ok (.int j)) (hj:0<j/\j<1073741824):app (jb f1 (jb f2 nil1)) wD env= .ok (.tup [.int (i/j),.int (i%j)]):=
 zX (ds:=[.int i,.int j]) (ji h1 (ji h2 rfl)) (jk hj)
theorem Kz {f:Sl->Res D} {env:Sl} {a b:Nat} {x y:D} (h:f env= .ok (.tup [x,y])):asgO f (g2 (gN a) (gN b)) env= .ok (.nx ((env.set a (.shr x)).set b (.shr y))):=by
 show (f env>>=_)=_;rw [h];rfl
theorem Zf {f1 f2:Sl->Res D} {env:Sl} {i j:Int} (h1:f1 env= .ok (.int i)) (h2:f2 env= .ok (.int j)) (hj:0<j):two f1 f2 modI env= .ok (.int (i%j)):=jr h1 h2 (jb9 hj)
theorem xV {f1 f2:Sl->Res D} {env:Sl} {i j:Int} {a b:Nat} (h1:f1 env= .ok (.int i)) (h2:f2 env= .ok (.int j)) (ha:i.natAbs<2^a) (hb:j.natAbs<2^b) (hs:a+b<=134217728):two f1 f2 mulI env= .ok (.int (i*j)):=
 jr h1 h2 (jfj (show intBits i+intBits j<=134217728 from aaC (Nat.add_le_add (PySem.intBits_le_iff.mpr ha) (PySem.intBits_le_iff.mpr hb)) hs))
theorem xA {f1 f2:Sl->Res D} {env:Sl} {i j:Int} (h1:f1 env= .ok (.int i)) (h2:f2 env= .ok (.int j)):two f1 f2 addD env= .ok (.int (i+j)):=jr h1 h2 rfl
theorem Qo (c k:Int) (hk:0<=k/\k<=1000): ∃m:Int,zx [.int c,.int k]= .ok (.int m)/\0<=m/\m<2^140:=by
 have hp:two (cI 10) (cI 40) powI [.shr (.int c),.shr (.int k),.un]= .ok (.int (10^40)):=jr rfl rfl (jV (i:=10) (j:=40) (by decide))
 have hk2:(k*k).natAbs<2^21:=by
  rw [Int.natAbs_mul];have:k.natAbs<=1000:=by omega
  have:=Nat.mul_le_mul this this;omega
 refine ⟨(c%(10^40+121)*31415926535897932384626433832795+(k*k+3*k+7)*2718281828459045235360287471)%(10^40+121),zU ?_,by omega,by omega⟩;show wj [.shr (.int c),.shr (.int k),.un]=_;unfold wj;rw [jU (env':=[.shr (.int c),.shr (.int k),.shr (.int (10^40+121))]) ((yt (xA hp rfl)).trans rfl)];refine qC (Zf (xA (xV (a:=140) (b:=120) (Zf rfl rfl (by omega)) rfl (by omega) (by omega) (by omega)) (xV (a:=30) (b:=120) (xA (xA (xV (a:=30) (b:=30) rfl rfl (by omega) (by omega) (by omega)) (xV (a:=30) (b:=30) rfl rfl (by omega) (by omega) (by omega))) rfl) rfl (by omega) (by omega) (by omega))) rfl (by omega))
theorem qF (m k:Int) (hm:0<=m/\m<2^140) (hk:0<=k/\k<=1000): ∃m':Int,jz [.int m,.int k]= .ok (.int m')/\0<=m'/\m'<2^140:=by
 have hp: ∀u:Slot,two (cI 10) (cI 30) powI [.shr (.int m),.shr (.int k),u]= .ok (.int (10^30)):=fun u=>jr rfl rfl (jV (i:=10) (j:=30) (by decide))
 generalize hx:(m*69621+(k+1)*1000003)%(10^30+57)=x;have hx0:0<=x/\x<2^110:=by omega
 refine ⟨x*x%(10^30+57),zU ?_,by omega,by omega⟩;show wM [.shr (.int m),.shr (.int k),.un]=_;unfold wM;rw [jU (env':=[.shr (.int m),.shr (.int k),.shr (.int x)]) ((yt (Zf (xA (xV (a:=141) (b:=30) rfl rfl (by omega) (by omega) (by omega)) (xV (a:=30) (b:=30) (xA rfl rfl) rfl (by omega) (by omega) (by omega))) (xA (hp _) rfl) (by omega))).trans (by rw [hx];rfl))];exact qC (Zf (xV (a:=111) (b:=111) rfl rfl (by omega) (by omega) (by omega)) (xA (hp _) rfl) (by omega))
def isNm:D->Bool| .str z=>(decide (1<=(z.length:Int))&&decide ((z.length:Int)<=8))&&z.cps.toList.all (fun c=>inS ⟨#[c]⟩ abc)|_=>false
theorem WW (z:Str):isNm (.str z)=((decide (1<=(z.length:Int))&&decide ((z.length:Int)<=8))&&z.cps.toList.all (fun c=>inS ⟨#[c]⟩ abc)):=rfl
theorem VZ {α:Type} (l:List α) (p:α->Bool):allD [.lst (l.map fun c=>D.bl (p c))]= .ok (.bl (l.all p)):=by
 have:l.map (fun c=>D.bl (p c))=(l.map p).map D.bl:=by simp
 rw [this];show (match ZS ((l.map p).map D.bl) with|some bs=>Res.ok (D.bl (bs.all id))|none=>Res.stuck)=_;rw [jbM];simp
theorem kB (z:Str):(ZL z).length=z.length:=by simp [ZL,Str.length]
theorem jfi {d:D} (h:jc5 d=true):yo [d]= .ok (.bl (isNm d)):=by
 cases d with
 |str z=>
  have e1:xZ (qm 1 [.str z])= .ok (.rt true (.bl (isNm (.str z)))):=by
   have h0:qm 1 [.str z]=[.shr (.str z)]:=rfl;rw [h0];have hi:isiD "str" (.str z)= .ok (.bl true):=rfl;have hl:lenD [.str z]= .ok (.int z.length):=rfl;rw [WW]
   by_cases h2:(z.length:Int)<=8
   · have key:qz false 1 [] (itF (rdS 0)) (gN 0) j4 (two (rdS 0) (cS "abcdefghijklmnopqrstuvwxyz") inD) [.shr (.str z)]= .ok (.lst ((ZL z).map fun d=>D.bl (match d with| .str c=>inS c abc|_=>false))):=by
      refine jbH _ (fun d=> ∃c,d= .str c) (ds:=ZL z) rfl (by intro d hd;obtain ⟨c,_,e⟩:=aaK.mp hd;exact ⟨_,e.symm⟩) (by rw [kB];exact aaC (by omega:z.length<=8) (by decide)) ?_;intro d acc ⟨c,e⟩;subst e;rfl
     have hany:(ZL z).all (fun d=>match d with| .str c=>inS c abc|_=>false)=(z.cps.toList.all (fun c=>inS ⟨#[c]⟩ abc)):=by
      simp only [ZL,List.all_map];rfl
     have h2':decide ((z.length:Int)<=8)=true:=by simp;omega
     generalize z.cps.toList.all (fun c=>inS ⟨#[c]⟩ abc)=q at hany ⊢;simp only [xZ,hi,hl,key,xI,Wm,um,Kj,Vy,xy,ul,X3,JB,Kk,wB,Vu,jdv,ur,Qd,jfK,jch,Kl,uq,uo,vk,YV,acY,KA,if_true,abE,aaN,if_false,decide_eq_true_eq,QI,VU,VZ,hany]
     by_cases h1:(1:Int)<=z.length<;>simp [h1,h2]
   · have h2':decide ((z.length:Int)<=8)=false:=by simp;omega
     simp only [xZ,hi,hl,xI,Wm,um,Kj,Vy,xy,ul,X3,JB,Kk,wB,Vu,jdv,ur,Qd,jfK,jch,Kl,uq,uo,vk,YV,acY,KA,if_true,abE,aaN,if_false,decide_eq_true_eq,QI,VU]
     by_cases h1:(1:Int)<=z.length<;>simp [h1,h2,h2']
  exact yb e1
 |_=>first|rfl|cases h
def Low (z:Str):Prop:= ∀c∈z.cps.toList,inS ⟨#[c]⟩ abc=true
theorem Kb {a b:Str} (ha:Low a) (hb:Low b):Low (a++b):=fun c hc=>by
 have h:c∈(a.cps++b.cps).toList:=hc;rw [Array.toList_append,aaL] at h;exact h.elim (ha c) (hb c)
theorem vM {z:Str} (lo hi:Option Int) (h:Low z):Low (cutS z lo hi):=fun c hc=>by
 unfold cutS at hc
 split at hc
 · exact h c hc
 · simp only [adF] at hc;obtain ⟨i,_,hi⟩:=hc;exact h c (by rw [←aco] at hi;exact aaZ hi)
theorem jdZ:Low abc:=by
 intro c hc;have:abc.cps.toList.all (fun c=>inS ⟨#[c]⟩ abc)=true:=by decide+kernel
 exact abb.mp this c hc
theorem ixS2 {z:Str} {i:Int} (h0:0<=i) (h1:i<z.length): ∃c,ixD (.str z) (.int i)= .ok (.str ⟨#[c]⟩)/\c∈z.cps.toList:=by
 obtain ⟨c,hc,hm⟩:=jcu (xs:=z.cps.toList) h0 (by simpa [Str.length] using h1);exact ⟨c,by simp only [ixD];rw [hc],hm⟩
theorem vL {c:Nat} (h:c∈abc.cps.toList):Low ⟨#[c]⟩:=fun x hx=>by
 have:x=c:=by simpa using hx
 rw [this];exact jdZ c h
theorem jfx (i:Int) (n:Nat) (h:0<=i):(aaE none (some i) 1 n).length<=i.toNat:=by
 unfold aaE sliceRange;simp only [show (1:Int)>0 by decide,if_true,aan,List.length_range]
 split<;>(try split)<;>(try split)<;>(try simp only [Int.ediv_one])<;>omega
theorem jfy (i:Int) (n:Nat) (h:0<=i):(aaE (some i) none 1 n).length<=n-i.toNat:=by
 unfold aaE sliceRange;simp only [show (1:Int)>0 by decide,if_true,aan,List.length_range]
 split<;>(try split)<;>(try split)<;>(try simp only [Int.ediv_one])<;>omega
theorem jcr (z:Str) (lo hi:Option Int):(cutS z lo hi).length<=(aaE lo hi 1 z.length).length:=by
 unfold cutS
 split
 · rename_i h;rw [beq_iff_eq] at h;omega
 · show ((aaE lo hi 1 z.length).filterMap (z.cps[·]?)).toArray.size<=_;rw [aaf];exact List.length_filterMap_le _ _
theorem jde {z:Str} (h1:1<=z.length) (h2:z.length<=8) (h:Low z):isNm (.str z)=true:=by
 rw [WW];simp only [aap,decide_eq_true_eq,abb];exact ⟨⟨by omega,by omega⟩,h⟩
def Five (d:D):Prop:= ∃xs:List D,d= .lst xs/\xs.length=5/\ ∀x∈xs,∃z:Str,x= .str z/\isNm (.str z)=true
theorem u5:abc.length=26:=by decide
theorem Y4 (m:Int): ∃d,wP [.int m]= .ok d/\Five d:=by
 have hbig:20<=aae:=by decide
 generalize hsz:m%8=sz;have hs:0<=sz/\sz<8:=by omega
 generalize hm1:m/8=m1;generalize hat:m1%(sz+1)=at1;have ha:0<=at1/\at1<sz+1:=by rw [←hat];exact ⟨adB _ (by omega),acZ _ (by omega)⟩
 generalize hm2:m1/(sz+1)=m2
 obtain ⟨env1,l1,n1,f1,u1,w1,rfl,hf1,lw1⟩:=Jy (body:=qp (gN 3) (seqO (asgO (app (jb (rdS 0) (jb (cI 26) nil1)) wD) (g2 (gN 0) (gN 6))) (jW 2 (two (rdS 2) (two (rdS 1) (rdS 6) ixD) addD))))
  (fun ds env=> ∃(n:Int) (f:Str) (u w:Slot),env=[.shr (.int n),.shr (.str abc),.shr (.str f),u,.shr (.int sz),.shr (.int at1),w]/\f.length+ds.length=(sz+1).toNat/\Low f)
  (by
   rintro d ds env ⟨n,f,u,w,rfl,hl,lw⟩;obtain ⟨c,hc,hcm⟩:=ixS2 (z:=abc) (i:=n%26) (by omega) (by rw [u5];omega);simp only [aad] at hl;have hlen:(f++(⟨#[c]⟩:Str)).length=f.length+1:=strLen_append _ _;refine ⟨[.shr (.int (n/26)),.shr (.str abc),.shr (.str (f++(⟨#[c]⟩:Str))),.shr d,.shr (.int sz),.shr (.int at1),.shr (.int (n%26))],?_,_,_,_,_,rfl,by rw [hlen];omega,Kb lw (vL hcm)⟩;rw [wQ (env':=[.shr (.int n),.shr (.str abc),.shr (.str f),.shr d,.shr (.int sz),.shr (.int at1),w]) rfl];rw [jU (env':=[.shr (.int (n/26)),.shr (.str abc),.shr (.str f),.shr d,.shr (.int sz),.shr (.int at1),.shr (.int (n%26))]) (Kz (jdE rfl rfl (by omega)))]
   refine (yt (jr rfl (jr rfl rfl hc) (jk (c:=f.length+(⟨#[c]⟩:Str).length<=aae) (aaC (show f.length+1<=8 by omega) (by decide))))).trans rfl)
  (wb 0 (sz+1).toNat) [.shr (.int m2),.shr (.str abc),.shr (.str ""),.un,.shr (.int sz),.shr (.int at1),.un] ⟨m2, "",.un,.un,rfl,by rw [qS,show ("" :Str).length=0 by decide,adJ],fun c hc=>by cases hc⟩
 simp only [aas] at hf1
 obtain ⟨ts,hts,hl,hR⟩:=Xe (js:=[2,1,5,0]) (fi:=rngF (jb (cI 5) nil1)) (fe:=two (two (j7 (rdS 1) zA (qQ (rdS 3)) slD) (two (rdS 2) (two (two (rdS 4) (two (cI 5) (rdS 0) mulI) addD) (cI 26) modI) ixD) addD) (j7 (rdS 1) (qQ (two (rdS 3) (cI 1) addD)) zA slD) addD)
  (env:=[.shr (.int n1),.shr (.str abc),.shr (.str f1),u1,.shr (.int sz),.shr (.int at1),w1]) (ds:=wb 0 5) (cs:=[.shr (.str f1),.shr (.str abc),.shr (.int at1),.shr (.int n1)])
  (fun t=> ∃z:Str,t= .str z/\isNm (.str z)=true) (fun d=> ∃k:Int,d= .int k/\0<=k/\k<0+(5:Nat)) rfl rfl (fun d hd=>xX hd) (by rw [qS];exact aaC (by decide) hbig) (by
   rintro d acc ⟨k,rfl,hk0,hk1⟩;obtain ⟨c,hc,hcm⟩:=ixS2 (z:=abc) (i:=(n1+5*k)%26) (by omega) (by rw [u5];omega);have hA:=aaC (jcr f1 none (some at1)) (jfx at1 f1.length (by omega));have hB:=aaC (jcr f1 (some (at1+1)) none) (jfy (at1+1) f1.length (by omega));have h1:(cutS f1 none (some at1)++(⟨#[c]⟩:Str)).length=(cutS f1 none (some at1)).length+1:=strLen_append _ _;have h2:((cutS f1 none (some at1)++(⟨#[c]⟩:Str))++cutS f1 (some (at1+1)) none).length=(cutS f1 none (some at1)++(⟨#[c]⟩:Str)).length+(cutS f1 (some (at1+1)) none).length:=strLen_append _ _
   refine ⟨_,jr (jr (qU rfl rfl (qT rfl) rfl) (jr rfl (Zf (xA rfl (xV (a:=10) (b:=10) rfl rfl (by omega) (by omega) (by omega))) rfl (by omega)) hc) (jk (c:=(cutS f1 none (some at1)).length+(⟨#[c]⟩:Str).length<=aae) (aaC (show _+1<=20 by omega) hbig))) (qU rfl (qT (jr rfl rfl rfl)) rfl rfl) (jk (c:=_+_<=aae) (by omega)),_,rfl,jde (by omega) (by omega) (Kb (Kb (vM _ _ lw1) (vL hcm)) (vM _ _ lw1))⟩)
 refine ⟨.lst ts,zU ?_,ts,rfl,by rw [hl,qS],hR⟩;show wL [.shr (.int m),.un,.un,.un,.un,.un,.un]=_;unfold wL;rw [jU (env':=[.shr (.int m),.shr (.str abc),.un,.un,.un,.un,.un]) rfl];rw [jU (env':=[.shr (.int m1),.shr (.str abc),.un,.un,.shr (.int sz),.un,.un]) ((Kz (jdE rfl rfl (by omega))).trans (by rw [hm1,hsz];rfl))];rw [jU (env':=[.shr (.int m2),.shr (.str abc),.un,.un,.shr (.int sz),.shr (.int at1),.un]) ((Kz (jdE (i:=m1) (j:=sz+1) rfl (jr rfl rfl rfl) (by omega))).trans (by rw [hm2,hat];rfl))];rw [jU (env':=[.shr (.int m2),.shr (.str abc),.shr (.str ""),.un,.shr (.int sz),.shr (.int at1),.un]) rfl];rw [jU ((yI (ds:=wb 0 (sz+1).toNat) (Q1 (ji (jr rfl rfl rfl) rfl) (by omega))).trans l1)];exact qC hts
theorem big1:20000<=aae:=by decide
theorem jo {k:Nat} (h:k<=20000):k<=aae:=aaC h big1
def isT:D->Bool
 | .tup _=>true
 |_=>false
theorem cut0 (x:D) (r:List D):cutD (x::r) none (some 1)=[x]:=by
 unfold cutD;rw [HT.sIx_none,show (some (1:Int))=some ((1:Nat):Int) from rfl,HT.sIx_nat];simp only [List.drop_zero,Nat.sub_zero,aad];rw [show min 1 (r.length+1)=1 by omega];rfl
def Fiv (ns:List Str) (d:D):Prop:=d= .lst (ns.map .str)/\ns.length=5/\ ∀z∈ns,isNm (.str z)=true
theorem jbj {d:D} (h:Five d): ∃ns,Fiv ns d:=by
 obtain ⟨xs,rfl,hl,hx⟩:=h
 have key: ∀xs:List D,(∀x∈xs,∃z:Str,x= .str z/\isNm (.str z)=true)-> ∃ns:List Str,xs=ns.map .str/\ ∀z∈ns,isNm (.str z)=true:=fun xs=>by
  induction xs with
  |nil=>intro _;exact ⟨[],rfl,fun _ h=>by cases h⟩
  |cons x r ih=>
   intro h;obtain ⟨z,rfl,hz⟩:=h _ (aa1 ..);obtain ⟨ns,rfl,hn⟩:=ih fun y hy=>h y (by simp [hy])
   refine ⟨z::ns,rfl,fun y hy=>?_⟩;rcases aah.mp hy with e|e
   · rw [e];exact hz
   · exact hn y e
 obtain ⟨ns,rfl,hn⟩:=key xs hx;exact ⟨ns,rfl,by simpa using hl,hn⟩
section
variable {ns:List Str}
theorem uk {ns:List Str} {d:D} (h:Fiv ns d) (i:Int) (h0:0<=i) (h1:i<5): ∃z:Str,ixD d (.int i)= .ok (.str z)/\z∈ns:=by
 obtain ⟨rfl,hl,_⟩:=h;obtain ⟨x,hix,hm⟩:=ixL (ds:=ns.map .str) h0 (by rw [aan];omega);obtain ⟨z,hz,rfl⟩:=aaK.mp hm;exact ⟨z,hix,hz⟩
theorem Vi {t:D} (h:tk ns t=true):isiD "tuple" t= .ok (.bl (isT t)):=by
 rcases jY h with ⟨i,rfl⟩| ⟨z,ts,rfl,_⟩<;>rfl
end
section
variable {ns:List Str} {fs:List Int}
theorem qu (z:Str) (ts:List D):hgt (.tup (.str z::ts))=1+hgts ts:=by rw [XY];rfl
theorem qD (z:Str) (ts:List D):num (.tup (.str z::ts))=1+nums ts:=by rw [Wa];rfl
theorem ZD (z:Str) (ts:List D):bks (.tup (.str z::ts))=bkss ts:=by simp [bks]
theorem Kv (i:Int):bks (.int i)=[i]:=by simp [bks]
theorem vF {a b:Int}:neR (.int a) (.int b)= .ok (.bl (!(a==b))):=Vb
theorem vD (S:List D):neR (.lst S) (.lst [])= .ok (.bl (!S.isEmpty)):=by
 cases S with
 |nil=>rfl
 |cons x r=>
  unfold neR;rw [jk (.inr (by simp [ZZ]))];simp [eqD,eqDs]
def bnd:Nat->Nat
 |0=>1
 |r+1=>1+3*bnd r
structure Gt (ns:List Str) (fs:List Int) (r:Nat) (t:D):Prop where
 tk:tk ns t=true
 hg:hgt t<=r+1
 nm:num t<=bnd r
 bk: ∀x∈bks t,x∈fs
theorem jdR (r:Nat):1<=bnd r:=by
 cases r with
 |zero=>exact aai _
 |succ r=>simp only [bnd];omega
theorem wm {nm : D} (hn : Fiv ns nm) (hfz : fs.length <= 1000) : ∀ (n r : Nat) (m : Int), r + 1 <= n -> (0 <= m /\ m < 2 ^ 140) -> ∃ t, jS n [.int m, nm, .int r, .lst (fs.map .int)] = .ok t /\ Gt ns fs r t
  | 0, r, m, h1, hm => by omega
  | n + 1, r, m, h1, hm => by
    generalize hfr : D.lst (fs.map .int) = fr
    have hne : neR fr (.lst []) = .ok (.bl (!fs.isEmpty)) := by rw [← hfr, vD]; simp
    have hlen : lenD [fr] = .ok (.int (fs.length : Int)) := by rw [← hfr]; show Res.ok (D.int ((fs.map D.int).length : Int)) = _; rw [aan]
    by_cases hb1 : (!fs.isEmpty && ((m % 5 == 0) || (((r : Int) == 0) && decide (m % 5 < 3)))) = true
    · have hpos : 0 < fs.length := by
        simp only [aap] at hb1
        cases fs with
        | nil => simp at hb1
        | cons x r => simp
      have hmod : 0 <= m / 5 % (fs.length : Int) /\ m / 5 % (fs.length : Int) < fs.length := ⟨adB _ (by omega), acZ _ (by omega)⟩
      obtain ⟨d, hd, hmem⟩ := ixL (ds := fs.map .int) (i := m / 5 % (fs.length : Int)) hmod.1 (by rw [aan]; exact hmod.2)
      obtain ⟨i, hi, rfl⟩ := aaK.mp hmem
      rw [hfr] at hd
      refine ⟨.int i, WC ?_, ⟨rfl, by simp [hgt], jdR r, by rw [Kv]; intro x hx; simp only [aah, aaq, or_false] at hx; rw [hx]; exact hi⟩⟩
      show zK (jS n) jz [.shr (.int m), .shr nm, .shr (.int r), .shr fr, .un, .un, .un] = _
      unfold zK
      decreasing_with exact rfl
    · have hb1 : (!fs.isEmpty && ((m % 5 == 0) || (((r : Int) == 0) && decide (m % 5 < 3)))) = false := by simpa using hb1
      generalize hm3 : m / 5 / 5 / 4 = m3
      have hm3b : 0 <= m3 /\ m3 < 2 ^ 140 := by omega
      obtain ⟨z, hz, hzn⟩ := uk hn (m / 5 % 5) (by omega) (by omega)
      have hct : ∃ ct : Int, 0 <= ct /\ ct <= 3 /\ (r = 0 -> ct = 0) /\ ifO (asB (two (rdS 2) (cI 0) eqR)) (jW 6 (cI 0)) nxO
          [.shr (.int m3), .shr nm, .shr (.int r), .shr fr, .shr (.int (m % 5)), .shr (.int (m / 5 % 5)), .shr (.int (m / 5 / 5 % 4))] = .ok (.nx [.shr (.int m3), .shr nm, .shr (.int r), .shr fr, .shr (.int (m % 5)), .shr (.int (m / 5 % 5)), .shr (.int ct)]) := by
        by_cases hr0 : r = 0
        · subst hr0
          refine ⟨0, by omega, by omega, fun _ => rfl, ?_⟩
          decreasing_with exact rfl
        · refine ⟨m / 5 / 5 % 4, by omega, by omega, fun h => absurd h hr0, ?_⟩
          have : ((r : Int) == 0) = false := by simp; omega
          decreasing_with exact rfl
      obtain ⟨ct, c1, c2, c3, hctg⟩ := hct
      obtain ⟨ts, hts, hl, hR⟩ := Xe (js := [1, 3, 0, 2]) (fi := rngF (jb (rdS 6) nil1)) (fe := jg 4 (jS n) (jb (jg 2 jz (jb (rdS 3) (jb (rdS 0) nil1))) (jb (rdS 1) (jb (two (rdS 4) (cI 1) subI) (jb (rdS 2) nil1)))))
        (env := [.shr (.int m3), .shr nm, .shr (.int r), .shr fr, .shr (.int (m % 5)), .shr (.int (m / 5 % 5)), .shr (.int ct)]) (ds := wb 0 ct.toNat) (cs := [.shr nm, .shr fr, .shr (.int m3), .shr (.int r)])
        (Gt ns fs (r - 1)) (fun d => ∃ k : Int, d = .int k /\ 0 <= k /\ k < 10 /\ 1 <= r) rfl (Q1 (ji rfl rfl) (by omega)) (fun d hd => by
          obtain ⟨k, rfl, k0, k1⟩ := xX hd
          exact ⟨k, rfl, k0, by omega, by rcases Nat.eq_zero_or_pos r with h | h; · rw [c3 h] at k1; simp at k1; omega
                                          · exact h⟩) (by rw [qS]; exact sml (by omega)) (by
          rintro d acc ⟨k, rfl, k0, k1, hr⟩
          obtain ⟨m4, hm4, hb⟩ := qF m3 k hm3b (by omega)
          obtain ⟨t, ht, hg⟩ := wm hn hfz n (r - 1) m4 (by omega) hb
          rw [hfr, show (((r - 1 : Nat) : Int)) = (r : Int) - 1 by omega] at ht
          refine ⟨t, ?_, hg⟩
          decreasing_with exact rfl)
      rw [qS] at hl
      have hzl : ([D.str z] ++ ts).length <= 20 := by simp; omega
      refine ⟨.tup (.str z :: ts), zU ?_, ⟨Yt hzn (by omega) fun t ht => (hR t ht).tk, ?_, ?_, ?_⟩⟩
      · show zK (jS n) jz [.shr (.int m), .shr nm, .shr (.int r), .shr fr, .un, .un, .un] = _
        unfold zK
        subst hm3
        decreasing_with exact rfl
      · rw [qu]
        rcases Nat.eq_zero_or_pos r with h | h
        · have : ts = [] := List.eq_nil_of_length_eq_zero (by rw [hl, c3 h]; rfl)
          subst this
          simp [hgts]
        · have := M.hgts_le (ds := ts) (k := r) fun t ht => by have := (hR t ht).hg; omega
          omega
      · rw [qD]
        have hq := vA (ts := ts) (k := bnd (r - 1)) fun t ht => (hR t ht).nm
        match r, c3, hq with
        | 0, c3, hq =>
          have : ts.length = 0 := by rw [hl, c3 rfl]; rfl
          rw [this] at hq
          simp only [bnd]; omega
        | r + 1, c3, hq =>
          simp only [bnd, show r + 1 - 1 = r from rfl] at hq ⊢
          have h3 : ts.length <= 3 := by omega
          have := Nat.mul_le_mul_right (bnd r) h3
          omega
      · intro x hx
        rw [ZD, ZC] at hx
        obtain ⟨t, ht, hxt⟩ := aca.mp hx
        exact (hR t ht).bk x hxt
end
theorem XA: ∀(n:Nat) (d:D),fine d=true->hgt d<=n->num d<=1000->j6 n [d]= .ok (.lst (pts d))
 |0,d,_,h,_=>by have:=xY d;omega
 |n+1,d,hf,hh,hn=>by
  have hk:=Jz hf;rw [XY] at hh;rw [Wa] at hn
  have key:=Zs (body:=qp (gN 2) (qa 1 (jg 1 (j6 n) (jb (rdS 2) nil1)))) (fun (a:List D×Slot)=>[.shr d,.own (.lst a.1),a.2]) (fun a e=>(a.1++pts e,.shr e)) (fun ds a=>fines ds=true/\hgts ds<=n/\a.1.length+nums ds<=1000) (fun e ds a ⟨h1,h2,h3⟩=>by
   simp only [fines,aap] at h1;simp only [hgts] at h2;simp only [nums] at h3;have hl:=Q4 e;refine ⟨?_,h1.2,by omega,by simp only [aao];omega⟩;show qa 1 (jg 1 (j6 n) (jb (rdS 2) nil1)) [.shr d,.own (.lst a.1),.shr e]=_;show (Res.ok a.1>>=fun ds=>j6 n [e]>>=_)=_;rw [XA n e h1.1 (by omega) (by omega)]
   exact jk (c:=a.1.length+(pts e).length<=aae) (aaC (by omega:_<=10000) (by decide))) (kids d) ([d],.un) ⟨hk.1,by omega,by simp only [aad,aas];omega⟩
  have hfold: ∀(ds:List D) (a:List D×Slot),(ds.foldl (fun (a:List D×Slot) e=>(a.1++pts e,Slot.shr e)) a).1=a.1++ptss ds:=by
   intro ds
   induction ds with
   |nil=>intro a;simp [ptss]
   |cons d ds ih=>intro a;rw [List.foldl_cons,ih];simp [ptss]
  have e1:Zr jE (j6 n) (qm 3 [d])= .ok (.rt true (.lst (pts d))):=by
   have e0:Zr jE (j6 n) (qm 3 [d])=((jE [d]>>=vV)>>=fun ds=>forD (qp (gN 2) (qa 1 (jg 1 (j6 n) (jb (rdS 2) nil1)))) ds [.shr d,.own (.lst [d]),.un])>>=outK (retO (rdO 1)):=by
    unfold Zr;rw [xI];show (seqO _ _) _=_;rw [xI];rfl
   rw [e0,J0 (QG hf)];show (forD _ (kids d) _>>=_)=_;rw [key];show Res.ok (Out.rt true (D.lst ((kids d).foldl (fun (a:List D×Slot) e=>(a.1++pts e,Slot.shr e)) ([d],.un)).1))=_;rw [hfold,jet];rfl
  exact yb e1
section
variable {ns:List Str} {fs:List Int}
def isN:D->Bool
 | .int _=>true
 |_=>false
theorem ZV {t:D} (h:tk ns t=true):jj [t]= .ok (.bl (isN t)):=by
 rcases jY h with ⟨i,rfl⟩| ⟨z,ts,rfl,_⟩<;>rfl
theorem Ku: ∀t,tk ns t=true->(bks t).length<=num t:=qB (fun i=>by simp [bks,num]) fun z ts _ _ h=>by
 rw [ZD,qD]
 have: ∀us:List D,(∀u∈us,(bks u).length<=num u)->(bkss us).length<=nums us:=fun us=>by
  induction us with
  |nil=>intro _;simp [bkss,nums]
  |cons d r ih=>
   intro h;have h1:=h d (by simp);have h2:=ih fun u hu=>h u (by simp [hu])
   simp only [bkss,nums,aao];omega
 have:=this ts fun u hu=>(h u hu).2
 omega
theorem Vg {n:Nat} (t:Slot): ∀(ds:List D) (a:List Int) (u:Slot),(∀d∈ds,jv n [d]= .ok (.lst ((bks d).map .int))/\(bks d).length<=num d)->a.length+nums ds<=2000->
  ∃(u':Slot),forD (qp (gN 2) (qa 1 (jg 1 (jv n) (jb (rdS 2) nil1)))) ds [t,.own (.lst (a.map .int)),u]= .ok (.nx [t,.own (.lst ((a++bkss ds).map .int)),u'])
 | [],a,u,_,_=>⟨u,by simp [forD,bkss]⟩
 |d::r,a,u,hd,hl=>by
  obtain ⟨hb,hbl⟩:=hd d (by simp);simp only [nums] at hl ⊢;obtain ⟨u',ih⟩:=Vg t r (a++bks d) (.shr d) (fun e he=>hd e (by simp [he])) (by simp only [aao];omega);refine ⟨u',?_⟩
  have s:qp (gN 2) (qa 1 (jg 1 (jv n) (jb (rdS 2) nil1))) d [t,.own (.lst (a.map .int)),u]= .ok (.nx [t,.own (.lst ((a++bks d).map .int)),.shr d]):=by
   rw [wQ (env':=[t,.own (.lst (a.map .int)),.shr d]) rfl];have hc:jg 1 (jv n) (jb (rdS 2) nil1) [t,.own (.lst (a.map .int)),.shr d]= .ok (.lst ((bks d).map .int)):=jH (ji rfl rfl) rfl hb;show (Res.ok (a.map D.int)>>=fun ds=>jg 1 (jv n) (jb (rdS 2) nil1) [t,.own (.lst (a.map .int)),.shr d]>>=_)=_;rw [hc];refine (jk (c:=(a.map D.int).length+((bks d).map D.int).length<=aae) (by simp only [aan];exact jo (by omega))).trans ?_;rw [abO];rfl
  rw [zk s,ih];simp only [bkss,aaU]
theorem WU: ∀(n:Nat) (t:D),tk ns t=true->hgt t<=n->num t<=1000->jv n [t]= .ok (.lst ((bks t).map .int))
 |0,t,_,h,_=>by have:=xY t;omega
 |n+1,t,ht,hh,hnm=>by
  have htest:asB (jg 1 jj (jb (rdS 0) nil1)) [.shr t,.un,.un]= .ok (isN t):=qf (jH (ji rfl rfl) rfl (ZV ht));rcases jY ht with ⟨i,rfl⟩| ⟨z,r,rfl,hz,hl,hr⟩
  · refine zU ?_;show qN jj (jv n) [.shr (.int i),.un,.un]=_;unfold qN;rw [Kv];exact Z1 ((if_t htest).trans (qC (Zh (ji rfl rfl) (jo (by simp)))))
  · rw [qu] at hh;rw [qD] at hnm
    have hnum: ∀d∈r,num d<=nums r:=fun d hd=>by
     obtain ⟨a,b,rfl⟩:=adL hd;rw [WO];simp only [nums];omega
    obtain ⟨u',hf⟩:=Vg (n:=n) (.shr (.tup (.str z::r))) r [] .un (fun d hd=>⟨WU n d (hr d hd) (by have:=qe hd;omega) (by have:=hnum d hd;omega),Ku d (hr d hd)⟩) (by simp only [aas];omega);refine zU ?_;show qN jj (jv n) [.shr (.tup (.str z::r)),.un,.un]=_;unfold qN;have hsl:j7 (rdS 0) (qQ (cI 1)) zA slD [.shr (.tup (.str z::r)),.own (.lst []),.un]= .ok (.tup r):=qU (x:= .tup (.str z::r)) (lo:=some 1) (hi:=none) rfl (qT rfl) rfl (show Res.ok (D.tup (cutD (.str z::r) (some 1) none))=_ by rw [cut1]);rw [jU ((if_f htest).trans rfl)];rw [jU (env':=[.shr (.tup (.str z::r)),.own (.lst []),.un]) rfl];rw [ZD];exact (jU ((yI (ds:=r) (Qq hsl rfl)).trans hf)).trans rfl
def trs (l:List Int):List D:=l.map fun _=> .bl true
theorem jer (l:List Int) (x:Int):wX (kys l) (.inl x)=kys (ins l x)/\wY (kys l) (trs l) (.inl x) (.bl true)=trs (ins l x):=by
 unfold wX wY ins;rw [jbf]
 by_cases h:x∈l
 · simp only [h,decide_true,if_true,true_and];clear h
   induction l with
   |nil=>rfl
   |cons a l ih=>
    simp only [kys,trs,aaw,abr] at ih ⊢;rw [ih];simp
 · simp [h,kys,trs]
theorem jdg (l:List Int) (x:Int):(ins l x).length<=l.length+1:=by
 unfold ins;split<;>simp
theorem jba (l:List Hd) (x:Hd):(hins l x).length<=l.length+1:=by
 unfold hins;split<;>simp
def bkL (t:D):List Int:=met [] (intL (pts t))
theorem y7 (t:Slot): ∀(ds:List D) (a:List Int) (u:Slot),(∀d∈ds,tk ns d=true)->a.length+ds.length<=2000-> ∃u',forD (qp (gN 2) (ifO (notB (asB (isiF "tuple" (rdS 2)))) (Xc 1 (rdS 2) (cB true)) nxO)) ds [t,.own (.dic (kys a) (trs a)),u]= .ok (.nx [t,.own (.dic (kys (met a (intL ds))) (trs (met a (intL ds)))),u'])
 | [],a,u,_,_=>⟨u,rfl⟩
 |d::ds,a,u,h,hl=>by
  simp only [aad] at hl;have hd:=h d (by simp);have htest:notB (asB (isiF "tuple" (rdS 2))) [t,.own (.dic (kys a) (trs a)),.shr d]= .ok (!isT d):=wx (qf (by rw [xy];exact Vi hd));rcases jY hd with ⟨i,rfl⟩| ⟨z,ts,rfl,_⟩
  · obtain ⟨p1,p2⟩:=jer a i;have hk:(kys a).length<aae:=by rw [jdc];exact aaB (show a.length<20000 by omega) big1
    have hstep:qp (gN 2) (ifO (notB (asB (isiF "tuple" (rdS 2)))) (Xc 1 (rdS 2) (cB true)) nxO) (.int i) [t,.own (.dic (kys a) (trs a)),u]= .ok (.nx [t,.own (.dic (kys (ins a i)) (trs (ins a i))),.shr (.int i)]):=by
     rw [wQ (env':=[t,.own (.dic (kys a) (trs a)),.shr (.int i)]) rfl,if_t htest];show must ((kys a).length<aae) (Res.ok (Out.nx [t,.own (.dic (wX (kys a) (.inl i)) (wY (kys a) (trs a) (.inl i) (.bl true))),.shr (.int i)]))=_;rw [jk hk,p1,p2]
    have:=jdg a i;obtain ⟨u',hu⟩:=y7 t ds (ins a i) (.shr (.int i)) (fun e he=>h e (by simp [he])) (by omega);exact ⟨u',by rw [zk hstep,hu];rfl⟩
  · have hstep:qp (gN 2) (ifO (notB (asB (isiF "tuple" (rdS 2)))) (Xc 1 (rdS 2) (cB true)) nxO) (.tup (.str z::ts)) [t,.own (.dic (kys a) (trs a)),u]= .ok (.nx [t,.own (.dic (kys a) (trs a)),.shr (.tup (.str z::ts))]):=by
     rw [wQ (env':=[t,.own (.dic (kys a) (trs a)),.shr (.tup (.str z::ts))]) rfl,if_f htest];rfl
    obtain ⟨u',hu⟩:=y7 t ds a (.shr (.tup (.str z::ts))) (fun e he=>h e (by simp [he])) (by omega);exact ⟨u',by rw [zk hstep,hu];rfl⟩
theorem uY {t:D} (ht:tk ns t=true) (hh:hgt t<=64) (hn:num t<=1000):QN [t]= .ok (.lst ((bkL t).map .int)):=by
 have hp:=XA 64 t (J8 t ht) hh hn;have hlen:=Q4 t;obtain ⟨u,hu⟩:=y7 (.shr t) (pts t) [] .un (K0 t ht) (by simp only [aas];omega);have hit:itF (jg 1 (j6 64) (jb (rdS 0) nil1)) [.shr t,.own (.dic [] []),.un]= .ok (pts t):=Qq (jH (ji rfl rfl) rfl hp) rfl;refine zU ?_;show QE (j6 64) [.shr t,.un,.un]=_;unfold QE;rw [jU (env':=[.shr t,.own (.dic [] []),.un]) rfl];rw [jU ((yI hit).trans hu)];show retO (app (jb (rdS 1) nil1) jaW) [.shr t,.shr (.dic (kys (bkL t)) (trs (bkL t))),u]=_;refine qC (zX (ji rfl rfl) ?_);show must _ _=_;rw [jk (by simp [kys])];simp [kys,kD,Function.comp_def]
theorem jbd (z:Str) (ts:List D):zF [.tup (.str z::ts)]= .ok (hdD (z,(ts.length:Int))):=by
 refine zU ?_;show Wl [.shr (.tup (.str z::ts))]=_;unfold Wl;refine (qC ?_).trans rfl;show ifD (asB (isiF "tuple" (rdS 0))) (tupF (jb (two (rdS 0) (cI 0) ixD) (jb (two (app (jb (rdS 0) nil1) lenD) (cI 1) subI) nil1))) cN [.shr (.tup (.str z::ts))]= .ok (hdD (z,(ts.length:Int)));rw [jfJ];show tupF _ _=_;refine wr (ds:=[.str z,.int (ts.length:Int)]) (ji (jr rfl rfl ix0) (ji ?_ rfl)) (jo (show 2<=20000 by decide));refine jr (zX (ji rfl rfl) rfl) rfl ?_;show Res.ok (D.int ((((D.str z::ts).length:Nat):Int)-1))=_;simp
theorem J7 (t s:Slot): ∀(ds:List D) (l:List Hd) (u:Slot),(∀d∈ds,tk ns d=true)->l.length+ds.length<=2000-> ∃u',forD (qp (gN 3) (ifO (asB (isiF "tuple" (rdS 3))) (UU 1 (jg 1 zF (jb (rdS 3) nil1)) (cB true)) nxO)) ds [t,.own (.dit (l.map hdK) (htrs l)),s,u]= .ok (.nx [t,.own (.dit ((hmet l (hdL ds)).map hdK) (htrs (hmet l (hdL ds)))),s,u'])
 | [],l,u,_,_=>⟨u,rfl⟩
 |d::ds,l,u,h,hl=>by
  simp only [aad] at hl;have hd:=h d (by simp);have htest:asB (isiF "tuple" (rdS 3)) [t,.own (.dit (l.map hdK) (htrs l)),s,.shr d]= .ok (isT d):=qf (by rw [xy];exact Vi hd);rcases jY hd with ⟨i,rfl⟩| ⟨z,ts,rfl,_⟩
  · have hstep:qp (gN 3) (ifO (asB (isiF "tuple" (rdS 3))) (UU 1 (jg 1 zF (jb (rdS 3) nil1)) (cB true)) nxO) (.int i) [t,.own (.dit (l.map hdK) (htrs l)),s,u]= .ok (.nx [t,.own (.dit (l.map hdK) (htrs l)),s,.shr (.int i)]):=by
     rw [wQ (env':=[t,.own (.dit (l.map hdK) (htrs l)),s,.shr (.int i)]) rfl,if_f htest];rfl
    obtain ⟨u',hu⟩:=J7 t s ds l (.shr (.int i)) (fun e he=>h e (by simp [he])) (by omega);exact ⟨u',by rw [zk hstep,hu];rfl⟩
  · obtain ⟨p1,p2⟩:=jes l (z,(ts.length:Int));have hk:(l.map hdK).length<aae:=by rw [aan];exact aaB (show l.length<20000 by omega) big1
    have hc:jg 1 zF (jb (rdS 3) nil1) [t,.own (.dit (l.map hdK) (htrs l)),s,.shr (.tup (.str z::ts))]= .ok (hdD (z,(ts.length:Int))):=jH (ji rfl rfl) rfl (jbd z ts)
    have hstep:qp (gN 3) (ifO (asB (isiF "tuple" (rdS 3))) (UU 1 (jg 1 zF (jb (rdS 3) nil1)) (cB true)) nxO) (.tup (.str z::ts)) [t,.own (.dit (l.map hdK) (htrs l)),s,u]= .ok (.nx [t,.own (.dit ((hins l (z,(ts.length:Int))).map hdK) (htrs (hins l (z,(ts.length:Int))))),s,.shr (.tup (.str z::ts))]):=by
     rw [wQ (env':=[t,.own (.dit (l.map hdK) (htrs l)),s,.shr (.tup (.str z::ts))]) rfl,if_t htest];show (jg 1 zF (jb (rdS 3) nil1) [t,.own (.dit (l.map hdK) (htrs l)),s,.shr (.tup (.str z::ts))]>>=_)=_;rw [hc];show must ((l.map hdK).length<aae) (Res.ok (Out.nx [t,.own (.dit (YG (l.map hdK) (hdK (z,(ts.length:Int)))) (YH (l.map hdK) (htrs l) (hdK (z,(ts.length:Int))) (.bl true))),s,.shr (.tup (.str z::ts))]))=_;rw [jk hk,p1,p2]
    have:=jba l (z,(ts.length:Int));obtain ⟨u',hu⟩:=J7 t s ds (hins l (z,(ts.length:Int))) (.shr (.tup (.str z::ts))) (fun e he=>h e (by simp [he])) (by omega);exact ⟨u',by rw [zk hstep,hu];rfl⟩
end
def isPc:D->Bool
 | .tup (x::r)=>decide (r.length+1<=10)&&isNm x
 | .int i=>decide (0<=i)&&decide (i<=999)
 |_=>false
theorem jex {d:D} (h:fine d=true):wp [d]= .ok (.bl (isPc d)):=by
 cases d with
 |tup ds=>
  cases ds with
  |nil=>rfl
  |cons x r=>
   have hx:fine x=true:=by
    simp only [fine,fines,aap] at h;exact h.2.1
   have hb:decide ((1:Int)<=((x::r).length:Int))=true:=by simp only [aad,decide_eq_true_eq];omega
   have hd:decide (((x::r).length:Int)<=9+1)=decide (r.length+1<=10):=by simp only [aad];rw [decide_eq_decide];omega
   have hi:isiD "tuple" (.tup (x::r))= .ok (.bl true):=rfl;have hl:lenD [.tup (x::r)]= .ok (.int ((x::r).length:Int)):=rfl;have ha:addD (.int 9) (.int 1)= .ok (.int (9+1)):=rfl;have hs:qm 1 [.tup (x::r)]=[.shr (.tup (x::r))]:=rfl
   have e0:w6 wq yo (qm 1 [.tup (x::r)])= .ok (.rt true (.bl (decide (r.length+1<=10)&&isNm x))):=by
    simp only [w6,hs,hi,hl,ha,xI,Wm,Vy,xy,ul,X3,JB,Kk,wB,Vu,jdv,ur,Qd,uo,YV,acY,KA,if_true,QI,VU,Vv,jbU,hb,hd,Vx,ix0,jdt,List.length_singleton,jfi (QG hx)];cases decide (r.length+1<=10)<;>rfl
   exact yb e0
 |int i=>
  have hd: ∀b c:Bool,True:=fun _ _=>trivial
  have e0:wq [.int i]= .ok (.bl (decide (0<=i)&&decide (i<=999))):=by
   have e1:yz Ql (qm 1 [.int i])= .ok (.rt true (.bl (decide (0<=i)&&decide (i<=999)))):=by
    unfold yz;rw [Qd,Vv,QI];show ((Res.ok (D.bl (decide ((0:Int)<=i)))>>=chK (cI 999 (qm 1 [.int i])) leI (.int i))>>=_)=_;rw [wB,VU];cases decide (0<=i)<;>rfl
   exact yb e1
  have e2:w6 wq yo (qm 1 [.int i])=(wq [.int i]>>=fun d=> .ok (.rt true d)):=rfl;rw [e0] at e2;exact yb e2
 |_=>first|rfl|cases h
theorem jgg {d:D} (h:fine d=true):ym [d]= .ok (.bl (!isGr d&&(pts d).all isPc)):=by
 have e1:Ju zf wp (j6 64) (qm 1 [d])= .ok (.rt true (.bl (!isGr d&&(pts d).all isPc))):=by
  unfold Ju;rw [Qd,Vv,jds];show (((zf [d]>>=notD)>>=_)>>=_)=_;rw [jce h];show (toK _ true (.bl (!isGr d))>>=_)=_;rw [jbU]
  cases hg:isGr d with
  |true=>rfl
  |false=>
   rw [if_pos (show (!false)=true from rfl)];simp only [isGr,decide_eq_false_iff_not] at hg;have hp:=XA 64 d h (by omega) (by omega);have hl:=Q4 d
   have key:qz false 1 [] (itF (jg 1 (j6 64) (jb (rdS 0) nil1))) (gN 0) j4 (jg 1 wp (jb (rdS 0) nil1)) (qm 1 [d])= .ok (.lst ((pts d).map fun d=>D.bl (isPc d))):=by
    refine jbH _ (fun d=>fine d=true) (ds:=pts d) ?_ (fun e he=>xa (K1 d h) he) (aaC (by omega:_<=1000) (by decide)) ?_
    · show (j6 64 [d]>>=_)=_;rw [hp];rfl
    · intro e acc he;show wp [e]=_;exact jex he
   rw [X3,JB,key];show (allD [.lst ((pts d).map fun d=>D.bl (isPc d))]>>=_)=_;rw [VZ];rfl
 exact yb e1
section
variable {ns:List Str} {fs:List Int}
structure Ru (ns:List Str) (l r:D):Prop where
 tl:tk ns l=true
 tr:tk ns r=true
 lt: ∃z ts,l= .tup (.str z::ts)
 hl:hgt l<=4
 hr:hgt r<=2
 nl:num l<=13
 nr:num r<=4
 sub: ∀x∈bks r,x∈bks l
 few: ∃a b:Int,(0<=a/\a<=999)/\(0<=b/\b<=999)/\ ∀x∈bks l,x=a\/x=b
theorem Xl (i:Int):jj [.int i]= .ok (.bl true):=rfl
structure Lf (ns:List Str) (a b:Int) (l:D):Prop where
 tl:tk ns l=true
 lt: ∃z ts,l= .tup (.str z::ts)
 hl:hgt l<=4
 nl:num l<=13
 bk: ∀x∈bks l,x=a\/x=b
theorem vP {a b:Int} {z:Str} (hz:z∈ns) {ts:List D} (hl:ts.length<=9) (h: ∀t∈ts,tk ns t=true/\hgt t<=1/\num t<=1/\ ∀x∈bks t,x=a\/x=b):Lf ns a b (.tup (.str z::ts)):=by
 refine ⟨Yt hz hl fun t ht=>(h t ht).1,⟨z,ts,rfl⟩,?_,?_,?_⟩
 · rw [qu];have:=M.hgts_le (ds:=ts) (k:=1) fun t ht=>(h t ht).2.1;omega
 · rw [qD];have:=vA (ts:=ts) (k:=1) fun t ht=>(h t ht).2.2.1;omega
 · intro x hx;rw [ZD,ZC] at hx;obtain ⟨t,ht,hxt⟩:=aca.mp hx;exact (h t ht).2.2.2 x hxt
theorem Ut {nm:D} (hn:Fiv ns nm) (m:Int) (hm:0<=m/\m<2^140): ∃l r,wI [.int m,nm]= .ok (.tup [l,r])/\Ru ns l r:=by
 obtain ⟨m1,e1,b1⟩:=qF m 1 hm (by omega);obtain ⟨m2,e2,b2⟩:=qF m 2 hm (by omega);obtain ⟨a,ha⟩: ∃a,a=m%1000:=⟨_,rfl⟩
 obtain ⟨b,hb⟩: ∃b,b=(m+1+m/1000%999)%1000:=⟨_,rfl⟩
 obtain ⟨l0,el,gl⟩:=wm (fs:=[a,b]) hn (by simp) 6 2 m1 (by omega) b1;have hl0: ∀x∈bks l0,x=a\/x=b:=fun x hx=>by have:=gl.bk x hx;simpa using this
 have hg:=gl.hg;have hnm:=gl.nm;simp only [bnd] at hnm;have hw:=ZV gl.tk;obtain ⟨z,hz,hzn⟩:=uk hn (m/100000000%5) (by omega) (by omega)
 have hleft: ∃l s,Lf ns a b l/\ifO (orB (asB (jg 1 jj (jb (rdS 3) nil1))) (asB (two (two (two (rdS 0) (two (cI 10) (cI 7) powI) divW) (cI 4) modI) (cI 0) eqR))) (jW 3 (app (jb (two (lstF (jb (two (rdS 1) (two (two (rdS 0) (two (cI 10) (cI 8) powI) divW) (cI 5) modI) ixD) nil1)) (j7 (lstF (jb (two (rdS 2) (two (two (rdS 0) (two (cI 10) (cI 9) powI) divW) (cI 2) modI) ixD) (jb (two (rdS 2) (cI 1) ixD) nil1))) zA (qQ (two (two (rdS 0) (two (cI 10) (cI 10) powI) divW) (cI 3) modI)) slD) addD) nil1) yF)) (ifO (asB (two (two (two (rdS 0) (two (cI 10) (cI 12) powI) divW) (cI 4) modI) (cI 1) eqR)) (seqO (jW 4 (two (cI 4) (two (two (rdS 0) (two (cI 10) (cI 13) powI) divW) (cI 6) modI) addD))
    (jW 3 (app (jb (two (lstF (jb (two (rdS 1) (two (two (rdS 0) (two (cI 10) (cI 8) powI) divW) (cI 5) modI) ixD) nil1)) (qz false 1 [1,2,0] (rngF (jb (rdS 4) nil1)) (gN 0) j4 (jg 4 (jS 6) (jb (jg 2 jz (jb (rdS 3) (jb (two (cI 20) (rdS 0) addD) nil1))) (jb (rdS 1) (jb (cI 0) (jb (rdS 2) nil1)))))) addD) nil1) yF))) nxO)
    [.shr (.int m),.shr nm,.shr (.lst [.int a,.int b]),.shr l0,.un]= .ok (.nx [.shr (.int m),.shr nm,.shr (.lst [.int a,.int b]),.shr l,s]):=by
  by_cases h1:(isN l0|| (m/10000000%4==0))=true
  · obtain ⟨d,hd,hdm⟩:=ixL (ds:=[.int a,.int b]) (i:=m/1000000000%2) (by omega) (by simp;omega)
    have hmem: ∀t∈cutD [d,.int b] none (some (m/10000000000%3)),t= .int a\/t= .int b:=fun t ht=>by
      have h1:=List.mem_of_mem_drop (List.mem_of_mem_take ht);simp only [aah,aaq,or_false] at h1 hdm;rcases h1 with h1|h1
      · rw [h1];exact hdm
      · exact .inr h1
    have hlen:(cutD [d,.int b] none (some (m/10000000000%3))).length<=2:=by
      unfold cutD;simp only [acE,adc,aad,aas];omega
    refine ⟨.tup (.str z::cutD [d,.int b] none (some (m/10000000000%3))),.un,vP hzn (by omega) fun t ht=>?_,?_⟩
    · rcases hmem t ht with e|e<;>rw [e]<;>exact ⟨rfl,by simp [hgt],by simp [num],fun x hx=>by rw [Kv] at hx;simp at hx;simp [hx]⟩
    · decreasing_with exact rfl
  · have h1:(isN l0|| (m/10000000%4==0))=false:=by simpa using h1
    by_cases h2:(m/1000000000000%4==1)=true
    · obtain ⟨ts,hts,hl,hR⟩:=Xe (js:=[1,2,0]) (fi:=rngF (jb (rdS 4) nil1)) (fe:=jg 4 (jS 6) (jb (jg 2 jz (jb (rdS 3) (jb (two (cI 20) (rdS 0) addD) nil1))) (jb (rdS 1) (jb (cI 0) (jb (rdS 2) nil1)))))
        (env:=[.shr (.int m),.shr nm,.shr (.lst [.int a,.int b]),.shr l0,.shr (.int (4+m/10000000000000%6))]) (ds:=wb 0 (4+m/10000000000000%6).toNat) (cs:=[.shr nm,.shr (.lst [.int a,.int b]),.shr (.int m)])
        (Gt ns [a,b] 0) (fun d=> ∃k:Int,d= .int k/\0<=k/\k<10) rfl (Q1 (ji rfl rfl) (by omega)) (fun d hd=>by
          obtain ⟨k,rfl,k0,k1⟩:=xX hd
          exact ⟨k,rfl,k0,by omega⟩) (by rw [qS];exact sml (by omega)) (by
          rintro d acc ⟨k,rfl,k0,k1⟩;obtain ⟨m4,hm4,hb⟩:=qF m (20+k) hm (by omega);obtain ⟨t,ht,hg⟩:=wm (fs:=[a,b]) hn (by simp) 6 0 m4 (by omega) hb;refine ⟨t,?_,hg⟩
          decreasing_with exact rfl)
      rw [qS] at hl;refine ⟨.tup (.str z::ts),.shr (.int (4+m/10000000000000%6)),vP hzn (by omega) fun t ht=>?_,?_⟩
      · have g:=hR t ht;have g2:=g.nm;simp only [bnd] at g2;exact ⟨g.tk,g.hg,g2,fun x hx=>by have:=g.bk x hx;simpa using this⟩
      · decreasing_with exact rfl
    · have h2:(m/1000000000000%4==1)=false:=by simpa using h2
      refine ⟨l0,.un,⟨gl.tk,?_,by omega,by omega,hl0⟩,?_⟩
      · rcases jY gl.tk with ⟨i,rfl⟩| ⟨z0,ts,rfl,_⟩
        · simp [isN] at h1
        · exact ⟨_,_,rfl⟩
      · decreasing_with exact rfl
 obtain ⟨l,s,L,h6⟩:=hleft;have hhl:=L.hl;have hnl:=L.nl;have hbl:=WU 64 l L.tl (by omega) (by omega);have hbn:=Ku l L.tl;obtain ⟨r,er,gr⟩:=wm (fs:=bks l) hn (by omega) 6 1 m2 (by omega) b2;have hg:=gr.hg;have hnm:=gr.nm;simp only [bnd] at hnm;refine ⟨l,r,zU ?_,⟨L.tl,gr.tk,L.lt,L.hl,by omega,L.nl,by omega,gr.bk,a,b,by omega,by omega,L.bk⟩⟩;show xw (jS 6) jz jj (jv 64) [.shr (.int m),.shr nm,.un,.un,.un]=_;unfold xw;subst ha hb
 decreasing_with exact rfl
theorem WX: ∀t,tk ns t=true->intL (pts t)=bks t:=qB (fun i=>by simp [pts,intL,bks]) fun z ts _ _ h=>by
 have: ∀us:List D,(∀u∈us,intL (pts u)=bks u)->intL (ptss us)=bkss us:=fun us=>by
  induction us with
  |nil=>intro _;simp [ptss,intL,bkss]
  |cons d r ih=>
   intro h;rw [ptss,WY,h d (by simp),ih fun u hu=>h u (by simp [hu])];simp [bkss]
 rw [ZD,←this ts fun u hu=>(h u hu).2];simp [pts,intL]
theorem jeG (hn: ∀z∈ns,isNm (.str z)=true) {t:D} (ht:tk ns t=true) (hb: ∀x∈bks t,0<=x/\x<=999):(pts t).all isPc=true:=by
 rw [abb];intro p hp;have htk:=K0 t ht p hp;rcases jY htk with ⟨i,rfl⟩| ⟨z,ts,rfl,hz,hl,_⟩
 · have:i∈intL (pts t):=by
    obtain ⟨a,b,e⟩:=adL hp;rw [e,WY];simp [intL]
   rw [WX t ht] at this;have:=hb i this;simp [isPc,this]
 · simp only [isPc,aap,decide_eq_true_eq];exact ⟨by omega,hn z hz⟩
theorem Vj (hn: ∀z∈ns,isNm (.str z)=true) {t:D} (ht:tk ns t=true) (hh:hgt t<=60) (hm:num t<=1000) (hb: ∀x∈bks t,0<=x/\x<=999):ym [t]= .ok (.bl true):=by
 rw [jgg (J8 t ht),jeG hn ht hb];have:isGr t=false:=by simp only [isGr,decide_eq_false_iff_not];omega
 rw [this];rfl
theorem vJ {a b:Int} {l:List Int} (h: ∀x∈l,x=a\/x=b) (hn:l.Nodup):l.length<=2:=by
 match l,h,hn with
 | [],_,_=>simp
 | [_],_,_=>simp
 | [_,_],_,_=>simp
 |x::y::z::r,h,hn=>
  have h1:=h x (by simp);have h2:=h y (by simp);have h3:=h z (by simp);simp only [abN,aah,not_or] at hn;omega
theorem Y9: ∀(xs l:List Int),l.Nodup->(met l xs).Nodup
 | [],l,h=>h
 |x::xs,l,h=>by
  rw [Ve];refine Y9 xs _ ?_;unfold ins
  split
  · exact h
  · rename_i hx;rw [adZ];exact ⟨h,by simp,fun a ha b hb=>by simp at hb;subst hb;rintro rfl;exact hx ha⟩
theorem jfV (l:List Int):(dd l).length<=l.length:=by
 unfold dd;exact PyProof.Rows.firstMet_length_le _ _
theorem ja6 (hn: ∀z∈ns,isNm (.str z)=true) {l r:D} (h:Ru ns l r):yn [.tup [l,r]]= .ok (.bl true):=by
 obtain ⟨a,b,ha,hb,hab⟩:=h.few;have hbl: ∀x∈bks l,0<=x/\x<=999:=fun x hx=>by rcases hab x hx with e|e<;>omega
 have htl:=Vj hn h.tl (by have:=h.hl;omega) (by have:=h.nl;omega) hbl;have htr:=Vj hn h.tr (by have:=h.hr;omega) (by have:=h.nr;omega) fun x hx=>hbl x (h.sub x hx)
 obtain ⟨z,ts,hlt⟩:=h.lt;have hit:isiD "tuple" l= .ok (.bl true):=by rw [hlt];rfl
 have bl:=uY h.tl (by have:=h.hl;omega) (by have:=h.nl;omega);have br:=uY h.tr (by have:=h.hr;omega) (by have:=h.nr;omega);have i0:two (rdS 0) (cI 0) ixD [.shr (.tup [l,r])]= .ok l:=jr rfl rfl ix0;have i1:two (rdS 0) (cI 1) ixD [.shr (.tup [l,r])]= .ok r:=jr rfl rfl (by show (match atI [l,r] ((1:Nat):Int) with|some d=>Res.ok d|none=> .stuck)=_;rw [M.atI_nat];rfl);have mbl: ∀x,x∈bkL l↔x∈bks l:=fun x=>by unfold bkL;rw [Ka,WX l h.tl];simp
 have mbr: ∀x,x∈bkL r↔x∈bks r:=fun x=>by unfold bkL;rw [Ka,WX r h.tr];simp
 have lr:(bkL r).length<=2:=vJ (a:=a) (b:=b) (fun x hx=>hab x (h.sub x ((mbr x).mp hx))) (Y9 _ _ acd);have ll:(bkL l).length<=2:=vJ (a:=a) (b:=b) (fun x hx=>hab x ((mbl x).mp hx)) (Y9 _ _ acd);have hsb:adz=4096:=rfl
 have hsub:subL (.lst ((bkL r).map .int)) (.lst ((bkL l).map .int))= .ok (.int 0):=by
  unfold subL;simp only [vY];refine jk ⟨by omega,by omega,fun i hi=>(mbl i).mpr (h.sub i ((mbr i).mp hi)),?_⟩;have:=jfV (bkL r);omega
 have ht3:asB (isiF "tuple" (two (rdS 0) (cI 0) ixD)) [.shr (.tup [l,r])]= .ok true:=qf (by rw [xy,i0];exact hit);refine zU ?_;show Jv ym QN [.shr (.tup [l,r])]=_;unfold Jv;rw [jU ((if_f (YW (wx (qf (b:=true) rfl)) (qf (b:=false) (jr (zX (ji rfl rfl) rfl) rfl vF)))).trans rfl)];refine (jU ((if_f (YW (wx (qf (jH (ji i0 rfl) rfl htl))) (YW (wx (qf (jH (ji i1 rfl) rfl htr))) (wx ht3)))).trans rfl)).trans ?_;exact qC (jr (jr (jH (ji i1 rfl) rfl br) (jH (ji i0 rfl) rfl bl) hsub) rfl uv)
end
section
variable {ns:List Str}
def HdIn (ns:List Str) (l:List Hd):Prop:=l.Nodup/\ ∀x∈l,x.1∈ns/\0<=x.2/\x.2<=9
theorem jbe {l:List Hd} {ds:List D} (h:HdIn ns l) (hd: ∀d∈ds,tk ns d=true):HdIn ns (hmet l (hdL ds)):=
 ⟨ub h.1,fun x hx=>(Vn hx).elim (h.2 x) fun z=>ug hd x z⟩
theorem X0 (hl5:ns.length=5) (T:Slot): ∀(ts:List D) (l:List Hd) (s u:Slot),(∀t∈ts,tk ns t=true/\hgt t<=64/\num t<=1000)->HdIn ns l-> ∃l' s' u',HdIn ns l'/\
  forD (qp (gN 2) (forO (itF (jg 1 (j6 64) (jb (rdS 2) nil1))) (gN 3) (ifO (asB (isiF "tuple" (rdS 3))) (UU 1 (jg 1 zF (jb (rdS 3) nil1)) (cB true)) nxO))) ts [T,.own (.dit (l.map hdK) (htrs l)),s,u]= .ok (.nx [T,.own (.dit (l'.map hdK) (htrs l')),s',u'])
 | [],l,s,u,_,hl=>⟨l,s,u,hl,rfl⟩
 |t::ts,l,s,u,h,hl=>by
  obtain ⟨ht,hh,hn⟩:=h t (by simp);have hfew:=XZ hl.1 hl.2;have hlen:=Q4 t;have hp:=XA 64 t (J8 t ht) hh hn;obtain ⟨u1,hu⟩:=J7 T (.shr t) (pts t) l u (K0 t ht) (by omega);have hit:itF (jg 1 (j6 64) (jb (rdS 2) nil1)) [T,.own (.dit (l.map hdK) (htrs l)),.shr t,u]= .ok (pts t):=Qq (jH (ji rfl rfl) rfl hp) rfl;obtain ⟨l',s',u',h1,h2⟩:=X0 hl5 T ts (hmet l (hdL (pts t))) (.shr t) u1 (fun e he=>h e (by simp [he])) (jbe hl (K0 t ht));refine ⟨l',s',u',h1,?_⟩;refine (zk (env':=[T,.own (.dit ((hmet l (hdL (pts t))).map hdK) (htrs (hmet l (hdL (pts t))))),.shr t,u1]) ?_).trans h2;rw [wQ (env':=[T,.own (.dit (l.map hdK) (htrs l)),.shr t,u]) rfl];exact (yI hit).trans hu
theorem jfc {z:Str} (h:isNm (.str z)=true):z.length<=8:=by
 rw [WW] at h;simp only [aap,decide_eq_true_eq] at h;omega
theorem U1 (hl5:ns.length=5) (hnm: ∀z∈ns,isNm (.str z)=true) {ts:List D} (h: ∀t∈ts,tk ns t=true/\hgt t<=64/\num t<=1000): ∃hs,zP [.lst ts]= .ok (.lst hs):=by
 obtain ⟨l',s',u',hl,hf⟩:=X0 hl5 (.shr (.lst ts)) ts [] .un .un h ⟨acd,fun x hx=>by cases hx⟩;have hfew:=XZ hl.1 hl.2;refine ⟨(JN l').map hdD,zU ?_⟩;show xv (j6 64) zF [.shr (.lst ts),.un,.un,.un]=_;unfold xv;rw [jU (env':=[.shr (.lst ts),.own (.dit [] []),.un,.un]) rfl];refine (jU ((yI (ds:=ts) rfl).trans hf)).trans ?_;show retO (app (jb (rdS 1) nil1) QS) [.shr (.lst ts),.shr (.dit (l'.map hdK) (htrs l')),s',u']=_;exact qC (zX (ji rfl rfl) (Ui hl.1 (by omega) fun a ha=>jo (aaC (jfc (hnm _ (hl.2 a ha).1)) (by decide))))
def rl (p:D×D):D:= .tup [p.1,p.2]
def Rus (ns:List Str) (ps:List (D×D)):Prop:= ∀p∈ps,Ru ns p.1 p.2
theorem UZ (hnm: ∀z∈ns,isNm (.str z)=true) {ps:List (D×D)} (h:Rus ns ps) (hl:ps.length<=40):qZ [.lst (ps.map rl)]= .ok (.bl true):=by
 have key:qz false 1 [] (itF (rdS 0)) (gN 0) j4 (jg 1 yn (jb (rdS 0) nil1)) [.shr (.lst (ps.map rl))]= .ok (.lst ((ps.map rl).map fun _=> .bl true)):=by
  refine jbH _ (fun d=> ∃p,d=rl p/\Ru ns p.1 p.2) (ds:=ps.map rl) rfl (fun d hd=>by obtain ⟨p,hp,rfl⟩:=aaK.mp hd;exact ⟨p,rfl,h p hp⟩) (by rw [aan];exact jo (by omega)) ?_;rintro d acc ⟨p,rfl,hp⟩;exact jH (ji rfl rfl) rfl (ja6 hnm hp)
 refine zU ?_;show xu yn [.shr (.lst (ps.map rl))]=_;unfold xu
 have hlen:asB (two (app (jb (rdS 0) nil1) lenD) (cI 40) gtI) [.shr (.lst (ps.map rl))]= .ok false:=by
  refine qf (jr (zX (ji rfl rfl) rfl) rfl ?_);show Res.ok (D.bl (decide ((40:Int)< ((ps.map rl).length:Int))))=_;rw [aan,decide_eq_false (by omega)]
 refine (jU ((if_f (YW (wx (qf (b:=true) rfl)) hlen)).trans rfl)).trans ?_;exact qC (zX (ji key rfl) (VY _))
theorem uS {fe:Sl->Res D} (φ:D×D->D) (P:D×D->Prop) (hfe: ∀p acc,P p->fe [.shr p.1,.shr p.2,.own (.lst acc)]= .ok (φ p)):
  ∀(ps:List (D×D)) (acc:List D) (u v:Slot),(∀p∈ps,P p)->acc.length+ps.length<=aae-> ∃u' v',zB 2 (g2 (gN 0) (gN 1)) j4 fe (ps.map rl) [u,v,.own (.lst acc)]= .ok [u',v',.own (.lst (acc++ps.map φ))]
 | [],acc,u,v,_,_=>⟨u,v,by simp [zB]⟩
 |p::r,acc,u,v,hp,h=>by
  simp only [aad] at h;obtain ⟨u',v',e⟩:=uS φ P hfe r (acc++[φ p]) (.shr p.1) (.shr p.2) (fun x hx=>hp x (by simp [hx])) (by simp only [aao,aad,aas];omega);refine ⟨u',v',?_⟩
  have h1:zB 2 (g2 (gN 0) (gN 1)) j4 fe ((p::r).map rl) [u,v,.own (.lst acc)]=zB 2 (g2 (gN 0) (gN 1)) j4 fe (r.map rl) [.shr p.1,.shr p.2,.own (.lst (acc++[φ p]))]:=by
   show (fe [.shr p.1,.shr p.2,.own (.lst acc)]>>=_)=_;rw [hfe p acc (hp p (by simp))];exact jk (c:=acc.length<aae) (by omega)
  rw [h1,e];simp
theorem VQ {fe:Sl->Res D} {fi:Sl->Res (List D)} {env:Sl} {ps:List (D×D)} (φ:D×D->D) (P:D×D->Prop) (hfe: ∀p acc,P p->fe [.shr p.1,.shr p.2,.own (.lst acc)]= .ok (φ p)) (hi:fi env= .ok (ps.map rl)) (hp: ∀p∈ps,P p) (hl:ps.length<=aae):
  qz false 2 [] fi (g2 (gN 0) (gN 1)) j4 fe env= .ok (.lst (ps.map φ)):=by
 obtain ⟨u,v,e⟩:=uS φ P hfe ps [] .un .un hp (by simpa using hl);show (fi env>>=_)=_;rw [hi];show (zB 2 (g2 (gN 0) (gN 1)) j4 fe (ps.map rl) [.un,.un,.own (.lst [])]>>=_)=_;rw [e];rw [ac0];exact jk (c:=(false=true->D.imms (ps.map φ)=true)) (fun z=>by cases z)
def obj (ps:List (D×D)) (hs:List D):D:= .obj "Rules" ["listed", "named"] [.lst (ps.map rl),.lst hs]
theorem kE {g1 g2:Sl->Res OutO} {env env':Sl} (h:g1 env= .ok (.nx env')):seqJ g1 g2 env=g2 env':=by
 show (g1 env>>=_)=_;rw [h];rfl
theorem jgO {t:Sl->Res Bool} {g1 g2:Sl->Res OutO} {env:Sl} (h:t env= .ok false):ifJ t g1 g2 env=g2 env:=by
 show (t env>>=_)=_;rw [h];rfl
theorem KP {f:Sl->Res D} {env:Sl} {c n:Str} {i:Nat} {fs:List Str} {ds:List D} {d:D} (h:f env= .ok d) (hi:env[i]?=some (.own (.obj c fs ds))) (hl:fs.length<1000):jam i c n f env= .ok (.nx (env.set i (.own (.obj c (YI n fs) (YJ n d fs ds))))):=by
 have ho:ownJ i c env= .ok (fs,ds):=by
  unfold ownJ;rw [hi];exact jk rfl
 show (f env>>=fun d=>ownJ i c env>>=_)=_;rw [h];show (ownJ i c env>>=_)=_;rw [ho];exact jk hl
theorem jgL (hl5:ns.length=5) (hnm: ∀z∈ns,isNm (.str z)=true) {ps:List (D×D)} (h:Rus ns ps) (hl:ps.length<=40): ∃hs,qg (.obj "Rules" [] []) [.lst (ps.map rl)]= .ok (.non,obj ps hs):=by
 have hz:ps.length<=aae:=jo (by omega)
 obtain ⟨hs,hh⟩:=U1 (ns:=ns) hl5 hnm (ts:=ps.map (·.1)++ps.map (·.2)) (fun t ht=>by
  rcases aaL.mp ht with z|z
  · obtain ⟨p,hp,rfl⟩:=aaK.mp z;have r:=h p hp;exact ⟨r.tl,by have:=r.hl;omega,by have:=r.nl;omega⟩
  · obtain ⟨p,hp,rfl⟩:=aaK.mp z;have r:=h p hp
    exact ⟨r.tr,by have:=r.hr;omega,by have:=r.nr;omega⟩)
 refine ⟨hs,?_⟩
 have e0:jZ zP qZ (yG 2 (.obj "Rules" [] []) [.lst (ps.map rl)])= .ok (.nx [.own (obj ps hs),.shr (.lst (ps.map rl))]):=by
  show jZ zP qZ [.own (.obj "Rules" [] []),.shr (.lst (ps.map rl))]=_;unfold jZ;have t1:notB (asB (jg 1 qZ (jb (rdS 1) nil1))) [.own (.obj "Rules" [] []),.shr (.lst (ps.map rl))]= .ok false:=wx (qf (jH (ji rfl rfl) rfl (UZ hnm h hl)));refine (kE (jgO t1)).trans ?_;refine (kE ((KP (d:= .lst (ps.map rl)) (zX (ji rfl rfl) rfl) rfl (by decide)).trans rfl)).trans ?_;have c1:=VQ (fe:=rdS 0) (fi:=itF (rdS 1)) (env:=[.own (.obj "Rules" ["listed"] [.lst (ps.map rl)]),.shr (.lst (ps.map rl))]) (ps:=ps) (·.1) (fun _=>True) (fun p acc _=>rfl) rfl (fun _ _=>trivial) hz;have c2:=VQ (fe:=rdS 1) (fi:=itF (rdS 1)) (env:=[.own (.obj "Rules" ["listed"] [.lst (ps.map rl)]),.shr (.lst (ps.map rl))]) (ps:=ps) (·.2) (fun _=>True) (fun p acc _=>rfl) rfl (fun _ _=>trivial) hz;refine (KP (d:= .lst hs) (jH (ds:=[.lst (ps.map (·.1)++ps.map (·.2))]) (ji (jr c1 c2 (KB (by simp only [aan];exact jo (by omega)))) rfl) rfl hh) rfl (by decide)).trans ?_;rfl
 refine (jk (c:=[D.lst (ps.map rl)].length=1) rfl).trans ?_;show (jZ zP qZ (yG 2 (.obj "Rules" [] []) [.lst (ps.map rl)])>>=_)=_;rw [e0];rfl
theorem jgf (ps:List (D×D)) (hs:List D):qy [obj ps hs]= .ok (.lst (ps.map rl)):=by
 refine zU ?_;show zS [.shr (obj ps hs)]=_;unfold zS;exact qC (zX (ji (d:= .lst (ps.map rl)) rfl rfl) rfl)
end
mutual
def prs:D->List (List Int×D)
 | .tup (x::r)=>([],.tup (x::r))::prss 0 r
 |d=>[([],d)]
def prss (k:Nat):List D->List (List Int×D)
 | []=>[]
 |d::r=>(prs d).map (fun p=>((k:Int)::p.1,p.2))++prss (k+1) r
end
def jC (p:List Int):D:= .tup (p.map .int)
theorem yS (x:D) (r:List D):prs (.tup (x::r))=([],.tup (x::r))::prss 0 r:=by simp [prs]
theorem yU (i:Int):prs (.int i)=[([],.int i)]:=by simp [prs]
theorem xR (k:Nat) (d:D) (r:List D):prss k (d::r)=(prs d).map (fun p=>((k:Int)::p.1,p.2))++prss (k+1) r:=by simp [prss]
theorem Qy (k:Nat):prss k []=[]:=by simp [prss]
mutual
theorem yT: ∀d:D,(prs d).length=num d
 | .tup (x::r)=>by rw [yS,aad,prss_len 0 r];simp [num];omega
 | .tup []=>by simp [prs,num]
 | .non=>by simp [prs,num]
 | .bl _=>by simp [prs,num]
 | .int _=>by simp [prs,num]
 | .str _=>by simp [prs,num]
 | .lst _=>by simp [prs,num]
 | .scr _=>by simp [prs,num]
 | .dic _ _=>by simp [prs,num]
 | .dit _ _=>by simp [prs,num]
 | .exn _=>by simp [prs,num]
 | .fdc _ _=>by simp [prs,num]
 | .hdc _ _=>by simp [prs,num]
 | .obj _ _ _=>by simp [prs,num]
theorem prss_len: ∀(k:Nat) (ds:List D),(prss k ds).length=nums ds
 |k,[]=>by simp [prss,nums]
 |k,d::r=>by rw [xR,aao,aan,yT d,prss_len (k+1) r];simp [nums]
end
section
variable {ns:List Str}
theorem Qz: ∀ {ds:List D} {k:Nat} {q:List Int×D},q∈prss k ds-> ∃(j:Nat) (u:D) (p:List Int×D),ds[j]?=some u/\p∈prs u/\q=(((k+j:Nat):Int)::p.1,p.2)
 | [],k,q,h=>by rw [Qy] at h;cases h
 |d::r,k,q,h=>by
  rw [xR] at h;rcases aaL.mp h with h|h
  · obtain ⟨p,hp,rfl⟩:=aaK.mp h;exact ⟨0,d,p,rfl,hp,rfl⟩
  · obtain ⟨j,u,p,h1,h2,rfl⟩:=Qz h;exact ⟨j+1,u,p,by simpa using h1,h2,by simp only [Prod.mk.injEq,aed,and_true];omega⟩
theorem Zg {ds:List D} {j:Nat} {u:D} (h:ds[j]?=some u):u∈ds:=aaZ h
theorem xq: ∀t,tk ns t=true-> ∀p∈prs t,p.1.length+1<=hgt t/\(∀i∈p.1,0<=i)/\tk ns p.2=true:=qB (fun i p hp=>by
   rw [yU] at hp;simp only [aah,aaq,or_false] at hp;subst hp
   exact ⟨by simp [hgt],(fun _ h=>by cases h),rfl⟩) fun z ts hz hl h p hp=>by
 rw [yS] at hp;rcases aah.mp hp with rfl|hp
 · exact ⟨by rw [qu];simp,(fun _ h=>by cases h),Yt hz hl fun t ht=>(h t ht).1⟩
 · obtain ⟨j,u,q,h1,h2,rfl⟩:=Qz hp;have hu:=Zg h1;obtain ⟨a1,a2,a3⟩:=(h u hu).2 q h2;have:=qe hu;refine ⟨by rw [qu,aad];omega,fun i hi=>?_,a3⟩;rcases aah.mp hi with rfl|hi
   · omega
   · exact a2 i hi
theorem ixT {l:List D} {k:Nat} {x:D} (h:l[k]?=some x):ixD (.tup l) (.int (k:Int))= .ok x:=by
 simp only [ixD];rw [M.atI_nat,h]
theorem QC: ∀ {ds:List D} {d:D},d∈ds->num d<=nums ds
 |x::r,d,h=>by
  simp only [nums];rcases aah.mp h with rfl|h
  · omega
  · have:=QC h;omega
theorem jbP {a b:List D} (h:a.length+b.length<=aae):addE (.tup a) (.tup b)= .ok (.tup (a++b)):=by
 cases a with
 |nil=>rfl
 |cons x r=>exact Jb rfl h
def ptD (p:List Int×D):D:=jC p.1
def jbG (k:Int):D->D
 | .tup xs=> .tup (.int k::xs)
 |d=>d
def jeH (n:Nat):Sl->Res Out:=qa 1 (qz false 1 [2] (itF (jg 1 (wc n) (jb (rdS 3) nil1))) (gN 0) j4 (two (tupF (jb (rdS 1) nil1)) (rdS 0) addD))
theorem Vt {i:Nat} {f:Sl->Res D} {env:Sl} {ds es:List D} (h1:ownL i env= .ok ds) (h2:f env= .ok (.lst es)) (h3:ds.length+es.length<=aae):qa i f env= .ok (.nx (env.set i (.own (.lst (ds++es))))):=by
 unfold qa;rw [h1,wB,h2,wB];exact jk h3
theorem Z6 {n:Nat} {t:Slot}: ∀(r:List D) (k:Nat) (acc:List D) (u v:Slot),(∀d∈r,wc n [d]= .ok (.lst ((prs d).map ptD))/\ ∀p∈prs d,p.1.length<=100)->acc.length+nums r<=2000->
  ∃u' v',forD (qp (g2 (gN 2) (gN 3)) (jeH n)) (ju k r) [t,.own (.lst acc),u,v]= .ok (.nx [t,.own (.lst (acc++(prss k r).map ptD)),u',v'])
 | [],k,acc,u,v,_,_=>⟨u,v,by rw [Qy];simp [ju,forD]⟩
 |d::r,k,acc,u,v,ih,hl=>by
  simp only [nums] at hl;obtain ⟨h1,h2⟩:=ih d (by simp);have hlen:=yT d
  have hc:qz false 1 [2] (itF (jg 1 (wc n) (jb (rdS 3) nil1))) (gN 0) j4 (two (tupF (jb (rdS 1) nil1)) (rdS 0) addD) [t,.own (.lst acc),.shr (.int (k:Int)),.shr d]= .ok (.lst (((prs d).map ptD).map (jbG k))):=
   jdQ (c:= .shr (.int (k:Int))) rfl (jbG k) (fun d=> ∃p:List Int,d=jC p/\p.length<=100) (Qq (jH (ji rfl rfl) rfl h1) rfl) (fun e he=>by
    obtain ⟨p,hp,rfl⟩:=aaK.mp he
    exact ⟨p.1,rfl,h2 p hp⟩) (jo (by simp [hlen];omega)) (fun e acc ⟨p,he,hp⟩=>by
    subst he
    exact jr (wr (ji rfl rfl) (jo (by simp))) rfl (Jb rfl (jo (by simp;omega))))
  have hstep:qp (g2 (gN 2) (gN 3)) (jeH n) (.tup [.int (k:Int),d]) [t,.own (.lst acc),u,v]= .ok (.nx [t,.own (.lst (acc++((prs d).map ptD).map (jbG k))),.shr (.int (k:Int)),.shr d]):=by
   rw [wQ (env':=[t,.own (.lst acc),.shr (.int (k:Int)),.shr d]) rfl];exact (Vt (ds:=acc) rfl hc (jo (by simp [hlen];omega))).trans rfl
  obtain ⟨u',v',hr⟩:=Z6 r (k+1) (acc++((prs d).map ptD).map (jbG k)) (.shr (.int (k:Int))) (.shr d) (fun e he=>ih e (by simp [he])) (by simp [hlen];omega);refine ⟨u',v',?_⟩;show forD _ (.tup [.int (k:Int),d]::ju (k+1) r) _=_;rw [zk hstep,hr,xR];simp [ab6];exact fun a b _=>rfl
theorem jb6: ∀(n:Nat) (t:D),tk ns t=true->hgt t<=n->hgt t<=100->num t<=1000->wc n [t]= .ok (.lst ((prs t).map ptD))
 |0,t,_,h,_,_=>by have:=xY t;omega
 |n+1,t,ht,h1,h2,h3=>by
  refine zU ?_;show W4 jE (wc n) [.shr t,.un,.un,.un]=_;unfold W4;have s1:setO 1 (lstF (jb (tupF nil1) nil1)) [.shr t,.un,.un,.un]= .ok (.nx [.shr t,.own (.lst [jC []]),.un,.un]):=(Wx (Zh (ji (wr rfl (jo (by simp))) rfl) (jo (by simp)))).trans rfl;refine (jU s1).trans ?_
  have en:jbp (jg 1 jE (jb (rdS 0) nil1)) [.shr t,.own (.lst [jC []]),.un,.un]= .ok (ju 0 (kids t)):=by
    show (jg 1 _ _ _>>=_)=_;have hcl:jg 1 jE (jb (rdS 0) nil1) [.shr t,.own (.lst [jC []]),.un,.un]= .ok (.tup (kids t)):=jH (ds:=[t]) (ji rfl rfl) rfl (J0 (QG (J8 t ht)));rw [hcl];rfl
  have ih: ∀u∈kids t,wc n [u]= .ok (.lst ((prs u).map ptD))/\ ∀p∈prs u,p.1.length<=100:=fun u hu=>by
    have hku:tk ns u=true:=by
     rcases jY ht with ⟨i,rfl⟩| ⟨z,ts,rfl,hz,hl,hts⟩
     · cases hu
     · exact hts u hu
    have a1:=qe hu;have a2:=QC hu;rw [XY] at h1 h2;rw [Wa] at h3;exact ⟨jb6 n u hku (by omega) (by omega) (by omega),fun p hp=>by have:=(xq u hku p hp).1;omega⟩
  obtain ⟨u',v',hr⟩:=Z6 (t:= .shr t) (kids t) 0 [jC []] .un .un ih (by rw [Wa] at h3;simp;omega);refine (jU ((yI en).trans hr)).trans ?_;rcases jY ht with ⟨i,rfl⟩| ⟨z,ts,rfl,hz,hl,hts⟩
  · rw [yU];rfl
  · rw [yS];rfl
def prB (b:List Int) (p:List Int×D):D:= .tup [jC (b++p.1),p.2]
def lpB (n:Nat):Sl->Res Out:=qa 2 (jg 2 (jy n) (jb (two (rdS 0) (two (cI 1) (rdS 3) addE) ixD) (jb (two (rdS 1) (tupF (jb (rdS 3) nil1)) addE) nil1)))
def LP (n:Nat) (t:D):Prop:= ∀b:List Int,b.length+hgt t<=100->jy n [t,jC b]= .ok (.lst ((prs t).map (prB b)))
theorem vK {n:Nat} (z:Str) (ts:List D) (b:List Int) (hb:b.length+hgts ts<=99): ∀(rest:List D) (j:Nat) (acc:List D) (u:Slot),ts.drop j=rest->(∀c∈rest,LP n c)->acc.length+nums rest<=2000->
  ∃u':Slot,forD (qp (gN 3) (lpB n)) (wb (j:Int) rest.length) [.shr (.tup (.str z::ts)),.shr (jC b),.own (.lst acc),u]= .ok (.nx [.shr (.tup (.str z::ts)),.shr (jC b),.own (.lst (acc++(prss j rest).map (prB b))),u'])
 | [],j,acc,u,_,_,_=>⟨u,by rw [Qy];simp [wb,forD]⟩
 |c::rest,j,acc,u,hd,hc,hl=>by
  simp only [nums] at hl ⊢
  have hj:ts[j]?=some c:=by
   have:(ts.drop j)[0]?=some c:=by rw [hd];rfl
   rw [List.getElem?_drop] at this;simpa using this
  have hcm:c∈ts:=aaZ hj;have hch:=qe hcm;have h1:=hc c (by simp) (b++[(j:Int)]) (by simp only [aao,aad,aas];omega);have hlen:=yT c
  have hd':ts.drop (j+1)=rest:=by
   rw [←List.drop_drop,hd];rfl
  obtain ⟨u',ih1⟩:=vK z ts b hb rest (j+1) (acc++(prs c).map (prB (b++[(j:Int)]))) (.shr (.int (j:Int))) hd' (fun x hx=>hc x (by simp [hx])) (by simp only [aao,aan];omega);refine ⟨u',?_⟩
  have hcall:jg 2 (jy n) (jb (two (rdS 0) (two (cI 1) (rdS 3) addE) ixD) (jb (two (rdS 1) (tupF (jb (rdS 3) nil1)) addE) nil1)) [.shr (.tup (.str z::ts)),.shr (jC b),.own (.lst acc),.shr (.int (j:Int))]= .ok (.lst ((prs c).map (prB (b++[(j:Int)])))):=by
   refine jH (ds:=[c,jC (b++[(j:Int)])]) (ji (jr rfl (jr (z:= .int ((j+1:Nat):Int)) rfl rfl ?_) (ixT (by simpa using hj))) (ji (jr rfl (wr (ji rfl rfl) (jo (by simp))) ?_) rfl)) rfl h1
   · show Res.ok (D.int (1+(j:Int)))=_;rw [Int.add_comm];rfl
   · unfold jC;rw [jbP (by simp only [aan,aad,aas];exact jo (by omega)),abO];rfl
  have hs:qp (gN 3) (lpB n) (.int (j:Int)) [.shr (.tup (.str z::ts)),.shr (jC b),.own (.lst acc),u]= .ok (.nx [.shr (.tup (.str z::ts)),.shr (jC b),.own (.lst (acc++(prs c).map (prB (b++[(j:Int)])))),.shr (.int (j:Int))]):=by
   rw [wQ (env':=[.shr (.tup (.str z::ts)),.shr (jC b),.own (.lst acc),.shr (.int (j:Int))]) rfl];exact (Vt (ds:=acc) rfl hcall (by simp only [aan];exact jo (by omega))).trans rfl
  rw [aad,UM,zk hs];have e:((j:Int)+1)=((j+1:Nat):Int):=by omega
  rw [e,ih1,xR,abO,aaU]
  have e2:(prs c).map (prB (b++[(j:Int)]))=((prs c).map fun p=>((j:Int)::p.1,p.2)).map (prB b):=by
   rw [ab6];refine acG fun p _=>?_
   simp [prB]
  rw [e2]
theorem WS: ∀(n:Nat) (t:D),tk ns t=true->hgt t<=n->num t<=1000->LP n t
 |0,t,_,h,_=>by have:=xY t;omega
 |n+1,t,ht,hh,hn=>by
  intro b hb;have hbl:b.length<=100:=by omega
  have e0:prB b ([],t)= .tup [jC b,t]:=by simp [prB]
  have hw:notB (asB (jg 1 jj (jb (rdS 0) nil1))) [.shr t,.shr (jC b),.own (.lst [.tup [jC b,t]]),.un]= .ok (!isN t):=wx (qf (jH (ji rfl rfl) rfl (ZV ht)));have s1:setO 2 (lstF (jb (tupF (jb (rdS 1) (jb (rdS 0) nil1))) nil1)) [.shr t,.shr (jC b),.un,.un]= .ok (.nx [.shr t,.shr (jC b),.own (.lst [.tup [jC b,t]]),.un]):=(Wx (Zh (ji (wr (ji rfl (ji rfl rfl)) (jo (by simp))) rfl) (jo (by simp)))).trans rfl;refine zU ?_;show wK jj (jy n) [.shr t,.shr (jC b),.un,.un]=_;unfold wK;refine (jU s1).trans ?_;rcases jY ht with ⟨i,rfl⟩| ⟨z,ts,rfl,hz,hl,hts⟩
  · refine (jU ((if_f hw).trans rfl)).trans ?_;rw [yU,aaw,e0];rfl
  · rw [qu] at hh hb;rw [qD] at hn;obtain ⟨u',h1⟩:=vK (n:=n) z ts b (by omega) ts 0 [.tup [jC b,.tup (.str z::ts)]] .un (by simp) (fun c hc=>WS n c (hts c hc) (by have:=qe hc;omega) (by have:=QC hc;omega)) (by simp only [aad,aas];omega)
    have hr:rngF (jb (two (app (jb (rdS 0) nil1) lenD) (cI 1) subI) nil1) [.shr (.tup (.str z::ts)),.shr (jC b),.own (.lst [.tup [jC b,.tup (.str z::ts)]]),.un]= .ok (wb 0 ts.length):=by
     have hfa:jb (two (app (jb (rdS 0) nil1) lenD) (cI 1) subI) nil1 [.shr (.tup (.str z::ts)),.shr (jC b),.own (.lst [.tup [jC b,.tup (.str z::ts)]]),.un]= .ok [.int (((ts.length+1:Nat):Int)-1)]:=ji (jr (zX (ji rfl rfl) rfl) rfl rfl) rfl;rw [Q1 hfa (by omega)];rw [show (((ts.length+1:Nat):Int)-1).toNat=ts.length by omega]
    have h1':forO (rngF (jb (two (app (jb (rdS 0) nil1) lenD) (cI 1) subI) nil1)) (gN 3) (lpB n) [.shr (.tup (.str z::ts)),.shr (jC b),.own (.lst [.tup [jC b,.tup (.str z::ts)]]),.un]=_:=(yI hr).trans h1;refine (jU ((if_t hw).trans h1')).trans ?_;rw [yS,aaw,e0];rfl
theorem jcM: ∀t,tk ns t=true->(prs t).map (·.2)=pts t:=qB (fun i=>by rw [yU];simp [pts]) fun z ts _ _ h=>by
 have: ∀(us:List D) (k:Nat),(∀u∈us,(prs u).map (·.2)=pts u)->(prss k us).map (·.2)=ptss us:=fun us=>by
  induction us with
  |nil=>intro k _;rw [Qy];simp [ptss]
  |cons d r ih=>
   intro k h;rw [xR,abO,ab6,ih (k+1) fun u hu=>h u (by simp [hu]),ptss,←h d (by simp)];rfl
 rw [yS,aaw,this ts 0 fun u hu=>(h u hu).2];simp [pts]
end
section
variable {ns:List Str}
mutual
def sub (φ:Int->D):D->D
 | .int i=>φ i
 | .tup (x::r)=> .tup (x::subs φ r)
 |d=>d
def subs (φ:Int->D):List D->List D
 | []=>[]
 |d::r=>sub φ d::subs φ r
end
theorem KK (φ:Int->D): ∀ts,subs φ ts=ts.map (sub φ)
 | []=>by simp [subs]
 |d::r=>by simp [subs,KK φ r]
theorem QR (φ:Int->D) (z:Str) (ts:List D):sub φ (.tup (.str z::ts))= .tup (.str z::ts.map (sub φ)):=by simp [sub,KK]
theorem sub_int (φ:Int->D) (i:Int):sub φ (.int i)=φ i:=by simp [sub]
theorem jbW {φ:Int->D} (h: ∀i,tk ns (φ i)=true): ∀t,tk ns t=true->tk ns (sub φ t)=true:=qB (fun i=>by rw [sub_int];exact h i) fun z ts hz hl ht=>by
 rw [QR];refine Yt hz (by simpa using hl) fun u hu=>?_
 obtain ⟨t,h1,rfl⟩:=aaK.mp hu;exact (ht t h1).2
theorem ud {φ:Int->D} {B:Nat} (h: ∀i,hgt (φ i)<=B): ∀t,tk ns t=true->hgt (sub φ t)<=hgt t+B:=qB (fun i=>by rw [sub_int];have:=h i;omega) fun z ts hz hl ht=>by
 rw [QR,qu,qu]
 have:hgts (ts.map (sub φ))<=hgts ts+B:=hgts_le fun d hd=>by
  obtain ⟨t,h1,rfl⟩:=aaK.mp hd;have:=(ht t h1).2;have:=qe h1;omega
 omega
theorem wC: ∀t,tk ns t=true->D.eqb t=true/\D.dep t<=hgt t:=qB (fun i=>by simp [D.eqb,D.dep]) fun z ts _ hl h=>by
 have h1:D.eqbs ts=true:=Qe fun t ht=>((h t ht).2).1
 have h2:D.deps ts<=hgts ts:=Qf fun t ht=>aaC ((h t ht).2).2 (qe ht)
 rw [qu];refine ⟨by simp [D.eqb,D.eqbs,h1],?_⟩;simp only [D.dep,D.deps];omega
theorem uw: ∀t,tk ns t=true->eqD t t=true:=qB (fun i=>by simp [eqD]) fun z ts _ hl h=>by
 simp only [eqD,eqDs,beq_self_eq_true,Bool.true_and];exact X4 fun t ht=>(h t ht).2
theorem jfL {t:D} (h:tk ns t=true) (hh:hgt t<=100):eqR t t= .ok (.bl true):=by
 obtain ⟨h1,h2⟩:=wC t h;have:eqR t t= .ok (.bl (eqD t t)):=jk (c:=EqC t t) (.inl ⟨h1,h1,by omega⟩);rw [this,uw t h]
def look (ks:List Key) (ds:List D) (i:Int):D:=(valD ks ds (.inl i)).getD (.int i)
theorem uh: ∀ {ks:List Key} {ds:List D} (k:Key),ks.length=ds.length->hasK ks k=(valD ks ds k).isSome
 | [],[],k,_=>rfl
 | [],_::_,k,h=>by simp at h
 |_::_,[],k,h=>by simp at h
 |x::ks,d::ds,k,h=>by
  have ih:=uh (ks:=ks) (ds:=ds) k (by simpa using h)
  by_cases e:x=k
  · simp [hasK,valD,e]
  · have e1:hasK (x::ks) k=hasK ks k:=by simp [hasK,e]
    have e2:valD (x::ks) (d::ds) k=valD ks ds k:=by simp [valD,e]
    rw [e1,e2,ih]
theorem Wt {ks:List Key} {ds:List D} {k:Key} {d:D} (h:valD ks ds k=some d):d∈ds:=by
 unfold valD at h
 cases z2:(ks.zip ds).find? fun p=>decide (p.1=k) with
 |none=>rw [z2] at h;cases h
 |some pr=>rw [z2] at h;cases h;exact (acl (List.mem_of_find?_eq_some z2)).2
theorem jda {ks:List Key} {ds:List D} (h: ∀d∈ds,tk ns d=true) (i:Int):tk ns (look ks ds i)=true:=by
 unfold look
 cases e:valD ks ds (.inl i) with
 |none=>rfl
 |some d=>exact h d (Wt e)
theorem jaV {ks:List Key} {ds:List D} {B:Nat} (hB:1<=B) (h: ∀d∈ds,hgt d<=B) (i:Int):hgt (look ks ds i)<=B:=by
 unfold look
 cases e:valD ks ds (.inl i) with
 |none=>simp [hgt];omega
 |some d=>exact h d (Wt e)
theorem Kh {ks:List Key} {ds:List D}: ∀(n:Nat) (t:D),tk ns t=true->hgt t<=n->jF n [t,.dic ks ds]= .ok (sub (look ks ds) t)
 |0,t,_,h=>by have:=xY t;omega
 |n+1,t,ht,hh=>by
  have htest:asB (jg 1 jj (jb (rdS 0) nil1)) [.shr t,.shr (.dic ks ds)]= .ok (isN t):=qf (jH (ji rfl rfl) rfl (ZV ht));rcases jY ht with ⟨i,rfl⟩| ⟨z,r,rfl,hz,hl,hr⟩
  · refine WC ?_;show qM jj (jF n) [.shr (.int i),.shr (.dic ks ds)]=_;unfold qM;rw [sub_int];exact Z1 ((if_t htest).trans (JZ rfl))
  · rw [qu] at hh;have hsl:j7 (rdS 0) (qQ (cI 1)) zA slD [.shr (.tup (.str z::r)),.shr (.dic ks ds)]= .ok (.tup r):=qU (x:= .tup (.str z::r)) (lo:=some 1) (hi:=none) rfl (qT rfl) rfl (show Res.ok (D.tup (cutD (.str z::r) (some 1) none))=_ by rw [cut1])
    have hcomp:qz false 1 [1] (itF (j7 (rdS 0) (qQ (cI 1)) zA slD)) (gN 0) j4 (jg 2 (jF n) (jb (rdS 0) (jb (rdS 1) nil1))) [.shr (.tup (.str z::r)),.shr (.dic ks ds)]= .ok (.lst (r.map (sub (look ks ds)))):=by
     refine jdQ (c:= .shr (.dic ks ds)) rfl (sub (look ks ds)) (fun d=>d∈r) (Qq hsl rfl) (fun d hd=>hd) (jo (by omega)) ?_;intro d acc hd;refine jH (ji rfl (ji rfl rfl)) rfl (Kh n d (hr d hd) ?_);have:=qe hd;omega
    refine zU ?_;show qM jj (jF n) [.shr (.tup (.str z::r)),.shr (.dic ks ds)]=_;unfold qM;rw [jU ((if_f htest).trans rfl),QR];exact qC (zX (ji (jr (Zh (ji (jr rfl rfl ix0) rfl) (jo (by simp))) hcomp (KB (a:=[.str z]) (b:=r.map (sub (look ks ds))) (by rw [aan];simp only [aad,aas];exact jo (by omega)))) rfl) rfl)
end
section
variable {ns:List Str}
theorem JP {g1 g2:Sl->Res OutI} {env env':Sl} (h:g1 env= .ok (.nx env')):seqI g1 g2 env=g2 env':=by
 show (g1 env>>=_)=_;rw [h];rfl
theorem Yy {g1 g2:Sl->Res OutI} {env env':Sl} {b:Bool} (h:g1 env= .ok (.rt b env')):seqI g1 g2 env= .ok (.rt b env'):=by
 show (g1 env>>=_)=_;rw [h];rfl
theorem jfA {t:Sl->Res Bool} {g1 g2:Sl->Res OutI} {env:Sl} (h:t env= .ok true):ifI t g1 g2 env=g1 env:=by
 show (t env>>=_)=_;rw [h];rfl
theorem v3 {t:Sl->Res Bool} {g1 g2:Sl->Res OutI} {env:Sl} (h:t env= .ok false):ifI t g1 g2 env=g2 env:=by
 show (t env>>=_)=_;rw [h];rfl
theorem kM {N n:Nat} {g:Sl->Res OutI} {ds:List D} {ks:List Key} {es:List D} {b:Bool} {ks':List Key} {es':List D} {env:Sl} (h:g (yH N ds ks es)= .ok (.rt b env)) (hn:ds.length=n) (he:env[n]?=some (.own (.dic ks' es'))):runI N n g ds ks es= .ok (b,ks',es'):=by
 unfold runI;rw [h];show must _ _=_;rw [jk hn,he]
theorem ue (z:Str) (ts:List D):zF [.tup (.str z::ts)]= .ok (.tup [.str z,.int ((ts.length:Nat):Int)]):=by
 refine zU ?_;show Wl [.shr (.tup (.str z::ts))]=_;unfold Wl;have h1:asB (isiF "tuple" (rdS 0)) [.shr (.tup (.str z::ts))]= .ok true:=rfl;refine qC ?_;show (asB (isiF "tuple" (rdS 0)) [.shr (.tup (.str z::ts))]>>=_)=_;rw [h1];refine (wr (ji (jr rfl rfl ix0) (ji (jr (zX (ji rfl rfl) rfl) rfl rfl) rfl)) (jo (by simp))).trans ?_;simp
theorem jc6 (z:Str) (k:Int):neR (.tup [.str z,.int k]) (.tup [.str z,.int k])= .ok (.bl false):=by
 unfold neR;rw [jk (by left;simp [D.eqb,D.eqbs,D.dep,D.deps])];simp [eqD,eqDs]
theorem jfh: ∀t,tk ns t=true->nb t=true:=qB (fun i=>rfl) fun z ts _ _ h=>by
 simp only [nb,nbs,Bool.true_and];exact jb8 fun t ht=>(h t ht).2
theorem jfM {a b:D} (ha:tk ns a=true) (hb:tk ns b=true):eqD a b=true↔a=b:=jdx a (jfh a ha) b (jfh b hb)
theorem jdw {a b:D} (ha:tk ns a=true) (hb:tk ns b=true) (hh:hgt a<=100):eqR a b= .ok (.bl (eqD a b)):=by
 obtain ⟨h1,h2⟩:=wC a ha;exact jk (c:=EqC a b) (.inl ⟨h1,(wC b hb).1,by omega⟩)
theorem vE {a b:D} (ha:tk ns a=true) (hb:tk ns b=true) (hh:hgt a<=100):neR a b= .ok (.bl (!eqD a b)):=by
 obtain ⟨h1,h2⟩:=wC a ha;exact jk (c:=EqC a b) (.inl ⟨h1,(wC b hb).1,by omega⟩)
abbrev As:=List (Int×D)
def ky (M:As):List Key:=kys (M.map (·.1))
def vl (M:As):List D:=M.map (·.2)
theorem jgN (M:As):(ky M).length=(vl M).length:=by simp [ky,vl,kys]
theorem jcb (M:As):(ky M).length=M.length:=by simp [ky,kys]
theorem yK: ∀(M:As) (i:Int),valD (ky M) (vl M) (.inl i)=M.lookup i
 | [],i=>by simp [valD,ky,kys]
 | (x,d)::M,i=>by
  have ih:=yK M i
  by_cases e:i=x
  · subst e;simp [valD,ky,vl,kys,aaT]
  · have e1:valD (ky ((x,d)::M)) (vl ((x,d)::M)) (.inl i)=valD (ky M) (vl M) (.inl i):=by
     have:(ad6 x:Key)≠ .inl i:=fun h=>e (Sum.inl.inj h).symm
     simp [valD,ky,vl,kys,this]
    rw [e1,ih,aaT];have:(i==x)=false:=by simpa using e
    rw [this]
theorem KY {M:As} {i:Int} (d:D) (h:M.lookup i=none):wX (ky M) (.inl i)=ky (M++[(i,d)])/\wY (ky M) (vl M) (.inl i) d=vl (M++[(i,d)]):=by
 have hk:hasK (ky M) (.inl i)=false:=by
  rw [uh (.inl i) (jgN M),yK,h];rfl
 unfold wX wY;rw [hk];simp [ky,vl,kys]
def addC:As->As->Option As
 |M,[]=>some M
 |M,(i,d)::r=>match M.lookup i with
  |some d0=>if eqD d0 d=true then addC M r else none
  |none=>addC (M++[(i,d)]) r
theorem JI: ∀(a b M:As),addC M (a++b)=(addC M a).bind fun M'=>addC M' b
 | [],b,M=>rfl
 | (i,d)::r,b,M=>by
  simp only [List.cons_append,addC]
  cases M.lookup i with
  |none=>exact JI r b _
  |some d0=>
   dsimp only
   split
   · exact JI r b M
   · rfl
theorem Xh: ∀(ps M M':As),addC M ps=some M'->M'.length<=M.length+ps.length
 | [],M,M',h=>by cases h;simp
 | (i,d)::r,M,M',h=>by
  simp only [addC] at h
  cases e:M.lookup i with
  |none=>
   rw [e] at h;have:=Xh r _ M' h;simp only [aao,aad,aas] at this ⊢;omega
  |some d0=>
   rw [e] at h;dsimp only at h
   split at h
   · have:=Xh r M M' h;simp only [aad];omega
   · cases h
theorem QL: ∀(ps M M':As),addC M ps=some M'-> ∀q∈M',q∈M\/q∈ps
 | [],M,M',h,q,hq=>by cases h;exact .inl hq
 | (i,d)::r,M,M',h,q,hq=>by
  simp only [addC] at h
  cases e:M.lookup i with
  |none=>
   rw [e] at h;rcases QL r _ M' h q hq with z|z
   · rcases aaL.mp z with z|z
     · exact .inl z
     · exact .inr (by simp only [aah,aaq,or_false] at z;simp [z])
   · exact .inr (by simp [z])
  |some d0=>
   rw [e] at h;dsimp only at h
   split at h
   · rcases QL r M M' h q hq with z|z
     · exact .inl z
     · exact .inr (by simp [z])
   · cases h
mutual
def mp:D->D->Option As
 | .int i,t=>some [(i,t)]
 | .tup (.str z::ps),.tup (.str w::ts)=>if z=w then mps ps ts else none
 |_,_=>none
def mps:List D->List D->Option As
 | [],[]=>some []
 |p::ps,t::ts=>(mp p t).bind fun a=>(mps ps ts).bind fun b=>some (a++b)
 |_,_=>none
end
theorem Vd (i:Int) (t:D):mp (.int i) t=some [(i,t)]:=by simp [mp]
theorem Vc (z w:Str) (ps ts:List D):mp (.tup (.str z::ps)) (.tup (.str w::ts))=if z=w then mps ps ts else none:=by simp [mp]
theorem jaQ (z:Str) (ps:List D) (i:Int):mp (.tup (.str z::ps)) (.int i)=none:=by simp [mp]
theorem Jo (p t:D) (ps ts:List D):mps (p::ps) (t::ts)=(mp p t).bind fun a=>(mps ps ts).bind fun b=>some (a++b):=by simp [mps]
theorem Y5: ∀(ps ts:List D),ps.length≠ts.length->mps ps ts=none
 | [],[],h=>absurd rfl h
 | [],_::_,_=>by simp [mps]
 |_::_,[],_=>by simp [mps]
 |p::ps,t::ts,h=>by
  rw [Jo,Y5 ps ts (by simpa using h)];cases mp p t<;>rfl
theorem jaO {p t:D} {ps ts:List D} {M:As}:(mps (p::ps) (t::ts)).bind (addC M)=((mp p t).bind (addC M)).bind fun M1=>(mps ps ts).bind (addC M1):=by
 rw [Jo]
 cases mp p t with
 |none=>rfl
 |some a=>
  cases h:mps ps ts with
  |none=>
   show none=(addC M a).bind _;cases addC M a<;>rfl
  |some b=>exact JI a b M
def Pt (ns:List Str) (t:D) (q:Int×D):Prop:=tk ns q.2=true/\hgt q.2<=hgt t/\num q.2<=num t
mutual
theorem jaP: ∀(p t:D) (a:As),tk ns t=true->mp p t=some a-> ∀q∈a,Pt ns t q
 | .int i,t,a,ht,h,q,hq=>by
  rw [Vd] at h;cases h;simp only [aah,aaq,or_false] at hq;subst hq;exact ⟨ht,aai _,aai _⟩
 | .tup (.str z::ps),t,a,ht,h,q,hq=>by
  rcases jY ht with ⟨i,rfl⟩| ⟨w,ts,rfl,_,_,hts⟩
  · rw [jaQ] at h;cases h
  · rw [Vc] at h
    split at h
    · obtain ⟨u,hu,hp⟩:=mps_pt ps ts a hts h q hq;refine ⟨hp.1,?_,?_⟩
      · have:=hp.2.1;have:=qe hu;rw [qu];omega
      · have:=hp.2.2;rw [qD];obtain ⟨x,y,rfl⟩:=adL hu;rw [WO];simp only [nums];omega
    · cases h
 | .tup [],t,a,ht,h,q,hq=>by simp [mp] at h
 | .tup (.non::_),t,a,ht,h,q,hq=>by simp [mp] at h
 | .tup (.bl _::_),t,a,ht,h,q,hq=>by simp [mp] at h
 | .tup (.int _::_),t,a,ht,h,q,hq=>by simp [mp] at h
 | .tup (.tup _::_),t,a,ht,h,q,hq=>by simp [mp] at h
 | .tup (.lst _::_),t,a,ht,h,q,hq=>by simp [mp] at h
 | .tup (.scr _::_),t,a,ht,h,q,hq=>by simp [mp] at h
 | .tup (.dic _ _::_),t,a,ht,h,q,hq=>by simp [mp] at h
 | .tup (.dit _ _::_),t,a,ht,h,q,hq=>by simp [mp] at h
 | .tup (.exn _::_),t,a,ht,h,q,hq=>by simp [mp] at h
 | .tup (.fdc _ _::_),t,a,ht,h,q,hq=>by simp [mp] at h
 | .tup (.hdc _ _::_),t,a,ht,h,q,hq=>by simp [mp] at h
 | .non,t,a,ht,h,q,hq=>by simp [mp] at h
 | .bl _,t,a,ht,h,q,hq=>by simp [mp] at h
 | .str _,t,a,ht,h,q,hq=>by simp [mp] at h
 | .lst _,t,a,ht,h,q,hq=>by simp [mp] at h
 | .scr _,t,a,ht,h,q,hq=>by simp [mp] at h
 | .dic _ _,t,a,ht,h,q,hq=>by simp [mp] at h
 | .dit _ _,t,a,ht,h,q,hq=>by simp [mp] at h
 | .exn _,t,a,ht,h,q,hq=>by simp [mp] at h
 | .fdc _ _,t,a,ht,h,q,hq=>by simp [mp] at h
 | .hdc _ _,t,a,ht,h,q,hq=>by simp [mp] at h
theorem mps_pt: ∀(ps ts:List D) (a:As),(∀t∈ts,tk ns t=true)->mps ps ts=some a-> ∀q∈a,∃t∈ts,Pt ns t q
 | [],[],a,ht,h,q,hq=>by simp [mps] at h;subst h;cases hq
 | [],_::_,a,ht,h,q,hq=>by simp [mps] at h
 |_::_,[],a,ht,h,q,hq=>by simp [mps] at h
 |p::ps,t::ts,a,ht,h,q,hq=>by
  rw [Jo] at h
  cases e1:mp p t with
  |none=>rw [e1] at h;cases h
  |some x=>
   rw [e1] at h
   cases e2:mps ps ts with
   |none=>rw [e2] at h;cases h
   |some y=>
    rw [e2] at h;cases h;rcases aaL.mp hq with z|z
    · exact ⟨t,by simp,jaP p t x (ht t (by simp)) e1 q z⟩
    · obtain ⟨u,hu,hp⟩:=mps_pt ps ts y (fun u hu=>ht u (by simp [hu])) e2 q z;exact ⟨u,by simp [hu],hp⟩
end
theorem jfl: ∀p,tk ns p=true-> ∀t a,mp p t=some a->a.length<=num p:=qB (fun i t a h=>by rw [Vd] at h;cases h;simp [num]) fun z ps _ _ hp t a h=>by
 cases t with
 |tup l=>
  cases l with
  |nil=>simp [mp] at h
  |cons x ts=>
   cases x with
   |str w=>
    rw [Vc] at h
    split at h
    · rw [qD]
      have key: ∀(ps ts:List D) (a:As),(∀p∈ps,∀t a,mp p t=some a->a.length<=num p)->mps ps ts=some a->a.length<=nums ps:=fun ps=>by
       induction ps with
       |nil=>intro ts a _ h;cases ts<;>simp [mps] at h;subst h;simp
       |cons p ps ih=>
        intro ts a hh h
        cases ts with
        |nil=>simp [mps] at h
        |cons t ts=>
         rw [Jo] at h
         cases e1:mp p t with
         |none=>rw [e1] at h;cases h
         |some x=>
          rw [e1] at h
          cases e2:mps ps ts with
          |none=>rw [e2] at h;cases h
          |some y=>
           rw [e2] at h;cases h;have h1:=hh p (by simp) t x e1;have h2:=ih ts y (fun p' hp'=>hh p' (by simp [hp'])) e2;simp only [nums,aao];omega
      have:=key ps ts a (fun p hp'=>(hp p hp').2) h;omega
    · cases h
   |_=>simp [mp] at h
 |_=>simp [mp] at h
end
section
variable {ns:List Str}
theorem jbL {d:D} (h:fine d=true) (hg:isGr d=false):yp [d]= .ok d:=by
 have ht:asB (jg 1 zf (jb (rdS 0) nil1)) [.shr d]= .ok false:=qf (jH (ji rfl rfl) rfl (by rw [jce h,hg]));refine WC ?_;show Jx zf [.shr d]=_;unfold Jx;rw [jU ((if_f ht).trans rfl)];exact JZ rfl
def As.ok (ns:List Str) (M:As):Prop:= ∀q∈M,tk ns q.2=true/\hgt q.2<=100
theorem jaM {z w:Str} {a b:Nat} (h: ¬(z=w/\a=b)):neR (.tup [.str z,.int (a:Int)]) (.tup [.str w,.int (b:Int)])= .ok (.bl true):=by
 unfold neR;rw [jk (by left;simp [D.eqb,D.eqbs,D.dep,D.deps])]
 have:eqD (.tup [.str z,.int (a:Int)]) (.tup [.str w,.int (b:Int)])=false:=by
  simp only [eqD,eqDs,Bool.and_true];rw [Bool.and_eq_false_iff]
  by_cases e:z=w
  · right
    have:a≠b:=fun e2=>h ⟨e,e2⟩
    simp;omega
  · left;simpa using e
 rw [this];rfl
theorem jaL (z:Str) (a:Int):neR (.tup [.str z,.int a]) .non= .ok (.bl true):=by
 unfold neR;rw [jk (by left;simp [D.eqb,D.eqbs,D.dep,D.deps])];simp [eqD]
def fitB (n:Nat):Sl->Res OutI:=ifNI (Qw (jD n) 2 (rdS 3) (rdS 4)) (retI (cB false)) nxI
def FitR (o:Option As) (r:Res (Bool×List Key×List D)):Prop:=match o with
 |some M=>r= .ok (true,ky M,vl M)
 |none=> ∃M:As,r= .ok (false,ky M,vl M)
def Fits (ns:List Str) (n:Nat) (p:D):Prop:= ∀(t:D) (M:As),tk ns t=true->hgt t<=100->M.ok ns->M.length+num p<=5000->FitR ((mp p t).bind (addC M)) (jD n [p,t] (ky M) (vl M))
theorem jg3 {p t:D} {M M':As} (ht:tk ns t=true) (hh:hgt t<=100) (hM:M.ok ns) (h:(mp p t).bind (addC M)=some M'):M'.ok ns:=by
 cases e:mp p t with
 |none=>rw [e] at h;cases h
 |some a=>
  rw [e] at h;intro q hq;rcases QL a M M' h q hq with z|z
  · exact hM q z
  · have:=jaP p t a ht e q z;exact ⟨this.1,by have:=this.2.1;omega⟩
theorem jf8 {p t:D} {M M':As} (hp:tk ns p=true) (h:(mp p t).bind (addC M)=some M'):M'.length<=M.length+num p:=by
 cases e:mp p t with
 |none=>rw [e] at h;cases h
 |some a=>
  rw [e] at h;have h1:=Xh a M M' h;have h2:=jfl p hp t a e;omega
theorem X2 {n:Nat} (a b:Slot): ∀(ps ts:List D) (M:As) (u v:Slot),(∀p∈ps,tk ns p=true/\Fits ns n p)->(∀t∈ts,tk ns t=true/\hgt t<=100)->ps.length=ts.length->M.ok ns->M.length+nums ps<=5000->
  match (mps ps ts).bind (addC M) with
  |some M2=> ∃u' v',W5 (g2 (gN 3) (gN 4)) (fitB n) (qR ps ts) [a,b,.own (.dic (ky M) (vl M)),u,v]= .ok (.nx [a,b,.own (.dic (ky M2) (vl M2)),u',v'])
  |none=> ∃(env:Sl) (M2:As),W5 (g2 (gN 3) (gN 4)) (fitB n) (qR ps ts) [a,b,.own (.dic (ky M) (vl M)),u,v]= .ok (.rt false env)/\env[2]?=some (.own (.dic (ky M2) (vl M2)))
 | [],[],M,u,v,_,_,_,_,_=>by
  simp only [mps,abt,addC];exact ⟨u,v,rfl⟩
 | [],_::_,_,_,_,_,_,h,_,_=>by simp at h
 |_::_,[],_,_,_,_,_,h,_,_=>by simp at h
 |p::ps,t::ts,M,u,v,hp,ht,hl,hM,hlen=>by
  obtain ⟨hp1,hp2⟩:=hp p (by simp);obtain ⟨ht1,ht2⟩:=ht t (by simp);simp only [nums] at hlen;have hF:=hp2 t M ht1 ht2 hM (by omega);rw [jaO]
  have e0:W5 (g2 (gN 3) (gN 4)) (fitB n) (qR (p::ps) (t::ts)) [a,b,.own (.dic (ky M) (vl M)),u,v]=(fitB n [a,b,.own (.dic (ky M) (vl M)),.shr p,.shr t]>>=fun o=>match o with
   | .nx env'=>W5 (g2 (gN 3) (gN 4)) (fitB n) (qR ps ts) env'
   | .rt b e=> .ok (.rt b e)):=rfl
  cases e:(mp p t).bind (addC M) with
  |none=>
   rw [e] at hF;obtain ⟨M2,hM2⟩:=hF
   have hc:Qw (jD n) 2 (rdS 3) (rdS 4) [a,b,.own (.dic (ky M) (vl M)),.shr p,.shr t]= .ok (false,[a,b,.own (.dic (ky M2) (vl M2)),.shr p,.shr t]):=by
    show (jD n [p,t] (ky M) (vl M)>>=_)=_;rw [hM2];rfl
   have hs:fitB n [a,b,.own (.dic (ky M) (vl M)),.shr p,.shr t]= .ok (.rt false [a,b,.own (.dic (ky M2) (vl M2)),.shr p,.shr t]):=by
    show (Qw (jD n) 2 (rdS 3) (rdS 4) [a,b,.own (.dic (ky M) (vl M)),.shr p,.shr t]>>=_)=_;rw [hc];rfl
   show∃(env:Sl) (M2:As),_;refine ⟨[a,b,.own (.dic (ky M2) (vl M2)),.shr p,.shr t],M2,?_,rfl⟩;rw [e0,hs];rfl
  |some M1=>
   rw [e] at hF;have hM1:=jg3 ht1 ht2 hM e;have hl1:=jf8 hp1 e
   have hc:Qw (jD n) 2 (rdS 3) (rdS 4) [a,b,.own (.dic (ky M) (vl M)),.shr p,.shr t]= .ok (true,[a,b,.own (.dic (ky M1) (vl M1)),.shr p,.shr t]):=by
    show (jD n [p,t] (ky M) (vl M)>>=_)=_;rw [show jD n [p,t] (ky M) (vl M)=_ from hF];rfl
   have hs:fitB n [a,b,.own (.dic (ky M) (vl M)),.shr p,.shr t]= .ok (.nx [a,b,.own (.dic (ky M1) (vl M1)),.shr p,.shr t]):=by
    show (Qw (jD n) 2 (rdS 3) (rdS 4) [a,b,.own (.dic (ky M) (vl M)),.shr p,.shr t]>>=_)=_;rw [hc];rfl
   rw [e0,hs];exact X2 a b ps ts M1 (.shr p) (.shr t) (fun x hx=>hp x (by simp [hx])) (fun x hx=>ht x (by simp [hx])) (by simpa using hl) hM1 (by omega)
theorem jfG: ∀(n:Nat) (p:D),tk ns p=true->hgt p<=n->Fits ns n p
 |0,p,_,h=>by have:=xY p;omega
 |n+1,p,hp,hh=>by
  intro t M ht htt hM hl;have hi:=Vi hp;have htest: ∀q d u v,notB (asB (isiF "tuple" (rdS 0))) [.shr p,q,d,u,v]= .ok (!isT p):=fun q d u v=>wx (qf (by rw [xy];exact hi))
  rcases jY hp with ⟨i,rfl⟩| ⟨z,r,rfl,hz,hlr,hr⟩
  · rw [Vd];have hlen:(ky M).length<aae:=by rw [jcb];exact adI (show M.length<=5000 by omega) (by decide)
    have e0:jap 2 (rdS 0) (rdS 1) (rdS 1) [.shr (.int i),.shr t,.own (.dic (ky M) (vl M)),.un,.un]=must ((ky M).length<aae) (match valD (ky M) (vl M) (.inl i) with
      |some d0=>eqR d0 t>>=fun r=>match r with
        | .bl b=> .ok (.rt b [.shr (.int i),.shr t,.own (.dic (ky M) (vl M)),.un,.un])
        |_=> .stuck
      |none=>eqR t t>>=fun r=>match r with
        | .bl b=> .ok (.rt b [.shr (.int i),.shr t,.own (.dic (wX (ky M) (.inl i)) (wY (ky M) (vl M) (.inl i) t)),.un,.un])
        |_=> .stuck):=rfl
    rw [jk hlen,yK] at e0
    have fin: ∀(b:Bool) (M2:As) (env:Sl),jap 2 (rdS 0) (rdS 1) (rdS 1) [.shr (.int i),.shr t,.own (.dic (ky M) (vl M)),.un,.un]= .ok (.rt b env)->env[2]?=some (.own (.dic (ky M2) (vl M2)))->jD (n+1) [.int i,t] (ky M) (vl M)= .ok (b,ky M2,vl M2):=fun b M2 env h1 h2=>by
      refine kM (env:=env) ?_ rfl h2;show zV zF jE (jD n) [.shr (.int i),.shr t,.own (.dic (ky M) (vl M)),.un,.un]=_;unfold zV;exact Yy ((jfA (htest _ _ _ _)).trans h1)
    show FitR (addC M [(i,t)]) _;simp only [addC]
    cases e:M.lookup i with
    |none=>
      rw [e] at e0;dsimp only at e0 ⊢;rw [jfL ht htt,(KY t e).1,(KY t e).2] at e0;exact fin true _ _ e0 rfl
    |some d0=>
      rw [e] at e0;dsimp only at e0 ⊢
      have hd0:tk ns d0=true/\hgt d0<=100:=by
        have:(i,d0)∈M:=by
         clear e0 fin hl hM hlen
         induction M with
         |nil=>cases e
         |cons q M ih=>
           obtain ⟨x,d⟩:=q;rw [aaT] at e
           by_cases hx:i=x
           · subst hx;simp at e;subst e;simp
           · have:(i==x)=false:=by simpa using hx
             rw [this] at e;exact aaI _ (ih e)
        exact hM _ this
      rw [jdw hd0.1 ht hd0.2] at e0
      cases hb:eqD d0 t with
      |true=>
        rw [hb] at e0;rw [if_pos rfl];exact fin true M _ e0 rfl
      |false=>
        rw [hb] at e0;rw [if_neg aaz];exact ⟨M,fin false M _ e0 rfl⟩
  · rw [qu] at hh;rw [qD] at hl;have pl1:=J0 (d:= .tup (.str z::r)) rfl;simp only [kids] at pl1;have fin: ∀(b:Bool) (M2:As) (env:Sl),zV zF jE (jD n) [.shr (.tup (.str z::r)),.shr t,.own (.dic (ky M) (vl M)),.un,.un]= .ok (.rt b env)->env[2]?=some (.own (.dic (ky M2) (vl M2)))->jD (n+1) [.tup (.str z::r),t] (ky M) (vl M)= .ok (b,ky M2,vl M2):=fun b M2 env h1 h2=>kM (env:=env) h1 rfl h2
    have stop:asB (two (jg 1 zF (jb (rdS 0) nil1)) (jg 1 zF (jb (rdS 1) nil1)) neR) [.shr (.tup (.str z::r)),.shr t,.own (.dic (ky M) (vl M)),.un,.un]= .ok true->jD (n+1) [.tup (.str z::r),t] (ky M) (vl M)= .ok (false,ky M,vl M):=fun ht2=>by
      refine fin false M [.shr (.tup (.str z::r)),.shr t,.own (.dic (ky M) (vl M)),.un,.un] ?_ rfl;unfold zV;rw [JP ((v3 (htest _ _ _ _)).trans rfl)];exact Yy ((jfA ht2).trans rfl)
    rcases jY ht with ⟨j,rfl⟩| ⟨w,ts,rfl,_,_,hts⟩
    · rw [jaQ];exact ⟨M,stop (qf (jr (jH (ji rfl rfl) rfl (ue z r)) (jH (d:= .non) (ji rfl rfl) rfl rfl) (jaL z _)))⟩
    · rw [Vc]
      by_cases hzw:z=w/\r.length=ts.length
      · obtain ⟨rfl,hlen⟩:=hzw;rw [if_pos rfl];have pl2:=J0 (d:= .tup (.str z::ts)) rfl;simp only [kids] at pl2;have hh2:=ue z ts;rw [←hlen] at hh2
        have ht2:asB (two (jg 1 zF (jb (rdS 0) nil1)) (jg 1 zF (jb (rdS 1) nil1)) neR) [.shr (.tup (.str z::r)),.shr (.tup (.str z::ts)),.own (.dic (ky M) (vl M)),.un,.un]= .ok false:=
         qf (jr (jH (ji rfl rfl) rfl (ue z r)) (jH (ji rfl rfl) rfl hh2) (jc6 z _))
        have hzip:zipF (jg 1 jE (jb (rdS 0) nil1)) (jg 1 jE (jb (rdS 1) nil1)) [.shr (.tup (.str z::r)),.shr (.tup (.str z::ts)),.own (.dic (ky M) (vl M)),.un,.un]= .ok (qR r ts):=by
         have c1:jg 1 jE (jb (rdS 0) nil1) [.shr (.tup (.str z::r)),.shr (.tup (.str z::ts)),.own (.dic (ky M) (vl M)),.un,.un]= .ok (.tup r):=jH (ji rfl rfl) rfl pl1;have c2:jg 1 jE (jb (rdS 1) nil1) [.shr (.tup (.str z::r)),.shr (.tup (.str z::ts)),.own (.dic (ky M) (vl M)),.un,.un]= .ok (.tup ts):=jH (ji rfl rfl) rfl pl2;unfold zipF;rw [c1,wB,c2];rfl
        have hfor:forI (zipF (jg 1 jE (jb (rdS 0) nil1)) (jg 1 jE (jb (rdS 1) nil1))) (g2 (gN 3) (gN 4)) (fitB n) [.shr (.tup (.str z::r)),.shr (.tup (.str z::ts)),.own (.dic (ky M) (vl M)),.un,.un]=W5 (g2 (gN 3) (gN 4)) (fitB n) (qR r ts) [.shr (.tup (.str z::r)),.shr (.tup (.str z::ts)),.own (.dic (ky M) (vl M)),.un,.un]:=by
         show (zipF _ _ _>>=_)=_;rw [hzip];rfl
        have hloop:=X2 (ns:=ns) (n:=n) (.shr (.tup (.str z::r))) (.shr (.tup (.str z::ts))) r ts M .un .un (fun p hp=>⟨hr p hp,jfG n p (hr p hp) (by have:=qe hp;omega)⟩) (fun u hu=>⟨hts u hu,by rw [qu] at htt;have:=qe hu;omega⟩) hlen hM (by omega)
        cases e:(mps r ts).bind (addC M) with
        |none=>
         rw [e] at hloop;obtain ⟨env,M2,h1,h2⟩:=hloop;refine ⟨M2,fin false M2 env ?_ h2⟩;unfold zV;rw [JP ((v3 (htest _ _ _ _)).trans rfl),JP ((v3 ht2).trans rfl)];exact Yy (hfor.trans h1)
        |some M2=>
         rw [e] at hloop;obtain ⟨u',v',h1⟩:=hloop;refine fin true M2 [.shr (.tup (.str z::r)),.shr (.tup (.str z::ts)),.own (.dic (ky M2) (vl M2)),u',v'] ?_ rfl;unfold zV;rw [JP ((v3 (htest _ _ _ _)).trans rfl),JP ((v3 ht2).trans rfl)];exact (JP (hfor.trans h1)).trans rfl
      · have hno:(if z=w then mps r ts else none)=none:=by
         by_cases e:z=w
         · rw [if_pos e];exact Y5 r ts fun e2=>hzw ⟨e,e2⟩
         · rw [if_neg e]
        rw [hno];exact ⟨M,stop (qf (jr (jH (ji rfl rfl) rfl (ue z r)) (jH (ji rfl rfl) rfl (ue w ts)) (jaM hzw)))⟩
def fitO:Option As->D
 |some M=> .dic (ky M) (vl M)
 |none=> .non
theorem jbk {p t:D} (hp:tk ns p=true) (ht:tk ns t=true) (hh:hgt p<=64) (hht:hgt t<=100) (hn:num p<=1000):zY [p,t]= .ok (fitO ((mp p t).bind (addC []))):=by
 have hF:=jfG 64 p hp hh t [] ht hht (fun _ h=>by cases h) (by simp only [aas];omega);refine zU ?_;show Jw (jD 64) [.shr p,.shr t,.un]=_;unfold Jw;rw [jU (env':=[.shr p,.shr t,.own (.dic [] [])]) rfl]
 cases e:(mp p t).bind (addC []) with
 |none=>
  rw [e] at hF;obtain ⟨M2,hM2⟩:=hF
  have hc:Qw (jD 64) 2 (rdS 0) (rdS 1) [.shr p,.shr t,.own (.dic [] [])]= .ok (false,[.shr p,.shr t,.own (.dic (ky M2) (vl M2))]):=by
   show (jD 64 [p,t] (ky []) (vl [])>>=_)=_;rw [hM2];rfl
  show (Qw (jD 64) 2 (rdS 0) (rdS 1) _>>=_)=_;rw [hc];rfl
 |some M2=>
  rw [e] at hF
  have hc:Qw (jD 64) 2 (rdS 0) (rdS 1) [.shr p,.shr t,.own (.dic [] [])]= .ok (true,[.shr p,.shr t,.own (.dic (ky M2) (vl M2))]):=by
   show (jD 64 [p,t] (ky []) (vl [])>>=_)=_;rw [show jD 64 [p,t] (ky []) (vl [])=_ from hF];rfl
  show (Qw (jD 64) 2 (rdS 0) (rdS 1) _>>=_)=_;rw [hc];rfl
end
section
variable {ns:List Str}
theorem zH: ∀ {M:As} {i:Int} {d:D},M.lookup i=some d->(i,d)∈M
 | [],_,_,h=>by cases h
 | (x,e)::M,i,d,h=>by
  rw [aaT] at h
  by_cases hx:i=x
  · subst hx;simp at h;subst h;simp
  · have:(i==x)=false:=by simpa using hx
    rw [this] at h;exact aaI _ (zH h)
theorem Wb: ∀ {M:As} {i:Int},i∈M.map (·.1)-> ∃d,M.lookup i=some d
 | [],_,h=>by cases h
 | (x,e)::M,i,h=>by
  rw [aaT]
  by_cases hx:i=x
  · subst hx;exact ⟨e,by simp⟩
  · have:(i==x)=false:=by simpa using hx
    rw [this];simp only [aaw,aah] at h;exact Wb (h.resolve_left hx)
theorem Kc {M:As} {i:Int} (h:M.lookup i=none):i∉M.map (·.1):=fun z=>by
 obtain ⟨d,e⟩:=Wb z;rw [h] at e;cases e
theorem Jp {M:As} {i:Int} {d:D} (nd:(M.map (·.1)).Nodup) (h:(i,d)∈M):M.lookup i=some d:=by
 induction M with
 |nil=>cases h
 |cons q M ih=>
  obtain ⟨x,e⟩:=q;simp only [aaw,abN] at nd;rw [aaT];rcases aah.mp h with z|z
  · cases z;simp
  · have hx:i≠x:=fun e=>nd.1 (e▸aaK.mpr ⟨_,z,rfl⟩)
    have:(i==x)=false:=by simpa using hx
    rw [this];exact ih nd.2 z
def prD (q:D×D):D:= .tup [q.1,q.2]
def mpS:List (D×D)->Option As
 | []=>some []
 |q::S=>(mp q.1 q.2).bind fun a=>(mpS S).bind fun b=>some (a.reverse++b)
theorem Y6: ∀A B:List (D×D),mpS (A++B)=(mpS A).bind fun a=>(mpS B).bind fun b=>some (a++b)
 | [],B=>by
  simp only [ac0,mpS,abt];cases mpS B<;>rfl
 |q::A,B=>by
  simp only [List.cons_append,mpS,Y6 A B]
  cases mp q.1 q.2 with
  |none=>rfl
  |some a=>
   cases mpS A with
   |none=>rfl
   |some b=>
    cases mpS B with
    |none=>rfl
    |some c=>simp
theorem vI: ∀ps ts:List D,ps.length=ts.length->mpS (ps.zip ts).reverse=(mps ps ts).bind fun a=>some a.reverse
 | [],[],_=>by simp [mpS,mps]
 | [],_::_,h=>by simp at h
 |_::_,[],h=>by simp at h
 |p::ps,t::ts,h=>by
  rw [abr,ad0,Y6,vI ps ts (by simpa using h),Jo];simp only [mpS]
  cases mp p t with
  |none=>cases mps ps ts<;>rfl
  |some a=>
   cases mps ps ts with
   |none=>rfl
   |some b=>simp
def cost (S:List (D×D)):Nat:=(S.map fun q=>num q.1).sum
theorem VP: ∀ps ts:List D,ps.length=ts.length->cost (ps.zip ts).reverse=nums ps
 | [],[],_=>by simp [cost,nums]
 | [],_::_,h=>by simp at h
 |_::_,[],h=>by simp at h
 |p::ps,t::ts,h=>by
  have ih:=VP ps ts (by simpa using h);simp only [cost,abr,ad0,abO,List.sum_append,aaw,adH,List.sum_cons,List.sum_nil,nums] at ih ⊢;omega
theorem jbF (A B:List (D×D)):cost (A++B)=cost A+cost B:=by simp [cost]
theorem X8 (q:D×D) (S:List (D×D)):cost (q::S)=num q.1+cost S:=by simp [cost]
theorem Vf: ∀S:List (D×D),S.length<=cost S
 | []=>by simp
 |q::S=>by
  have:=Vf S;have:=Ze q.1;rw [X8,aad];omega
theorem jaR {q:D×D} {S:List (D×D)} {M:As}:(mpS (q::S)).bind (addC M)=((mp q.1 q.2).bind fun a=>addC M a.reverse).bind fun M1=>(mpS S).bind (addC M1):=by
 simp only [mpS]
 cases mp q.1 q.2 with
 |none=>rfl
 |some a=>
  simp only [abt]
  cases h:mpS S with
  |none=>
   show none=(addC M a.reverse).bind _;cases addC M a.reverse<;>rfl
  |some b=>exact JI a.reverse b M
theorem VR {cs:List Slot} {fe:Sl->Res D} (h:D->D) (P:D->Prop) (hf: ∀d acc,P d->fe (.shr d::(cs++[.own (.lst acc)]))= .ok (h d)):
  ∀(ds:List D) (x:Slot) (acc:List D),(∀d∈ds,P d)->acc.length+ds.length<=aae->
   ∃(y:Slot),zB (1+cs.length) (gN 0) j4 fe ds (x::(cs++[.own (.lst acc)]))= .ok (y::(cs++[.own (.lst (acc++ds.map h))]))
 | [],x,acc,_,_=>⟨x,by simp [zB]⟩
 |d::ds,x,acc,hP,hl=>by
  simp only [aad] at hl;have ht:=hf d acc (hP d (by simp));obtain ⟨y,h1⟩:=VR h P hf ds (.shr d) (acc++[h d]) (fun e he=>hP e (by simp [he])) (by simp only [aao,aad,aas];omega);refine ⟨y,?_⟩
  have e1:ownL (1+cs.length) (.shr d::(cs++[.own (.lst acc)]))= .ok acc:=by
   unfold ownL;rw [show (1+cs.length)=cs.length+1 by omega,aaQ,aar (aai _)];simp
  have e2:(Slot.shr d::(cs++[Slot.own (.lst acc)])).set (1+cs.length) (.own (.lst (acc++[h d])))= .shr d::(cs++[.own (.lst (acc++[h d]))]):=by
   rw [show (1+cs.length)=cs.length+1 by omega,acj,List.set_append_right _ _ (aai _)];simp
  show (fe (.shr d::(cs++[.own (.lst acc)]))>>=_)=_;rw [ht];show (ownL (1+cs.length) (.shr d::(cs++[.own (.lst acc)]))>>=_)=_;rw [e1];show must _ _=_;rw [jk (by omega)];show zB _ _ _ _ ds ((Slot.shr d::(cs++[Slot.own (.lst acc)])).set (1+cs.length) (.own (.lst (acc++[h d]))))=_;rw [e2,h1];simp
theorem jdP {js:List Nat} {fi:Sl->Res (List D)} {fe:Sl->Res D} {env:Sl} {ds:List D} {cs:List Slot} (h:D->D) (P:D->Prop) (hc:js.map (capS false env)=cs) (hi:fi env= .ok ds) (hP: ∀d∈ds,P d) (hl:ds.length<=aae)
  (hf: ∀d acc,P d->fe (.shr d::(cs++[.own (.lst acc)]))= .ok (h d)):qz false 1 js fi (gN 0) j4 fe env= .ok (.lst (ds.map h)):=by
 obtain ⟨y,h1⟩:=VR (cs:=cs) h P hf ds .un [] hP (by simpa using hl);have hlen:js.length=cs.length:=by rw [←hc];simp
 show (fi env>>=_)=_;rw [hi];show (zB (1+js.length) (gN 0) j4 fe ds (xh false 1 js env)>>=_)=_
 have he:xh false 1 js env= .un::(cs++[.own (.lst [])]):=by
  unfold xh;rw [hc];rfl
 rw [he,hlen,h1];show (ownL (1+cs.length) (y::(cs++[.own (.lst ([]++ds.map h))]))>>=_)=_
 have e1:ownL (1+cs.length) (y::(cs++[.own (.lst ([]++ds.map h))]))= .ok (ds.map h):=by
  unfold ownL;rw [show (1+cs.length)=cs.length+1 by omega,aaQ,aar (aai _)];simp
 rw [e1];exact jk (c:=false=true->D.imms (ds.map h)=true) (fun h=>by cases h)
def fitW:Sl->Res Out:=(seqO (popO 3 (g2 (gN 4) (gN 5)))
 (ifO (asB (jg 1 jj (jb (rdS 4) nil1))) (ifSD 2 (rdS 4) (rdS 5) (rdS 5) (retO cN) nxO) (ifO (orB (asB (jg 1 jj (jb (rdS 5) nil1))) (orB (asB (two (two (rdS 4) (cI 0) ixD) (two (rdS 5) (cI 0) ixD) neR)) (asB (two (app (jb (rdS 4) nil1) lenD) (app (jb (rdS 5) nil1) lenD) neR)))) (retO cN) (qa 3 (qz false 1 [4,5] (YE (jb (cI 1) (jb (app (jb (rdS 4) nil1) lenD) nil1))) (gN 0) j4 (tupF (jb (two (rdS 1) (rdS 0) ixD) (jb (two (rdS 2) (rdS 0) ixD) nil1))))))))
def dueE (a b:Slot) (M:As) (S:List (D×D)) (u v:Slot):Sl:=[a,b,.own (.dic (ky M) (vl M)),.own (.lst (S.reverse.map prD)),u,v]
def SOk (ns:List Str) (S:List (D×D)):Prop:= ∀q∈S,tk ns q.1=true/\hgt q.1<=60/\tk ns q.2=true/\hgt q.2<=60
theorem VE {a b:Slot} {M:As} {S:List (D×D)} {u v:Slot} (hS:SOk ns S):asB (two (rdB 3) (lstF nil1) neR) (dueE a b M S u v)= .ok (!S.isEmpty):=by
 have hb:D.eqbs (S.reverse.map prD)=true:=Qe fun d hd=>by
  obtain ⟨q,hq,rfl⟩:=aaK.mp hd;have:=hS q (adh.mp hq);simp [prD,D.eqb,D.eqbs,(wC _ this.1).1,(wC _ this.2.2.1).1]
 have hd:D.deps (S.reverse.map prD)<=70:=Qf fun d hd=>by
  obtain ⟨q,hq,rfl⟩:=aaK.mp hd;have:=hS q (adh.mp hq);have h1:=(wC _ this.1).2;have h2:=(wC _ this.2.2.1).2;have h3:=this.2.1;have h4:=this.2.2.2;simp only [prD,D.dep,D.deps];omega
 have hc:EqC (.lst (S.reverse.map prD)) (.lst []):= .inl ⟨by simp only [D.eqb];exact hb,rfl,by simp only [D.dep];omega⟩
 have hne:neR (.lst (S.reverse.map prD)) (.lst [])= .ok (.bl (!S.isEmpty)):=by
  unfold neR;rw [jk hc]
  cases S with
  |nil=>simp [eqD,eqDs]
  |cons q S=>
   have: ∃x xs,(q::S).reverse.map prD=x::xs:=by
    cases e:(q::S).reverse.map prD with
    |nil=>simp at e
    |cons x xs=>exact ⟨x,xs,rfl⟩
   obtain ⟨x,xs,e⟩:=this;rw [e];simp [eqD,eqDs]
 exact qf (jr rfl (Zh rfl (jo (by simp))) hne)
theorem jew {a b:Slot} {M:As} {q:D×D} {S:List (D×D)} {u v:Slot}:popO 3 (g2 (gN 4) (gN 5)) (dueE a b M (q::S) u v)= .ok (.nx (dueE a b M S (.shr q.1) (.shr q.2))):=by
 have e1:((q::S).reverse.map prD).getLast?=some (prD q):=by simp
 have e2:((q::S).reverse.map prD).dropLast=S.reverse.map prD:=by simp
 show (match ((q::S).reverse.map prD).getLast? with|some d=>_|none=>_)=_;rw [e1];show (g2 (gN 4) (gN 5) (prD q) ((dueE a b M (q::S) u v).set 3 (.own (.lst ((q::S).reverse.map prD).dropLast)))>>=_)=_;rw [e2];rfl
end
section
variable {ns:List Str}
theorem ixTs {x:D} {r:List D} {k:Nat} {d:D} (h:r[k]?=some d):ixD (.tup (x::r)) (.int ((k:Int)+1))= .ok d:=by
 simp only [ixD];rw [show (k:Int)+1=((k+1:Nat):Int) by omega,M.atI_nat,aaQ,h]
theorem jfg {z w:Str}:neR (.str z) (.str w)= .ok (.bl (!(z==w))):=by
 unfold neR;rw [jk (by left;simp [D.eqb,D.dep])];simp [eqD]
def ja2 (ps ts:List D):D->D
 | .int k=> .tup [(ps[(k-1).toNat]?).getD .non,(ts[(k-1).toNat]?).getD .non]
 |d=>d
theorem ja1 {ps ts:List D} (h:ps.length=ts.length):(wb 1 ps.length).map (ja2 ps ts)=(ps.zip ts).map prD:=by
 refine adY fun i=>?_
 rw [aaH,aaH];unfold wb;rw [aaH]
 by_cases hi:i<ps.length
 · have hi2:i<ts.length:=by omega
   rw [List.getElem?_range hi]
   have hz:(ps.zip ts)[i]?=some (ps[i],ts[i]):=by
    rw [aag (by rw [List.length_zip];omega)];simp
   rw [hz];simp [ja2,prD,hi,hi2];have e:(1+(i:Int)).toNat-1=i:=by omega
   rw [e];simp [hi,hi2]
 · have h1:(abx ps.length)[i]?=none:=by rw [aaO];simpa using hi
   have h2:(ps.zip ts)[i]?=none:=by rw [aaO];rw [List.length_zip];omega
   rw [h1,h2];rfl
theorem QJ (a b:Slot): ∀(n:Nat) (S:List (D×D)) (M:As) (u v:Slot),cost S+1<=n->SOk ns S->As.ok ns M->M.length+cost S<=5000->
  match (mpS S).bind (addC M) with
  |some M2=> ∃u' v',q0 n (asB (two (rdB 3) (lstF nil1) neR)) fitW (dueE a b M S u v)= .ok (.nx (dueE a b M2 [] u' v'))
  |none=>q0 n (asB (two (rdB 3) (lstF nil1) neR)) fitW (dueE a b M S u v)= .ok (.rt true .non)
 |0,S,M,u,v,h,_,_,_=>by omega
 |n+1,[],M,u,v,h,hS,hM,hl=>by
  simp only [mpS,abt,addC];exact ⟨u,v,ZW (VE (ns:=ns) hS)⟩
 |n+1,(p,t)::S,M,u,v,h,hS,hM,hl=>by
  have ht:=VE (a:=a) (b:=b) (M:=M) (u:=u) (v:=v) hS;have ht:asB (two (rdB 3) (lstF nil1) neR) (dueE a b M ((p,t)::S) u v)= .ok true:=ht;obtain ⟨hp,hph,htk,hth⟩:=hS (p,t) (by simp);have hS':SOk ns S:=fun q hq=>hS q (by simp [hq])
  rw [X8] at h hl;dsimp only at h hl hp hph htk hth;have hnp:=Ze p;rw [jaR];dsimp only;have hb:fitW (dueE a b M ((p,t)::S) u v)=ifO (asB (jg 1 jj (jb (rdS 4) nil1))) (ifSD 2 (rdS 4) (rdS 5) (rdS 5) (retO cN) nxO) (ifO (orB (asB (jg 1 jj (jb (rdS 5) nil1))) (orB (asB (two (two (rdS 4) (cI 0) ixD) (two (rdS 5) (cI 0) ixD) neR)) (asB (two (app (jb (rdS 4) nil1) lenD) (app (jb (rdS 5) nil1) lenD) neR)))) (retO cN) (qa 3 (qz false 1 [4,5] (YE (jb (cI 1) (jb (app (jb (rdS 4) nil1) lenD) nil1))) (gN 0) j4 (tupF (jb (two (rdS 1) (rdS 0) ixD) (jb (two (rdS 2) (rdS 0) ixD) nil1)))))) (dueE a b M S (.shr p) (.shr t)):=jU jew;have w4:asB (jg 1 jj (jb (rdS 4) nil1)) (dueE a b M S (.shr p) (.shr t))= .ok (isN p):=qf (jH (ji rfl rfl) rfl (ZV hp));have w5:asB (jg 1 jj (jb (rdS 5) nil1)) (dueE a b M S (.shr p) (.shr t))= .ok (isN t):=qf (jH (ji rfl rfl) rfl (ZV htk));rcases jY hp with ⟨i,rfl⟩| ⟨z,ps,rfl,hz,hlps,hps⟩
  · rw [Vd];rw [if_t w4] at hb;have hlen:(ky M).length<aae:=by rw [jcb];exact adI (show M.length<=5000 by omega) (by decide)
    have e0:sdN 2 (rdS 4) (rdS 5) (rdS 5) (dueE a b M S (.shr (.int i)) (.shr t))=must ((ky M).length<aae) (match valD (ky M) (vl M) (.inl i) with
      |some d0=>neR d0 t>>=fun r=>match r with
        | .bl bb=> .ok (bb,dueE a b M S (.shr (.int i)) (.shr t))
        |_=> .stuck
      |none=>neR t t>>=fun r=>match r with
        | .bl bb=> .ok (bb,[a,b,.own (.dic (wX (ky M) (.inl i)) (wY (ky M) (vl M) (.inl i) t)),.own (.lst (S.reverse.map prD)),.shr (.int i),.shr t])
        |_=> .stuck):=rfl
    rw [jk hlen,yK] at e0
    have hb2: ∀(bb:Bool) (env':Sl),sdN 2 (rdS 4) (rdS 5) (rdS 5) (dueE a b M S (.shr (.int i)) (.shr t))= .ok (bb,env')->fitW (dueE a b M ((.int i,t)::S) u v)=if bb=true then .ok (.rt true .non) else .ok (.nx env'):=fun bb env' e=>by
      rw [hb];show (sdN 2 (rdS 4) (rdS 5) (rdS 5) (dueE a b M S (.shr (.int i)) (.shr t))>>=_)=_;rw [e];cases bb<;>rfl
    have hme:addC M [(i,t)].reverse=match M.lookup i with
        |some d0=>if eqD d0 t=true then some M else none
        |none=>some (M++[(i,t)]):=by
      simp only [ad0,List.reverse_nil,ac0,addC]
      all_goals (cases abX i M<;>rfl)
    simp only [abt];rw [hme]
    cases e:M.lookup i with
    |none=>
      rw [e] at e0;dsimp only at e0 ⊢;rw [vE htk htk (by omega),(KY t e).1,(KY t e).2,uw t htk] at e0;have hgo:=hb2 false _ e0
      have hM2:As.ok ns (M++[(i,t)]):=fun q hq=>by
        rcases aaL.mp hq with z|z
        · exact hM q z
        · simp only [aah,aaq,or_false] at z;rw [z];exact ⟨htk,by dsimp only;omega⟩
      simp only [abt];rw [Ji ht hgo];exact QJ a b n S (M++[(i,t)]) (.shr (.int i)) (.shr t) (by omega) hS' hM2 (by simp only [aao,aad,aas];omega)
    |some d0=>
      rw [e] at e0;dsimp only at e0 ⊢;have hd0:=hM _ (zH e);dsimp only at hd0;rw [vE hd0.1 htk hd0.2] at e0
      cases hbq:eqD d0 t with
      |true=>
        rw [hbq] at e0;have hgo:=hb2 false _ e0;rw [if_pos rfl];simp only [abt];rw [Ji ht hgo];exact QJ a b n S M (.shr (.int i)) (.shr t) (by omega) hS' hM (by omega)
      |false=>
        rw [hbq] at e0;have hgo:=hb2 true _ e0;rw [if_neg aaz];exact QO ht hgo
  · rw [if_f w4] at hb
    have stop:orB (asB (jg 1 jj (jb (rdS 5) nil1))) (orB (asB (two (two (rdS 4) (cI 0) ixD) (two (rdS 5) (cI 0) ixD) neR)) (asB (two (app (jb (rdS 4) nil1) lenD) (app (jb (rdS 5) nil1) lenD) neR))) (dueE a b M S (.shr (.tup (.str z::ps))) (.shr t))= .ok true->q0 (n+1) (asB (two (rdB 3) (lstF nil1) neR)) fitW (dueE a b M ((.tup (.str z::ps),t)::S) u v)= .ok (.rt true .non):=fun e=>by
      refine QO ht ?_;rw [hb,if_t e];rfl
    rcases jY htk with ⟨j,rfl⟩| ⟨w,ts,rfl,_,hlts,hts⟩
    · rw [jaQ];refine stop ?_;show (asB (jg 1 jj (jb (rdS 5) nil1)) (dueE a b M S (.shr (.tup (.str z::ps))) (.shr (.int j)))>>=_)=_;rw [w5];rfl
    · rw [Vc];have w5:asB (jg 1 jj (jb (rdS 5) nil1)) (dueE a b M S (.shr (.tup (.str z::ps))) (.shr (.tup (.str w::ts))))= .ok false:=w5;have t1:asB (two (two (rdS 4) (cI 0) ixD) (two (rdS 5) (cI 0) ixD) neR) (dueE a b M S (.shr (.tup (.str z::ps))) (.shr (.tup (.str w::ts))))= .ok (!(z==w)):=qf (jr (jr rfl rfl ix0) (jr rfl rfl ix0) jfg);have t2:asB (two (app (jb (rdS 4) nil1) lenD) (app (jb (rdS 5) nil1) lenD) neR) (dueE a b M S (.shr (.tup (.str z::ps))) (.shr (.tup (.str w::ts))))= .ok (!((((D.str z::ps).length:Nat):Int)==(((D.str w::ts).length:Nat):Int))):=qf (jr (zX (ji rfl rfl) rfl) (zX (ji rfl rfl) rfl) vF);have tt:=YW w5 (YW t1 t2)
      by_cases hzw:z=w/\ps.length=ts.length
      · obtain ⟨rfl,hlen⟩:=hzw;rw [if_pos rfl]
        have e1:(false|| (!(z==z)||!((((D.str z::ps).length:Nat):Int)==(((D.str z::ts).length:Nat):Int))))=false:=by
          simp [hlen]
        rw [e1] at tt;rw [qD] at h hl;rw [qu] at hph hth
        have hS2:SOk ns ((ps.zip ts).reverse++S):=fun q hq=>by
          rcases aaL.mp hq with z'|z'
          · have hm:=acl (adh.mp z');exact ⟨hps _ hm.1,by have:=qe hm.1;omega,hts _ hm.2,by have:=qe hm.2;omega⟩
          · exact hS' q z'
        have hco:cost ((ps.zip ts).reverse++S)=nums ps+cost S:=by rw [jbF,VP ps ts hlen]
        have hcomp:qz false 1 [4,5] (YE (jb (cI 1) (jb (app (jb (rdS 4) nil1) lenD) nil1))) (gN 0) j4 (tupF (jb (two (rdS 1) (rdS 0) ixD) (jb (two (rdS 2) (rdS 0) ixD) nil1))) (dueE a b M S (.shr (.tup (.str z::ps))) (.shr (.tup (.str z::ts))))= .ok (.lst ((ps.zip ts).map prD)):=by
          have hr:YE (jb (cI 1) (jb (app (jb (rdS 4) nil1) lenD) nil1)) (dueE a b M S (.shr (.tup (.str z::ps))) (.shr (.tup (.str z::ts))))= .ok (wb 1 ps.length):=by
            have hfa:jb (cI 1) (jb (app (jb (rdS 4) nil1) lenD) nil1) (dueE a b M S (.shr (.tup (.str z::ps))) (.shr (.tup (.str z::ts))))= .ok [.int 1,.int ((ps.length+1:Nat):Int)]:=ji rfl (ji (zX (ji rfl rfl) rfl) rfl);rw [jcF hfa (by omega)];rw [show (((ps.length+1:Nat):Int)-1).toNat=ps.length by omega]
          rw [jdP (cs:=[.shr (.tup (.str z::ps)),.shr (.tup (.str z::ts))]) (ja2 ps ts) (fun d=> ∃k:Nat,d= .int ((k:Int)+1)/\k<ps.length) rfl hr (fun d hd=>by
            obtain ⟨k,rfl,k0,k1⟩:=xX hd;have e:k=(((k-1).toNat:Nat):Int)+1:=by omega
            exact ⟨(k-1).toNat,by rw [←e],by omega⟩) (by rw [qS];exact jo (by omega)) ?_,ja1 hlen]
          rintro d acc ⟨k,rfl,hk⟩;have h1:ps[k]?=some ps[k]:=by simp [hk]
          have hk2:k<ts.length:=by omega
          have h2:ts[k]?=some ts[k]:=by simp [hk2]
          refine (wr (ji (jr rfl rfl (ixTs h1)) (ji (jr rfl rfl (ixTs h2)) rfl)) (jo (by simp))).trans ?_;have e:((k:Int)+1-1).toNat=k:=by omega
          simp only [ja2,e,h1,h2,Option.getD_some]
        have hlz:S.length+(ps.zip ts).length<=5000:=by
          have:=Vf S;have:=jaX ps;rw [List.length_zip];omega
        have hgo:fitW (dueE a b M ((.tup (.str z::ps),.tup (.str z::ts))::S) u v)= .ok (.nx (dueE a b M ((ps.zip ts).reverse++S) (.shr (.tup (.str z::ps))) (.shr (.tup (.str z::ts))))):=by
          rw [hb,if_f tt];show (Res.ok (S.reverse.map prD)>>=fun ds=>qz false 1 [4,5] _ _ _ _ (dueE a b M S (.shr (.tup (.str z::ps))) (.shr (.tup (.str z::ts))))>>=_)=_;rw [hcomp];refine (jk (c:=(S.reverse.map prD).length+((ps.zip ts).map prD).length<=aae) (by simp only [aan,List.length_reverse];exact jo (by omega))).trans ?_;have e:S.reverse.map prD++(ps.zip ts).map prD=((ps.zip ts).reverse++S).reverse.map prD:=by simp
          rw [e];rfl
        rw [Ji ht hgo];have ih:=QJ a b n ((ps.zip ts).reverse++S) M (.shr (.tup (.str z::ps))) (.shr (.tup (.str z::ts))) (by omega) hS2 hM (by omega)
        have hm:(mpS ((ps.zip ts).reverse++S)).bind (addC M)=((mps ps ts).bind fun a=>addC M a.reverse).bind fun M1=>(mpS S).bind (addC M1):=by
          rw [Y6,vI ps ts hlen]
          cases mps ps ts with
          |none=>rfl
          |some x=>
            simp only [abt]
            cases hq:mpS S with
            |none=>
             show none=(addC M x.reverse).bind _;cases addC M x.reverse<;>rfl
            |some y=>exact JI x.reverse y M
        rw [hm] at ih;exact ih
      · have hno:(if z=w then mps ps ts else none)=none:=by
          by_cases e:z=w
          · rw [if_pos e];exact Y5 ps ts fun e2=>hzw ⟨e,e2⟩
          · rw [if_neg e]
        rw [hno];refine stop (tt.trans ?_);congr 1
        by_cases e:z=w
        · have:ps.length≠ts.length:=fun e2=>hzw ⟨e,e2⟩
          simp [e];omega
        · simp [e]
theorem due2 {p t:D} (hp:tk ns p=true) (ht:tk ns t=true) (hh:hgt p<=60) (hht:hgt t<=60) (hn:num p<=1000):zQ [p,t]= .ok (fitO ((mp p t).bind fun a=>addC [] a.reverse)):=by
 have hS:SOk ns [(p,t)]:=fun q hq=>by
  simp only [aah,aaq,or_false] at hq;subst hq;exact ⟨hp,hh,ht,hht⟩
 have hc:cost [(p,t)]=num p:=by simp [cost]
 have hl:=QJ (ns:=ns) (.shr p) (.shr t) 4000 [(p,t)] [] .un .un (by omega) hS (fun _ h=>by cases h) (by simp only [aas];omega)
 have hm:(mpS [(p,t)]).bind (addC [])=(mp p t).bind fun a=>addC [] a.reverse:=by
  simp only [mpS]
  cases mp p t with
  |none=>rfl
  |some a=>simp
 rw [hm] at hl;refine zU ?_;show yA jj [.shr p,.shr t,.un,.un,.un,.un]=_;unfold yA;rw [jU (env':=[.shr p,.shr t,.own (.dic [] []),.un,.un,.un]) rfl]
 have s2:setO 3 (lstF (jb (tupF (jb (rdS 0) (jb (rdS 1) nil1))) nil1)) [.shr p,.shr t,.own (.dic [] []),.un,.un,.un]= .ok (.nx (dueE (.shr p) (.shr t) [] [(p,t)] .un .un)):=
  (Wx (Zh (ji (wr (ji rfl (ji rfl rfl)) (jo (by simp))) rfl) (jo (by simp)))).trans rfl
 rw [jU s2]
 cases e:(mp p t).bind fun a=>addC [] a.reverse with
 |none=>rw [e] at hl;exact Z1 hl
 |some M=>
  rw [e] at hl;obtain ⟨u',v',h1⟩:=hl;exact (jU h1).trans rfl
end
section
variable {ns:List Str}
def Cons (L:As):Prop:= ∀q∈L,∀q'∈L,q.1=q'.1->q.2=q'.2
def Tks (ns:List Str) (L:As):Prop:= ∀q∈L,tk ns q.2=true
theorem yi: ∀(ps M M':As),Tks ns M->Tks ns ps->(M.map (·.1)).Nodup->addC M ps=some M'->(∀q,q∈M'↔q∈M\/q∈ps)/\(M'.map (·.1)).Nodup
 | [],M,M',_,_,nd,h=>by cases h;exact ⟨fun q=>by simp,nd⟩
 | (i,d)::r,M,M',tm,tp,nd,h=>by
  simp only [addC] at h;have tr:Tks ns r:=fun q hq=>tp q (by simp [hq])
  have hd:tk ns d=true:=tp (i,d) (by simp)
  cases e:M.lookup i with
  |none=>
   rw [e] at h
   have tm2:Tks ns (M++[(i,d)]):=fun q hq=>by
     rcases aaL.mp hq with z|z
     · exact tm q z
     · simp only [aah,aaq,or_false] at z;rw [z];exact hd
   have nd2:((M++[(i,d)]).map (·.1)).Nodup:=by
     rw [abO,adZ];refine ⟨nd,by simp,fun a ha b hb=>?_⟩;simp only [aaw,adH,aah,aaq,or_false] at hb;subst hb;intro e2;subst e2;exact Kc e ha
   obtain ⟨h1,h2⟩:=yi r _ M' tm2 tr nd2 h;refine ⟨fun q=>(h1 q).trans ?_,h2⟩;simp only [aaL,aah,aaq,or_false];exact or_assoc
  |some d0=>
   rw [e] at h;dsimp only at h
   split at h
   · rename_i hq;have hm:=zH e;have hd0:d0=d:=(jfM (tm _ hm) hd).mp hq;subst hd0;obtain ⟨h1,h2⟩:=yi r M M' tm tr nd h;refine ⟨fun q=>(h1 q).trans ?_,h2⟩;simp only [aah]
     constructor
     · rintro (z|z)
       · exact .inl z
       · exact .inr (.inr z)
     · rintro (z|z|z)
       · exact .inl z
       · rw [z];exact .inl hm
       · exact .inr z
   · cases h
theorem QM: ∀(ps M:As),Tks ns M->Tks ns ps->Cons (M++ps)-> ∃M',addC M ps=some M'
 | [],M,_,_,_=>⟨M,rfl⟩
 | (i,d)::r,M,tm,tp,hc=>by
  have tr:Tks ns r:=fun q hq=>tp q (by simp [hq])
  have hd:tk ns d=true:=tp (i,d) (by simp);simp only [addC]
  cases e:M.lookup i with
  |none=>
   dsimp only;refine QM r _ (fun q hq=>?_) tr (by simpa using hc);rcases aaL.mp hq with z|z
   · exact tm q z
   · simp only [aah,aaq,or_false] at z;rw [z];exact hd
  |some d0=>
   dsimp only;have hm:=zH e;have hd0:d0=d:=hc (i,d0) (by simp [hm]) (i,d) (by simp) rfl;subst hd0;rw [if_pos (uw _ hd)];refine QM r M tm tr fun q hq q' hq'=>hc q ?_ q' ?_
   · rcases aaL.mp hq with z|z
     · simp [z]
     · simp [z]
   · rcases aaL.mp hq' with z|z
     · simp [z]
     · simp [z]
theorem Yn {ps M:As} (tp:Tks ns ps) (h:addC [] ps=some M):Cons ps:=fun q hq q' hq' e=>by
 obtain ⟨h1,h2⟩:=yi ps [] M (fun _ h=>by cases h) tp acd h;have m1:=Jp h2 ((h1 q).mpr (.inr hq));have m2:=Jp h2 ((h1 q').mpr (.inr hq'));rw [e,m2] at m1;exact (aaF m1).symm
theorem YF {ps:As} (tp:Tks ns ps):Tks ns ps.reverse:=fun q hq=>tp q (adh.mp hq)
theorem jbQ {ps:As} (tp:Tks ns ps):(addC [] ps=none/\addC [] ps.reverse=none)\/ ∃M1 M2,addC [] ps=some M1/\addC [] ps.reverse=some M2/\(M1.map (·.1)).Nodup/\(M2.map (·.1)).Nodup/\(∀q,q∈M1↔q∈M2)/\Tks ns M1:=by
 have nl:Tks ns ([]:As):=fun _ h=>by cases h
 cases e1:addC [] ps with
 |none=>
  left
  refine ⟨rfl,?_⟩
  cases e2:addC [] ps.reverse with
  |none=>rfl
  |some M2=>
   have hc:=Yn (YF tp) e2;obtain ⟨M',h⟩:=QM ps [] nl tp fun q hq q' hq'=>hc q (by simpa using hq) q' (by simpa using hq')
   rw [h] at e1;cases e1
 |some M1=>
  right
  have hc:=Yn tp e1;obtain ⟨M2,h⟩:=QM ps.reverse [] nl (YF tp) fun q hq q' hq'=>hc q (by simpa using hq) q' (by simpa using hq')
  obtain ⟨a1,a2⟩:=yi ps [] M1 nl tp acd e1;obtain ⟨b1,b2⟩:=yi ps.reverse [] M2 nl (YF tp) acd h;refine ⟨M1,M2,rfl,h,a2,b2,fun q=>(a1 q).trans ?_,fun q hq=>tp q (((a1 q).mp hq).resolve_left (by simp))⟩;rw [b1];simp
end
section
variable {ns:List Str}
def jai (d:D):D->Option D
 | .int i=>if 0<=i then (kids d)[i.toNat]? else none
 |_=>none
def goD:D->List D->Option D
 |d,[]=>some d
 |d,x::r=>match jai d x with
  |some e=>goD e r
  |none=>none
def putAt (o:D):List Int->D->D
 | [],_=>o
 |i::p,.tup (h::ts)=> .tup (h::ts.set i.toNat (putAt o p (ts.getD i.toNat (.int 0))))
 |_::_,d=>d
theorem xQ (o:D) (i:Int) (p:List Int) (h:D) (ts:List D):putAt o (i::p) (.tup (h::ts))= .tup (h::ts.set i.toNat (putAt o p (ts.getD i.toNat (.int 0)))):=by simp [putAt]
theorem Qx {t e:D} {i:Int} {p:List Int} (ht:tk ns t=true) (h:goD t ((i::p).map .int)=some e):
  ∃z ts u,t= .tup (.str z::ts)/\z∈ns/\ts.length<=9/\(∀u∈ts,tk ns u=true)/\0<=i/\ts[i.toNat]?=some u/\goD u (p.map .int)=some e:=by
 simp only [aaw,goD] at h
 cases hs:jai t (.int i) with
 |none=>rw [hs] at h;cases h
 |some u=>
  rw [hs] at h;simp only [jai] at hs
  split at hs
  · rename_i h0;rcases jY ht with ⟨j,rfl⟩| ⟨z,ts,rfl,hz,hl,hts⟩
    · cases hs
    · exact ⟨z,ts,u,rfl,hz,hl,hts,h0,hs,h⟩
  · cases hs
theorem Wu {o:D} (ho:tk ns o=true): ∀(p:List Int) (t:D),tk ns t=true->tk ns (putAt o p t)=true
 | [],t,_=>by simpa [putAt] using ho
 |i::p,t,ht=>by
  rcases jY ht with ⟨j,rfl⟩| ⟨z,ts,rfl,hz,hl,hts⟩
  · simpa [putAt] using ht
  · rw [xQ];refine Yt hz (by simpa using hl) fun u hu=>?_
    rcases List.mem_or_eq_of_mem_set hu with h|rfl
    · exact hts u h
    · refine Wu ho p _ ?_;rw [aa5]
      cases h:ts[i.toNat]? with
      |none=>rfl
      |some v=>exact hts v (aaZ h)
theorem Vp {w:D}: ∀(ts:List D) (k:Nat),hgts (ts.set k w)<=max (hgts ts) (hgt w)
 | [],k=>by simp [hgts]
 |d::r,0=>by simp only [adM,hgts];omega
 |d::r,k+1=>by have:=Vp (w:=w) r k;simp only [acj,hgts];omega
theorem K7 {w:D}: ∀(ts:List D) (k:Nat),nums (ts.set k w)+num (ts.getD k (.int 0))<=nums ts+num w+1
 | [],k=>by simp [nums,num]
 |d::r,0=>by simp only [adM,nums,List.getD_cons_zero];omega
 |d::r,k+1=>by have:=K7 (w:=w) r k;simp only [acj,nums,List.getD_cons_succ];omega
theorem JO {o:D}: ∀(p:List Int) (t e:D),tk ns t=true->goD t (p.map .int)=some e->hgt (putAt o p t)<=max (hgt t) (p.length+hgt o)/\num (putAt o p t)<=num t+num o+p.length
 | [],t,e,_,_=>by simp only [putAt,aas];omega
 |i::p,t,e,ht,h=>by
  obtain ⟨z,ts,u,rfl,hz,hl,hts,h0,hu,hg⟩:=Qx ht h;have hm:=aaZ hu;obtain ⟨a1,a2⟩:=JO (o:=o) p u e (hts u hm) hg;have e1:ts.getD i.toNat (.int 0)=u:=by rw [aa5,hu];rfl
  have b1:=Vp (w:=putAt o p u) ts i.toNat;have b2:=K7 (w:=putAt o p u) ts i.toNat;have b3:=qe hm;rw [xQ,e1,qu,qD,qu,qD,aad];rw [e1] at b2;omega
theorem K2: ∀t,tk ns t=true-> ∀q∈prs t,goD t (q.1.map .int)=some q.2:=qB (fun i q hq=>by
   rw [yU] at hq;simp only [aah,aaq,or_false] at hq
   subst hq;rfl) fun z ts hz hl h q hq=>by
 rw [yS] at hq;rcases aah.mp hq with rfl|hq
 · rfl
 · obtain ⟨j,u,p,h1,h2,rfl⟩:=Qz hq;have:=(h u (Zg h1)).2 p h2;simp only [aaw,goD,jai];rw [if_pos (by omega)];have e:(((0+j:Nat):Int)).toNat=j:=by omega
   rw [e,show (kids (D.tup (D.str z::ts)))[j]?=some u from h1];exact this
theorem VJ: ∀p:List Int,D.deps (p.map .int)=0/\D.eqbs (p.map .int)=true
 | []=>⟨rfl,rfl⟩
 |i::p=>by simp [D.deps,D.dep,D.eqbs,D.eqb,VJ p]
theorem Vz (p:List Int):eqR (jC p) (.tup [])= .ok (.bl p.isEmpty):=by
 obtain ⟨h1,h2⟩:=VJ p;have hc:EqC (jC p) (.tup []):= .inl ⟨by simpa [jC,D.eqb] using h2,rfl,by simp [jC,D.dep,h1]⟩;refine (jk hc).trans ?_;cases p<;>rfl
theorem jcq (l:List D) (k:Nat):cutD l none (some (k:Int))=l.take k:=by
 unfold cutD;rw [HT.sIx_none,HT.sIx_nat];simp
theorem VN (l:List D) (k:Nat):cutD l (some (k:Int)) none=l.drop k:=by
 unfold cutD;rw [HT.sIx_none,HT.sIx_nat]
 by_cases h:k<=l.length
 · rw [Nat.min_eq_left h];exact List.take_of_length_le (by simp)
 · rw [Nat.min_eq_right (by omega),List.drop_of_length_le (aai _),List.drop_of_length_le (by omega)];simp
theorem Z4 {o:D}: ∀(n:Nat) (p:List Int) (t e:D),p.length<n->tk ns t=true->goD t (p.map .int)=some e->qH n [t,jC p,o]= .ok (putAt o p t)
 |0,p,t,e,h,_,_=>by omega
 |n+1,[],t,e,h,ht,hg=>by
  refine WC ?_;show zI (qH n) [.shr t,.shr (jC []),.shr o,.un]=_;unfold zI;refine Z1 ((if_t (qf ((jr rfl (wr rfl (jo (by simp))) (Vz [])).trans rfl))).trans (JZ ?_));simp only [putAt];rfl
 |n+1,i::p,t,e,h,ht,hg=>by
  obtain ⟨z,ts,u,rfl,hz,hl,hts,h0,hu,hg2⟩:=Qx ht hg;have ih:=Z4 (o:=o) n p u e (by simp at h;omega) (hts u (aaZ hu)) hg2;obtain ⟨k,rfl⟩: ∃k:Nat,i=(k:Int):=⟨i.toNat,by omega⟩
  simp only [abo] at hu;have e1:ts.getD k (.int 0)=u:=by rw [aa5,hu];rfl
  have hk:k<ts.length:=by
   by_cases z:k<ts.length
   · exact z
   · rw [aaO (by omega)] at hu;cases hu
  rw [xQ,abo,e1];generalize putAt o p u=w at ih;refine zU ?_;show zI (qH n) [.shr (.tup (.str z::ts)),.shr (jC ((k:Int)::p)),.shr o,.un]=_;unfold zI;refine (jU ((if_f (qf ((jr rfl (wr rfl (jo (by simp))) (Vz ((k:Int)::p))).trans rfl))).trans rfl)).trans ?_;refine (jU (env':=[.shr (.tup (.str z::ts)),.shr (jC ((k:Int)::p)),.shr o,.shr (.int ((k+1:Nat):Int))]) ((yt (jr (jr rfl rfl ix0) rfl rfl)).trans rfl)).trans ?_
  have c1:j7 (rdS 0) zA (qQ (rdS 3)) slD [.shr (.tup (.str z::ts)),.shr (jC ((k:Int)::p)),.shr o,.shr (.int ((k+1:Nat):Int))]= .ok (.tup (.str z::ts.take k)):=by
   refine (qU rfl rfl (qT rfl) rfl).trans ?_;rw [jcq];rfl
  have c2:j7 (rdS 0) (qQ (two (rdS 3) (cI 1) addD)) zA slD [.shr (.tup (.str z::ts)),.shr (jC ((k:Int)::p)),.shr o,.shr (.int ((k+1:Nat):Int))]= .ok (.tup (ts.drop (k+1))):=by
   refine (qU rfl (qT (j:=((k+2:Nat):Int)) (jr rfl rfl rfl)) rfl rfl).trans ?_;rw [VN];rfl
  have c3:jg 3 (qH n) (jb (two (rdS 0) (rdS 3) ixD) (jb (j7 (rdS 1) (qQ (cI 1)) zA slD) (jb (rdS 2) nil1))) [.shr (.tup (.str z::ts)),.shr (jC ((k:Int)::p)),.shr o,.shr (.int ((k+1:Nat):Int))]= .ok w:=by
   refine jH (ds:=[u,jC p,o]) (ji (jr rfl rfl (ixT (by simpa using hu))) (ji ((qU rfl (qT rfl) rfl rfl).trans ?_) (ji rfl rfl))) rfl ih;rw [show (jC ((k:Int)::p))= .tup (.int (k:Int)::p.map .int) from rfl] at*;show Res.ok (D.tup (cutD (.int (k:Int)::p.map .int) (some 1) none))=_;rw [cut1];rfl
  refine qC ((jr (jr c1 (wr (ji c3 rfl) (jo (by simp))) (Jb rfl (jo (by simp;omega)))) c2 (Jb (by simp) (jo (by simp;omega)))).trans ?_);have:ts.set k w=ts.take k++w::ts.drop (k+1):=by rw [ac1,if_pos hk]
  rw [this];simp
theorem jc9 {o:D}: ∀(n:Nat) (p:List Int) (t e:D),p.length<n->tk ns t=true->goD t (p.map .int)=some e->j3 n [t,jC p,o]= .ok (putAt o p t)
 |0,p,t,e,h,_,_=>by omega
 |n+1,[],t,e,h,ht,hg=>by
  refine WC ?_;show wn (j3 n) [.shr t,.shr (jC []),.shr o,.un]=_;unfold wn;refine Z1 ((if_t (qf ((jr rfl (wr rfl (jo (by simp))) (Vz [])).trans rfl))).trans (JZ ?_));simp only [putAt];rfl
 |n+1,i::p,t,e,h,ht,hg=>by
  obtain ⟨z,ts,u,rfl,hz,hl,hts,h0,hu,hg2⟩:=Qx ht hg;have ih:=jc9 (o:=o) n p u e (by simp at h;omega) (hts u (aaZ hu)) hg2;obtain ⟨k,rfl⟩: ∃k:Nat,i=(k:Int):=⟨i.toNat,by omega⟩
  simp only [abo] at hu;have e1:ts.getD k (.int 0)=u:=by rw [aa5,hu];rfl
  have hk:k<ts.length:=by
   by_cases z:k<ts.length
   · exact z
   · rw [aaO (by omega)] at hu;cases hu
  rw [xQ,abo,e1];generalize putAt o p u=w at ih;refine zU ?_;show wn (j3 n) [.shr (.tup (.str z::ts)),.shr (jC ((k:Int)::p)),.shr o,.un]=_;unfold wn;refine (jU ((if_f (qf ((jr rfl (wr rfl (jo (by simp))) (Vz ((k:Int)::p))).trans rfl))).trans rfl)).trans ?_;refine (jU (env':=[.shr (.tup (.str z::ts)),.shr (jC ((k:Int)::p)),.shr o,.shr (.int ((k+1:Nat):Int))]) ((yt (jr rfl (jr rfl rfl ix0) rfl)).trans (by show Res.ok (Out.nx [_,_,_,Slot.shr (.int (1+(k:Int)))])=_;rw [show (1:Int)+(k:Int)=((k+1:Nat):Int) by omega]))).trans ?_
  have c1:j7 (rdS 0) zA (qQ (rdS 3)) slD [.shr (.tup (.str z::ts)),.shr (jC ((k:Int)::p)),.shr o,.shr (.int ((k+1:Nat):Int))]= .ok (.tup (.str z::ts.take k)):=by
   refine (qU rfl rfl (qT rfl) rfl).trans ?_;rw [jcq];rfl
  have c2:j7 (rdS 0) (qQ (two (rdS 3) (cI 1) addD)) zA slD [.shr (.tup (.str z::ts)),.shr (jC ((k:Int)::p)),.shr o,.shr (.int ((k+1:Nat):Int))]= .ok (.tup (ts.drop (k+1))):=by
   refine (qU rfl (qT (j:=((k+2:Nat):Int)) (jr rfl rfl rfl)) rfl rfl).trans ?_;rw [VN];rfl
  have c3:jg 3 (j3 n) (jb (two (rdS 0) (rdS 3) ixD) (jb (j7 (rdS 1) (qQ (cI 1)) zA slD) (jb (rdS 2) nil1))) [.shr (.tup (.str z::ts)),.shr (jC ((k:Int)::p)),.shr o,.shr (.int ((k+1:Nat):Int))]= .ok w:=by
   refine jH (ds:=[u,jC p,o]) (ji (jr rfl rfl (ixT (by simpa using hu))) (ji ((qU rfl (qT rfl) rfl rfl).trans ?_) (ji rfl rfl))) rfl ih;rw [show (jC ((k:Int)::p))= .tup (.int (k:Int)::p.map .int) from rfl] at*;show Res.ok (D.tup (cutD (.int (k:Int)::p.map .int) (some 1) none))=_;rw [cut1];rfl
  refine qC ((jr (jr c1 (wr (ji c3 rfl) (jo (by simp))) (Jb rfl (jo (by simp;omega)))) c2 (Jb (by simp) (jo (by simp;omega)))).trans ?_);have:ts.set k w=ts.take k++w::ts.drop (k+1):=by rw [ac1,if_pos hk]
  rw [this];simp
theorem jfI {ks:List Key} {ds:List D}: ∀(n:Nat) (t:D),tk ns t=true->hgt t<=n->qx n [t,.dic ks ds]= .ok (sub (look ks ds) t)
 |0,t,_,h=>by have:=xY t;omega
 |n+1,t,ht,hh=>by
  have e0:qm 2 [t,.dic ks ds]=[.shr t,.shr (.dic ks ds)]:=rfl;have hi:=Vi ht;have htest:notB (asB (isiF "tuple" (rdS 0))) [.shr t,.shr (.dic ks ds)]= .ok (!isT t):=wx (qf (by rw [xy];exact hi));rcases jY ht with ⟨i,rfl⟩| ⟨z,r,rfl,hz,hl,hr⟩
  · refine WC ?_;show zJ (qx n) jE _=_;unfold zJ;rw [e0,sub_int];exact Z1 ((if_t htest).trans (JZ rfl))
  · rw [qu] at hh;have hpl:=J0 (d:= .tup (.str z::r)) rfl;simp only [kids] at hpl
    have hcomp:qz false 1 [1] (itF (jg 1 jE (jb (rdS 0) nil1))) (gN 0) j4 (jg 2 (qx n) (jb (rdS 0) (jb (rdS 1) nil1))) [.shr (.tup (.str z::r)),.shr (.dic ks ds)]= .ok (.lst (r.map (sub (look ks ds)))):=by
     refine jdQ (c:= .shr (.dic ks ds)) rfl (sub (look ks ds)) (fun d=>d∈r) (Qq (jH (ji rfl rfl) rfl hpl) rfl) (fun d hd=>hd) (jo (by omega)) ?_;intro d acc hd;refine jH (ji rfl (ji rfl rfl)) rfl (jfI n d (hr d hd) ?_);have:=qe hd;omega
    refine zU ?_;show zJ (qx n) jE _=_;unfold zJ;rw [e0,jU ((if_f htest).trans rfl),QR];have hsl:j7 (rdS 0) zA (qQ (cI 1)) slD [.shr (.tup (.str z::r)),.shr (.dic ks ds)]= .ok (.tup [.str z]):=qU (x:= .tup (.str z::r)) (lo:=none) (hi:=some 1) rfl rfl (qT rfl) (show Res.ok (D.tup (cutD (.str z::r) none (some 1)))=_ by rw [cut0]);refine (qC (jr hsl (zX (ji hcomp rfl) rfl) (Jb (a:=[.str z]) (b:=r.map (sub (look ks ds))) rfl ?_))).trans rfl;rw [aan];simp only [aad,aas];exact jo (by omega)
end
section
variable {ns:List Str}
theorem XJ {w u:D}: ∀(ts:List D) (k:Nat),ts[k]?=some u->nums (ts.set k w)+num u=nums ts+num w
 | [],k,h=>by simp at h
 |d::r,0,h=>by simp at h;subst h;simp only [adM,nums];omega
 |d::r,k+1,h=>by have:=XJ (w:=w) r k (by simpa using h);simp only [acj,nums];omega
theorem Zd {o:D}: ∀(p:List Int) (t e:D),tk ns t=true->goD t (p.map .int)=some e->num (putAt o p t)+num e=num t+num o
 | [],t,e,_,h=>by
  simp only [adH,goD,Option.some.injEq] at h;subst h;simp only [putAt];omega
 |i::p,t,e,ht,h=>by
  obtain ⟨z,ts,u,rfl,hz,hl,hts,h0,hu,hg⟩:=Qx ht h;have a1:=Zd (o:=o) p u e (hts u (aaZ hu)) hg;have e1:ts.getD i.toNat (.int 0)=u:=by rw [aa5,hu];rfl
  have b2:=XJ (w:=putAt o p u) ts i.toNat hu;rw [xQ,e1,qD,qD];omega
theorem vB {φ:Int->D} {B:Nat} (hB:1<=B) (h: ∀i,num (φ i)<=B): ∀t,tk ns t=true->num (sub φ t)<=num t*B:=qB (fun i=>by rw [sub_int];have:=h i;simp [num];omega) fun z ts _ _ ht=>by
 rw [QR,qD,qD]
 have: ∀us:List D,(∀u∈us,num (sub φ u)<=num u*B)->nums (us.map (sub φ))<=nums us*B:=fun us=>by
  induction us with
  |nil=>intro _;simp [nums]
  |cons u r ih=>
   intro hu;have h1:=hu u (by simp);have h2:=ih fun x hx=>hu x (by simp [hx])
   simp only [aaw,nums,Nat.add_mul];omega
 have:=this ts fun u hu=>(ht u hu).2
 rw [Nat.add_mul];omega
def fil (l u:D):Option As:=(mp l u).bind (addC [])
def lk (M:As):Int->D:=look (ky M) (vl M)
theorem jgM {M1 M2:As} (n1:(M1.map (·.1)).Nodup) (n2:(M2.map (·.1)).Nodup) (h: ∀q,q∈M1↔q∈M2):lk M1=lk M2:=by
 funext i;unfold lk look;rw [yK,yK]
 cases h1:M1.lookup i with
 |some d=>rw [Jp n2 ((h _).mp (zH h1))]
 |none=>
  cases h2:M2.lookup i with
  |none=>rfl
  |some d=>
   have:=Jp n1 ((h _).mpr (zH h2));rw [this] at h1;cases h1
theorem Ki {l u:D} (hu:tk ns u=true):(fil l u=none/\((mp l u).bind fun a=>addC [] a.reverse)=none)\/ ∃M1 M2,fil l u=some M1/\((mp l u).bind fun a=>addC [] a.reverse)=some M2/\lk M1=lk M2/\ ∀q∈M1,Pt ns u q:=by
 unfold fil
 cases h:mp l u with
 |none=>exact .inl ⟨rfl,rfl⟩
 |some a=>
  have tp:Tks ns a:=fun q hq=>(jaP l u a hu h q hq).1
  rcases jbQ tp with ⟨h1,h2⟩| ⟨M1,M2,h1,h2,n1,n2,hm,_⟩
  · exact .inl ⟨h1,h2⟩
  · refine .inr ⟨M1,M2,h1,h2,jgM n1 n2 hm,fun q hq=>?_⟩;rcases QL a [] M1 h1 q hq with z|z
    · cases z
    · exact jaP l u a hu h q z
theorem jdb {M:As} {u:D} (h: ∀q∈M,Pt ns u q) (i:Int):tk ns (lk M i)=true/\hgt (lk M i)<=hgt u/\num (lk M i)<=num u:=by
 unfold lk look;rw [yK]
 cases h1:M.lookup i with
 |none=>exact ⟨rfl,by simp only [ade,hgt];exact xY u,by simp only [ade,num];exact Ze u⟩
 |some d=>exact h _ (zH h1)
def res (t:D) (q:List Int×D) (r:D) (M:As):D:=putAt (sub (lk M) r) q.1 t
def stI (t:D) (q:List Int×D) (k:Nat) (p:D×D):List D:=match fil p.1 q.2 with
 |some M=>[.tup [jC q.1,.int (k:Int),res t q p.2 M]]
 |none=>[]
def stR (t:D) (q:List Int×D):Nat->List (D×D)->List D
 |_,[]=>[]
 |k,p::ps=>stI t q k p++stR t q (k+1) ps
def stL (t:D) (ps:List (D×D)):List D:=(prs t).flatMap fun q=>stR t q 0 ps
theorem Yw (t:D) (q:List Int×D) (k:Nat) (p:D×D):(stI t q k p).length<=1:=by
 unfold stI;split<;>simp
theorem Yv (t:D) (q:List Int×D): ∀(k:Nat) (ps:List (D×D)),(stR t q k ps).length<=ps.length
 |_,[]=>by simp [stR]
 |k,p::ps=>by
  have:=Yw t q k p;have:=Yv t q (k+1) ps;simp only [stR,aao,aad];omega
theorem YN: ∀t,tk ns t=true-> ∀q∈prs t,num q.2<=num t/\hgt q.2<=hgt t:=qB (fun i q hq=>by
   rw [yU] at hq;simp only [aah,aaq,or_false] at hq;subst hq;exact ⟨aai _,aai _⟩) fun z ts _ _ h q hq=>by
 rw [yS] at hq;rcases aah.mp hq with rfl|hq
 · exact ⟨aai _,aai _⟩
 · obtain ⟨j,u,p,h1,h2,rfl⟩:=Qz hq;have a:=(h u (Zg h1)).2 p h2;have:=QC (Zg h1);have:=qe (Zg h1);rw [qD,qu];simp only at a ⊢;omega
theorem KR {t r:D} {q:List Int×D} {M:As} (ht:tk ns t=true) (hq:q∈prs t) (hr:tk ns r=true) (hM: ∀x∈M,Pt ns q.2 x):
  tk ns (res t q r M)=true/\hgt (res t q r M)<=2*hgt t+hgt r/\num (res t q r M)<=num t+num r*num t:=by
 have hs:=fun i=>jdb hM i
 have hqs:=YN t ht q hq;have hpp:=xq t ht q hq;have hgo:=K2 t ht q hq;have h1:=jbW (φ:=lk M) (fun i=>(hs i).1) r hr;have h2:=ud (φ:=lk M) (B:=hgt t) (fun i=>aaC (hs i).2.1 hqs.2) r hr;have h3:=vB (φ:=lk M) (B:=num t) (Ze t) (fun i=>aaC (hs i).2.2 hqs.1) r hr;have h4:=(JO (o:=sub (lk M) r) q.1 t q.2 ht hgo).1;have h5:=Zd (o:=sub (lk M) r) q.1 t q.2 ht hgo;exact ⟨Wu h1 q.1 t ht,by unfold res;omega,by unfold res;omega⟩
theorem jah {t l r:D} {q:List Int×D} {M:As} (ht:tk ns t=true) (hq:q∈prs t) (hr:Ru ns l r) (hM: ∀x∈M,Pt ns q.2 x) (hh:hgt t<=28) (hn:num t<=100):
  xk [t,jC q.1,.tup [l,r],.dic (ky M) (vl M)]= .ok (res t q r M):=by
 obtain ⟨h1,h2,h3⟩:=KR ht hq hr.tr hM;have a:=hr.hr;have b:=hr.nr;have hb:num r*num t<=4*100:=Nat.mul_le_mul b hn;have hpp:=xq t ht q hq;have e1:=jfI (ns:=ns) (ks:=ky M) (ds:=vl M) 64 r hr.tr (by omega);have e2:=Z4 (o:=sub (lk M) r) 64 q.1 t q.2 (by omega) ht (K2 t ht q hq);have e3:=jbL (J8 _ h1) (by unfold isGr;simp;omega);have i1:ixD (.tup [l,r]) (.int 1)= .ok r:=ixT1 _ _ _;have e1':qx 64 [r,.dic (ky M) (vl M)]= .ok (sub (lk M) r):=e1;have e3':yp [putAt (sub (lk M) r) q.1 t]= .ok (res t q r M):=e3;refine WC ?_;show Jt yp (qH 64) (qx 64) [.shr t,.shr (jC q.1),.shr (.tup [l,r]),.shr (.dic (ky M) (vl M))]=_;unfold Jt
 decreasing_with exact rfl
def stB : Sl -> Res Out := (seqO (jW 7 (jg 2 zY (jb (two (rdS 6) (cI 0) ixD) (jb (rdS 4) nil1))))
      (ifO (asB (two (rdS 7) cN notN)) (Ja 2 (tupF (jb (rdS 3) (jb (rdS 5) (jb (jg 4 xk (jb (rdS 1) (jb (rdS 3) (jb (rdS 6) (jb (rdS 7) nil1))))) nil1))))) nxO))
theorem KL {t:D} {O:Slot} {q:List Int×D} (ht:tk ns t=true) (hq:q∈prs t) (hh:hgt t<=28) (hn:num t<=100): ∀(ps:List (D×D)) (k:Nat) (acc:List D) (s5 s6 s7:Slot),Rus ns ps->acc.length+ps.length<=10000->
  ∃s5' s6' s7',forD (qp (g2 (gN 5) (gN 6)) stB) (ju k (ps.map rl)) [O,.shr t,.own (.lst acc),.shr (jC q.1),.shr q.2,s5,s6,s7]=
   .ok (.nx [O,.shr t,.own (.lst (acc++stR t q k ps)),.shr (jC q.1),.shr q.2,s5',s6',s7'])
 | [],k,acc,s5,s6,s7,_,_=>⟨s5,s6,s7,by simp [ju,forD,stR]⟩
 |p::ps,k,acc,s5,s6,s7,h,hl=>by
  simp only [aad] at hl;have hp:=h p (by simp);have hqs:=YN t ht q hq;have hpp:=xq t ht q hq;have h1:=hp.hl;have h2:=hp.nl;have hf:zY [p.1,q.2]= .ok (fitO (fil p.1 q.2)):=jbk hp.tl hpp.2.2 (by omega) (by omega) (by omega);have i0:ixD (rl p) (.int 0)= .ok p.1:=ix0
  have hstep: ∃s7',qp (g2 (gN 5) (gN 6)) stB (.tup [.int (k:Int),rl p]) [O,.shr t,.own (.lst acc),.shr (jC q.1),.shr q.2,s5,s6,s7]= .ok (.nx [O,.shr t,.own (.lst (acc++stI t q k p)),.shr (jC q.1),.shr q.2,.shr (.int (k:Int)),.shr (rl p),s7']):=by
   unfold stB stI;rcases Ki (l:=p.1) hpp.2.2 with ⟨e,_⟩| ⟨M,_,e,_,_,hM⟩
   · rw [e] at hf ⊢;have hf:zY [p.1,q.2]= .ok .non:=hf;refine ⟨.shr .non,?_⟩;simp only [abj]
     decreasing_with exact rfl
   · rw [e] at hf ⊢;have hf:zY [p.1,q.2]= .ok (.dic (ky M) (vl M)):=hf;have hs:xk [t,jC q.1,rl p,.dic (ky M) (vl M)]= .ok (res t q p.2 M):=jah ht hq hp hM hh hn;refine ⟨.shr (.dic (ky M) (vl M)),?_⟩
     decreasing_with exact rfl
  obtain ⟨s7',hstep⟩:=hstep;have:=Yw t q k p;obtain ⟨a,b,c,hr⟩:=KL (O:=O) ht hq hh hn ps (k+1) (acc++stI t q k p) (.shr (.int (k:Int))) (.shr (rl p)) s7' (fun x hx=>h x (by simp [hx])) (by simp only [aao];omega);refine ⟨a,b,c,?_⟩;show forD _ (.tup [.int (k:Int),rl p]::ju (k+1) (ps.map rl)) _=_;rw [zk hstep,hr];simp [stR]
end
section
variable {ns:List Str}
theorem XB {α:Type} (f g:α->D): ∀L:List α,qR (L.map f) (L.map g)=L.map fun x=> .tup [f x,g x]
 | []=>rfl
 |x::L=>by simp [qR,XB f g L]
abbrev pq (x:List Int×D):D:= .tup [jC x.1,x.2]
def stO:Sl->Res Out:=forO (Qv (fldF "Rules" "listed" (rdB 0))) (g2 (gN 5) (gN 6)) stB
theorem Xs {t:D} {ps:List (D×D)} {hs:List D} (ht:tk ns t=true) (hh:hgt t<=28) (hn:num t<=100) (hp:Rus ns ps) (hl:ps.length<=40): ∀(L:List (List Int×D)) (acc:List D) (s3 s4 s5 s6 s7:Slot),(∀q∈L,q∈prs t)->acc.length+40*L.length<=9000->
  ∃s3' s4' s5' s6' s7',forD (qp (g2 (gN 3) (gN 4)) stO) (L.map pq) [.shr (obj ps hs),.shr t,.own (.lst acc),s3,s4,s5,s6,s7]=
   .ok (.nx [.shr (obj ps hs),.shr t,.own (.lst (acc++L.flatMap fun q=>stR t q 0 ps)),s3',s4',s5',s6',s7'])
 | [],acc,s3,s4,s5,s6,s7,_,_=>⟨s3,s4,s5,s6,s7,by simp [forD]⟩
 |q::L,acc,s3,s4,s5,s6,s7,h,hb=>by
  simp only [aad] at hb;have hq:=h q (by simp);obtain ⟨a,b,c,hin⟩:=KL (O:= .shr (obj ps hs)) ht hq hh hn ps 0 acc s5 s6 s7 hp (by omega);have hfl:fldD "Rules" "listed" (obj ps hs)= .ok (.lst (ps.map rl)):=rfl
  have hstep:qp (g2 (gN 3) (gN 4)) stO (pq q) [.shr (obj ps hs),.shr t,.own (.lst acc),s3,s4,s5,s6,s7]= .ok (.nx [.shr (obj ps hs),.shr t,.own (.lst (acc++stR t q 0 ps)),.shr (jC q.1),.shr q.2,a,b,c]):=by
   unfold stO
   decreasing_with exact rfl
  have:=Yv t q 0 ps;obtain ⟨x3,x4,x5,x6,x7,hr⟩:=Xs (hs:=hs) ht hh hn hp hl L (acc++stR t q 0 ps) (.shr (jC q.1)) (.shr q.2) a b c (fun x hx=>h x (by simp [hx])) (by simp only [aao];omega);refine ⟨x3,x4,x5,x6,x7,?_⟩;rw [aaw,zk hstep,hr];simp
theorem KM {t:D} {ps:List (D×D)} {hs:List D} (ht:tk ns t=true) (hh:hgt t<=28) (hn:num t<=100) (hp:Rus ns ps) (hl:ps.length<=40):jw [obj ps hs,t]= .ok (.lst (stL t ps)):=by
 have hpl:=yT t;have h1:wc 64 [t]= .ok (.lst ((prs t).map ptD)):=jb6 64 t ht (by omega) (by omega) (by omega);have h2:j6 64 [t]= .ok (.lst (pts t)):=XA 64 t (J8 t ht) (by omega) (by omega);rw [←jcM t ht] at h2;obtain ⟨x3,x4,x5,x6,x7,hr⟩:=Xs (hs:=hs) ht hh hn hp hl (prs t) [] .un .un .un .un .un (fun q hq=>hq) (by simp only [aas];omega);rw [ac0] at hr;have hr:forD (qp (g2 (gN 3) (gN 4)) stO) ((prs t).map pq) [.shr (obj ps hs),.shr t,.own (.lst []),.un,.un,.un,.un,.un]= .ok (.nx [.shr (obj ps hs),.shr t,.own (.lst (stL t ps)),x3,x4,x5,x6,x7]):=hr
 have hz:Ud (jg 1 (wc 64) (jb (rdS 1) nil1)) (jg 1 (j6 64) (jb (rdS 1) nil1)) [.shr (obj ps hs),.shr t,.own (.lst []),.un,.un,.un,.un,.un]= .ok ((prs t).map pq):=by
  decreasing_with skip
  rw [XB];rfl
 refine zU ?_;show zj (wc 64) (j6 64) zY xk [.shr (obj ps hs),.shr t,.un,.un,.un,.un,.un,.un]=_;unfold zj;refine Z2 (env':=[.shr (obj ps hs),.shr t,.own (.lst []),.un,.un,.un,.un,.un]) rfl ?_;refine Z2 ((yI hz).trans hr) ?_
 decreasing_with exact rfl
def ldB : Sl -> Res Out := (seqO (jW 7 (jg 2 zQ (jb (two (rdS 6) (cI 0) ixD) (jb (rdS 4) nil1))))
      (ifO (asB (two (rdS 7) cN notN)) (Ja 2 (tupF (jb (rdS 3) (jb (rdS 5) (jb (jg 3 (j3 64) (jb (rdS 1) (jb (rdS 3) (jb (jg 2 (jF 64) (jb (two (rdS 6) (cI 1) ixD) (jb (rdS 7) nil1))) nil1)))) nil1))))) nxO))
theorem jfm {t:D} {O:Slot} {q:List Int×D} (ht:tk ns t=true) (hq:q∈prs t) (hh:hgt t<=28) (hn:num t<=100): ∀(ps:List (D×D)) (k:Nat) (acc:List D) (s5 s6 s7:Slot),Rus ns ps->acc.length+ps.length<=10000->
  ∃s5' s6' s7',forD (qp (g2 (gN 5) (gN 6)) ldB) (ju k (ps.map rl)) [O,.shr t,.own (.lst acc),.shr (jC q.1),.shr q.2,s5,s6,s7]=
   .ok (.nx [O,.shr t,.own (.lst (acc++stR t q k ps)),.shr (jC q.1),.shr q.2,s5',s6',s7'])
 | [],k,acc,s5,s6,s7,_,_=>⟨s5,s6,s7,by simp [ju,forD,stR]⟩
 |p::ps,k,acc,s5,s6,s7,h,hl=>by
  simp only [aad] at hl;have hp:=h p (by simp);have hqs:=YN t ht q hq;have hpp:=xq t ht q hq;have h1:=hp.hl;have h2:=hp.nl;have h3:=hp.hr;have hf:=due2 hp.tl hpp.2.2 (by omega) (by omega) (by omega);have i0:ixD (rl p) (.int 0)= .ok p.1:=ix0;have i1:ixD (rl p) (.int 1)= .ok p.2:=ixT1 _ _ _
  have hstep: ∃s7',qp (g2 (gN 5) (gN 6)) ldB (.tup [.int (k:Int),rl p]) [O,.shr t,.own (.lst acc),.shr (jC q.1),.shr q.2,s5,s6,s7]= .ok (.nx [O,.shr t,.own (.lst (acc++stI t q k p)),.shr (jC q.1),.shr q.2,.shr (.int (k:Int)),.shr (rl p),s7']):=by
   unfold ldB stI;rcases Ki (l:=p.1) hpp.2.2 with ⟨e,e2⟩| ⟨M,M2,e,e2,hlk,hM⟩
   · rw [e];rw [e2] at hf;have hf:zQ [p.1,q.2]= .ok .non:=hf;refine ⟨.shr .non,?_⟩;simp only [abj]
     decreasing_with exact rfl
   · rw [e];rw [e2] at hf;have hf:zQ [p.1,q.2]= .ok (.dic (ky M2) (vl M2)):=hf;have hs:jF 64 [p.2,.dic (ky M2) (vl M2)]= .ok (sub (lk M) p.2):=by rw [hlk];exact Kh 64 p.2 hp.tr (by omega)
     have hu:j3 64 [t,jC q.1,sub (lk M) p.2]= .ok (res t q p.2 M):=jc9 (o:=sub (lk M) p.2) 64 q.1 t q.2 (by omega) ht (K2 t ht q hq);refine ⟨.shr (.dic (ky M2) (vl M2)),?_⟩
     decreasing_with exact rfl
  obtain ⟨s7',hstep⟩:=hstep;have:=Yw t q k p;obtain ⟨a,b,c,hr⟩:=jfm (O:=O) ht hq hh hn ps (k+1) (acc++stI t q k p) (.shr (.int (k:Int))) (.shr (rl p)) s7' (fun x hx=>h x (by simp [hx])) (by simp only [aao];omega);refine ⟨a,b,c,?_⟩;show forD _ (.tup [.int (k:Int),rl p]::ju (k+1) (ps.map rl)) _=_;rw [zk hstep,hr];simp [stR]
def ldO:Sl->Res Out:=forO (Qv (rdS 0)) (g2 (gN 5) (gN 6)) ldB
theorem jca {t:D} {ps:List (D×D)} (ht:tk ns t=true) (hh:hgt t<=28) (hn:num t<=100) (hp:Rus ns ps) (hl:ps.length<=40): ∀(L:List (List Int×D)) (acc:List D) (s3 s4 s5 s6 s7:Slot),(∀q∈L,q∈prs t)->acc.length+40*L.length<=9000->
  ∃s3' s4' s5' s6' s7',forD (qp (g2 (gN 3) (gN 4)) ldO) (L.map pq) [.shr (.lst (ps.map rl)),.shr t,.own (.lst acc),s3,s4,s5,s6,s7]=
   .ok (.nx [.shr (.lst (ps.map rl)),.shr t,.own (.lst (acc++L.flatMap fun q=>stR t q 0 ps)),s3',s4',s5',s6',s7'])
 | [],acc,s3,s4,s5,s6,s7,_,_=>⟨s3,s4,s5,s6,s7,by simp [forD]⟩
 |q::L,acc,s3,s4,s5,s6,s7,h,hb=>by
  simp only [aad] at hb;have hq:=h q (by simp);obtain ⟨a,b,c,hin⟩:=jfm (O:= .shr (.lst (ps.map rl))) ht hq hh hn ps 0 acc s5 s6 s7 hp (by omega)
  have hstep:qp (g2 (gN 3) (gN 4)) ldO (pq q) [.shr (.lst (ps.map rl)),.shr t,.own (.lst acc),s3,s4,s5,s6,s7]= .ok (.nx [.shr (.lst (ps.map rl)),.shr t,.own (.lst (acc++stR t q 0 ps)),.shr (jC q.1),.shr q.2,a,b,c]):=by
   unfold ldO
   decreasing_with exact rfl
  have:=Yv t q 0 ps;obtain ⟨x3,x4,x5,x6,x7,hr⟩:=jca ht hh hn hp hl L (acc++stR t q 0 ps) (.shr (jC q.1)) (.shr q.2) a b c (fun x hx=>h x (by simp [hx])) (by simp only [aao];omega);refine ⟨x3,x4,x5,x6,x7,?_⟩;rw [aaw,zk hstep,hr];simp
theorem due1 {t:D} {ps:List (D×D)} (ht:tk ns t=true) (hh:hgt t<=28) (hn:num t<=100) (hp:Rus ns ps) (hl:ps.length<=40):zR [.lst (ps.map rl),t]= .ok (.lst (stL t ps)):=by
 have hpl:=yT t;have h1:jy 64 [t,.tup []]= .ok (.lst ((prs t).map pq)):=WS 64 t ht (by omega) (by omega) [] (by simp only [aas];omega);obtain ⟨x3,x4,x5,x6,x7,hr⟩:=jca ht hh hn hp hl (prs t) [] .un .un .un .un .un (fun q hq=>hq) (by simp only [aas];omega);rw [ac0] at hr;have hr:forD (qp (g2 (gN 3) (gN 4)) ldO) ((prs t).map pq) [.shr (.lst (ps.map rl)),.shr t,.own (.lst []),.un,.un,.un,.un,.un]= .ok (.nx [.shr (.lst (ps.map rl)),.shr t,.own (.lst (stL t ps)),x3,x4,x5,x6,x7]):=hr;refine zU ?_;show yB (jy 64) zQ (j3 64) (jF 64) [.shr (.lst (ps.map rl)),.shr t,.un,.un,.un,.un,.un,.un]=_;unfold yB;refine Z2 (env':=[.shr (.lst (ps.map rl)),.shr t,.own (.lst []),.un,.un,.un,.un,.un]) rfl ?_;refine Z2 (env':=[.shr (.lst (ps.map rl)),.shr t,.own (.lst (stL t ps)),x3,x4,x5,x6,x7]) ?_ rfl;refine Vs ?_ hr
 decreasing_with exact rfl
def IsSt (ns:List Str) (A B:Nat) (d:D):Prop:= ∃(p:List Int) (k:Nat) (e:D),d= .tup [jC p,.int (k:Int),e]/\p.length<=100/\tk ns e=true/\hgt e<=A/\num e<=B
theorem kl {t:D} {ps:List (D×D)} (ht:tk ns t=true) (hh:hgt t<=28) (hp:Rus ns ps): ∀d∈stL t ps,IsSt ns (2*hgt t+2) (5*num t) d:=by
 intro d hd;obtain ⟨q,hq,hd⟩:=aca.mp hd;have hpp:=xq t ht q hq
 have: ∀(ps:List (D×D)) (k:Nat),Rus ns ps->d∈stR t q k ps->IsSt ns (2*hgt t+2) (5*num t) d:=by
  intro ps
  induction ps with
  |nil=>intro k _ h;cases h
  |cons p ps ih=>
   intro k hp h;rcases aaL.mp h with z|z
   · have r:=hp p (by simp);have:=r.hr;have hb:=Nat.mul_le_mul_right (num t) r.nr;unfold stI at z;rcases Ki (l:=p.1) hpp.2.2 with ⟨e,_⟩| ⟨M,M2,e,_,_,hM⟩
     · rw [e] at z;cases z
     · rw [e] at z;simp only [aah,aaq,or_false] at z;obtain ⟨h1,h2,h3⟩:=KR ht hq r.tr hM;exact ⟨q.1,k,_,z,by omega,h1,by omega,by omega⟩
   · exact ih (k+1) (fun x hx=>hp x (by simp [hx])) z
 exact this ps 0 hp hd
theorem ut (q:List Int):D.eqbs (q.map D.int)=true:=Qe fun t ht=>by obtain ⟨i,_,rfl⟩:=aaK.mp ht;rfl
theorem uH (q:List Int):D.deps (q.map D.int)<=0:=Qf fun t ht=>by obtain ⟨i,_,rfl⟩:=aaK.mp ht;simp [D.dep]
theorem uT {ds:List D} {A B:Nat} (hA:A<=90) (h: ∀d∈ds,IsSt ns A B d):eqR (.lst ds) (.lst ds)= .ok (.bl true)/\neR (.lst ds) (.lst ds)= .ok (.bl false):=VT (Qe fun d hd=>by
 obtain ⟨p,k,e,rfl,_,he,_⟩:=h d hd
 simp [jC,D.eqb,D.eqbs,ut,(wC e he).1]) (Qf fun d hd=>by
 obtain ⟨p,k,e,rfl,_,he,hg,_⟩:=h d hd;have h1:=(wC e he).2;have h2:=uH p
 simp only [jC,D.dep,D.deps];omega)
def kiB:Sl->Res Out:=(seqO (ifO (orB (notB (asB (isiF "tuple" (rdS 1)))) (orB (asB (two (app (jb (rdS 1) nil1) lenD) (cI 3) neR)) (orB (notB (asB (isiF "tuple" (two (rdS 1) (cI 0) ixD)))) (notB (asB (jg 1 jj (jb (two (rdS 1) (cI 1) ixD) nil1))))))) (retO (cB false)) nxO)
 (ifO (notB (asB (app (jb (qz false 1 [] (itF (two (rdS 1) (cI 0) ixD)) (gN 0) j4 (jg 1 jj (jb (rdS 0) nil1))) nil1) allD))) (retO (cB false)) nxO))
theorem jfn {ds:List D} {A B:Nat} (h: ∀d∈ds,IsSt ns A B d):zZ [.lst ds]= .ok (.bl true):=by
 obtain ⟨env1,h1,u1,rfl,_⟩:=Jy (body:=qp (gN 1) kiB) (fun es env=> ∃u:Slot,env=[.shr (.lst ds),u]/\ ∀d∈es,IsSt ns A B d) (by
  rintro d es env ⟨u,rfl,hd⟩;obtain ⟨p,k,e,rfl,hp,_⟩:=hd d (by simp);refine ⟨[.shr (.lst ds),.shr (.tup [jC p,.int (k:Int),e])],?_,_,rfl,fun x hx=>hd x (by simp [hx])⟩
  have hc:qz false 1 [] (itF (two (rdS 1) (cI 0) ixD)) (gN 0) j4 (jg 1 jj (jb (rdS 0) nil1)) [.shr (.lst ds),.shr (.tup [jC p,.int (k:Int),e])]= .ok (.lst ((p.map D.int).map fun _=> .bl true)):=
   jbH _ (fun d=> ∃i:Int,d= .int i) (ds:=p.map D.int) (Qq (jr rfl rfl ix0) rfl) (fun d hd=>by obtain ⟨i,_,rfl⟩:=aaK.mp hd;exact ⟨i,rfl⟩) (by rw [aan];exact sml (by omega)) (by
    rintro d acc ⟨i,rfl⟩
    exact jH (ds:=[.int i]) (ji rfl rfl) rfl (Xl i))
  have ha:=VY (p.map D.int);have hi:isiD "tuple" (jC p)= .ok (.bl true):=rfl;have hw:=Xl (k:Int);unfold kiB
  decreasing_with exact rfl) ds [.shr (.lst ds),.un] ⟨.un,rfl,h⟩
 refine zU ?_;show wN jj [.shr (.lst ds),.un]=_;unfold wN;have h1':forO (itF (rdS 0)) (gN 1) kiB [.shr (.lst ds),.un]= .ok (.nx [.shr (.lst ds),u1]):=(yI (ds:=ds) rfl).trans h1;refine Z2 rfl ?_;refine Z2 h1' rfl
end
section
variable {ns:List Str}
theorem jcL {ks:List Key} {ds:List D} {k:Key} {d e:D} (h:e∈wY ks ds k d):e∈ds\/e=d:=by
 unfold wY at h
 split at h
 · obtain ⟨p,hp,rfl⟩:=aaK.mp h
   split
   · exact .inr rfl
   · exact .inl (acl hp).2
 · rcases aaL.mp h with z|z
   · exact .inl z
   · simp only [aah,aaq,or_false] at z;exact .inr z
theorem jas (ks:List Key) (k:Key):(wX ks k).length<=ks.length+1:=by
 unfold wX;split<;>simp
theorem jaU {ks:List Key} {ds:List D} {B:Nat} (hB:1<=B) (h: ∀d∈ds,num d<=B) (i:Int):num (look ks ds i)<=B:=by
 unfold look
 cases e:valD ks ds (.inl i) with
 |none=>simpa [num] using hB
 |some d=>exact h d (Wt e)
theorem Q6: ∀(ds:List D) (k:Nat) (d:D),d∈ju k ds-> ∃(j:Nat) (x:D),d= .tup [.int (j:Int),x]/\j<k+ds.length/\x∈ds
 | [],k,d,h=>by cases h
 |x::r,k,d,h=>by
  rcases aah.mp h with e|e
  · exact ⟨k,x,e,by simp,by simp⟩
  · obtain ⟨j,y,h1,h2,h3⟩:=Q6 r (k+1) d e;exact ⟨j,y,h1,by simp only [aad];omega,by simp [h3]⟩
def dwB:Sl->Res Out:=Xc 6 (rdS 10) (jg 4 (jS 6) (jb (jg 2 jz (jb (rdS 0) (jb (two (cI 2) (rdS 9) addD) nil1))) (jb (rdS 1) (jb (cI 1) (jb (rdS 3) nil1)))))
theorem Ko {nm:D} (hn:Fiv ns nm) (m:Int) (hm:0<=m/\m<2^140) {ps:List (D×D)} (hp:Rus ns ps) (hl:ps.length<=40): ∃t,wa [.int m,nm,.lst (ps.map rl)]= .ok t/\tk ns t=true/\hgt t<=10/\num t<=92:=by
 obtain ⟨m1,e1,b1⟩:=qF m 1 hm (by omega);obtain ⟨m99,e99,b99⟩:=qF m 99 hm (by omega);obtain ⟨a,ha⟩: ∃a,a=m%1000:=⟨_,rfl⟩
 obtain ⟨b,hb⟩: ∃b,b=(m+1+m/1000%999)%1000:=⟨_,rfl⟩
 obtain ⟨t,et,gt⟩:=wm (fs:=[a,b]) hn (by simp) 6 3 m1 (by omega) b1;have hg:=gt.hg;have hnm:=gt.nm;simp only [bnd] at hnm;have hne:=vD (ps.map rl)
 by_cases hc:(!(ps.map rl).isEmpty&&(m/10000000%2==0))=true
 · have hpos:0<ps.length:=by
    simp only [aap] at hc
    cases ps with
    |nil=>simp at hc
    |cons x r=>simp
   have hlen:lenD [.lst (ps.map rl)]= .ok (.int (ps.length:Int)):=by show Res.ok (D.int ((ps.map rl).length:Int))=_;rw [aan]
   have hmod:0<=m/100000000%(ps.length:Int)/\m/100000000%(ps.length:Int)<ps.length:=⟨adB _ (by omega),acZ _ (by omega)⟩
   obtain ⟨d,hd,hmem⟩:=ixL (ds:=ps.map rl) (i:=m/100000000%(ps.length:Int)) hmod.1 (by rw [aan];exact hmod.2);obtain ⟨p,hpm,rfl⟩:=aaK.mp hmem;have r:=hp p hpm;have i0:ixD (rl p) (.int 0)= .ok p.1:=ix0;have hrl:=r.hl;have hrn:=r.nl;have hbl:=WU 64 p.1 r.tl (by omega) (by omega);have hbn:=Ku p.1 r.tl
   obtain ⟨env1,l1,ks,es,x,y,rfl,_,hes,_⟩:=Jy (body:=qp (g2 (gN 9) (gN 10)) dwB)
    (fun ds env=> ∃(ks:List Key) (es:List D) (x y:Slot),env=[.shr (.int m),.shr nm,.shr (.lst (ps.map rl)),.shr (.lst [.int a,.int b]),.shr t,.shr p.1,.own (.dic ks es),.un,.un,x,y]/\ks.length+ds.length<=40/\(∀d∈es,tk ns d=true/\hgt d<=2/\num d<=4)/\ ∀d∈ds,∃(j:Nat) (i:Int),d= .tup [.int (j:Int),.int i]/\j<=40)
    (by
     rintro d ds env ⟨ks,es,x,y,rfl,hk,he,hd⟩;simp only [aad] at hk;obtain ⟨j,i,rfl,hj⟩:=hd d (by simp);obtain ⟨m4,hm4,hb4⟩:=qF m (2+(j:Int)) hm (by omega);obtain ⟨u,hu,hug⟩:=wm (fs:=[a,b]) hn (by simp) 6 1 m4 (by omega) hb4;have g1:=hug.hg;have g2':=hug.nm;simp only [bnd] at g2';have hkl:=jas ks (.inl i);refine ⟨[.shr (.int m),.shr nm,.shr (.lst (ps.map rl)),.shr (.lst [.int a,.int b]),.shr t,.shr p.1,.own (.dic (wX ks (.inl i)) (wY ks es (.inl i) u)),.un,.un,.shr (.int (j:Int)),.shr (.int i)],?_,_,_,_,_,rfl,by omega,fun e hq=>?_,fun q hq=>hd q (by simp [hq])⟩
     · unfold dwB
       decreasing_with exact rfl
     · rcases jcL hq with z|z
       · exact he e z
       · rw [z];exact ⟨hug.tk,by omega,by omega⟩)
    (ju 0 ((bks p.1).map .int)) [.shr (.int m),.shr nm,.shr (.lst (ps.map rl)),.shr (.lst [.int a,.int b]),.shr t,.shr p.1,.own (.dic [] []),.un,.un,.un,.un]
    ⟨[],[],.un,.un,rfl,by
     have:(ju 0 ((bks p.1).map D.int)).length=(bks p.1).length:=by
       have: ∀(l:List D) (k:Nat),(ju k l).length=l.length:=fun l=>by
         induction l with
         |nil=>intro k;rfl
         |cons x r ih=>intro k;simp [ju,ih]
       rw [this,aan]
     simp only [aas];omega,(fun d h=>nomatch h),fun d h=>by
     obtain ⟨j,x,rfl,hj,hx⟩:=Q6 _ 0 d h;obtain ⟨i,_,rfl⟩:=aaK.mp hx;rw [aan] at hj
     exact ⟨j,i,rfl,by omega⟩⟩
   have htk:=fun i=>jda (ks:=ks) (fun d h=>(hes d h).1) i
   have hth:=fun i=>jaV (ks:=ks) (B:=2) (by omega) (fun d h=>(hes d h).2.1) i
   have htn:=fun i=>jaU (ks:=ks) (B:=4) (by omega) (fun d h=>(hes d h).2.2) i
   have hfl:=Kh (ns:=ns) (ks:=ks) (ds:=es) 64 p.1 r.tl (by omega);have w1:=jbW (φ:=look ks es) htk p.1 r.tl;have w2:=ud (φ:=look ks es) hth p.1 r.tl;have w3:=vB (φ:=look ks es) (by omega) htn p.1 r.tl;generalize sub (look ks es) p.1=w at hfl w1 w2 w3;have hpl:=yT t;have hpr:jy 64 [t,.tup []]= .ok (.lst ((prs t).map pq)):=WS 64 t gt.tk (by omega) (by omega) [] (by simp only [aas];omega);have hplen:lenD [.lst ((prs t).map pq)]= .ok (.int ((prs t).length:Int)):=by show Res.ok (D.int (((prs t).map pq).length:Int))=_;rw [aan]
   have hnp:=Ze t;have hmod2:0<=m99%((prs t).length:Int)/\m99%((prs t).length:Int)< (prs t).length:=⟨adB _ (by omega),acZ _ (by omega)⟩
   obtain ⟨d2,hd2,hmem2⟩:=ixL (ds:=(prs t).map pq) (i:=m99%((prs t).length:Int)) hmod2.1 (by rw [aan];exact hmod2.2);obtain ⟨q,hq,rfl⟩:=aaK.mp hmem2;have hpp:=xq t gt.tk q hq;have hgo:=K2 t gt.tk q hq;have hput:=jc9 (o:=w) 64 q.1 t q.2 (by omega) gt.tk hgo;have s1:=(JO (o:=w) q.1 t q.2 gt.tk hgo).1;have s2:=Zd (o:=w) q.1 t q.2 gt.tk hgo;have s3:=Wu w1 q.1 t gt.tk;have hpos2:0< ((prs t).length:Int):=by omega
   have hpos3:0< (ps.length:Int):=by omega
   refine ⟨putAt w q.1 t,WC ?_,s3,by omega,by omega⟩;show q8 (jS 6) jz (jy 64) (j3 64) (jv 64) (jF 64) [.shr (.int m),.shr nm,.shr (.lst (ps.map rl)),.un,.un,.un,.un,.un,.un,.un,.un]=_;have hchk: ∀y' x',chk (jg 3 (j3 64) (jb (rdS 4) (jb (rdS 8) (jb (jg 2 (jF 64) (jb (rdS 5) (jb (rdB 6) nil1))) nil1)))) [.shr (.int m),.shr nm,.shr (.lst (ps.map rl)),.shr (.lst [.int a,.int b]),.shr t,.shr p.1,.own (.dic ks es),.shr (.lst ((prs t).map pq)),.shr (jC q.1),x',y']= .ok (putAt w q.1 t):=fun y' x'=>jfZ (by decreasing_with exact rfl) (jfz _ s3)
   have hchk:=hchk y x
   have hl1:forO (Qv (jg 1 (jv 64) (jb (rdS 5) nil1))) (g2 (gN 9) (gN 10)) dwB [.shr (.int m),.shr nm,.shr (.lst (ps.map rl)),.shr (.lst [.int a,.int b]),.shr t,.shr p.1,.own (.dic [] []),.un,.un,.un,.un]= .ok (.nx [.shr (.int m),.shr nm,.shr (.lst (ps.map rl)),.shr (.lst [.int a,.int b]),.shr t,.shr p.1,.own (.dic ks es),.un,.un,x,y]):=by
    refine Vs ?_ l1
    decreasing_with exact rfl
   unfold q8;unfold dwB at hl1;subst ha hb
   decreasing_with exact rfl
 · have hc:(!(ps.map rl).isEmpty&&(m/10000000%2==0))=false:=by simpa using hc
   refine ⟨t,WC ?_,gt.tk,by omega,by omega⟩;show q8 (jS 6) jz (jy 64) (j3 64) (jv 64) (jF 64) [.shr (.int m),.shr nm,.shr (.lst (ps.map rl)),.un,.un,.un,.un,.un,.un,.un,.un]=_;unfold q8;subst ha hb
   decreasing_with exact rfl
end
section
variable {ns:List Str}
theorem jfY {ps:List (D×D)} (h:Rus ns ps):neR (.lst (ps.map rl)) (.lst (ps.map rl))= .ok (.bl false):=(VT (Qe fun d hd=>by
 obtain ⟨p,hp,rfl⟩:=aaK.mp hd;have r:=h p hp
 simp [rl,D.eqb,D.eqbs,(wC _ r.tl).1,(wC _ r.tr).1]) (Qf fun d hd=>by
 obtain ⟨p,hp,rfl⟩:=aaK.mp hd;have r:=h p hp;have a1:=(wC _ r.tl).2;have a2:=(wC _ r.tr).2;have a3:=r.hl;have a4:=r.hr
 simp only [rl,D.dep,D.deps];omega)).2
theorem jd7 (ps:List (D×D)) (hs:List D):qy [.obj "Rules" ["listed", "named"] [.lst (ps.map rl),.lst hs]]= .ok (.lst (ps.map rl)):=jgf ps hs
theorem jcA {ps:List (D×D)} (hp:Rus ns ps) (i:Int):stL (.int i) ps=[]:=by
 unfold stL;rw [yU];simp only [List.flatMap_cons,List.flatMap_nil,abj]
 have: ∀(ps:List (D×D)) (k:Nat),Rus ns ps->stR (.int i) ([],.int i) k ps=[]:=by
  intro ps
  induction ps with
  |nil=>intro k _;rfl
  |cons p ps ih=>
   intro k hp;obtain ⟨z,ts,e⟩:=(hp p (by simp)).lt;simp only [stR];rw [ih (k+1) fun x hx=>hp x (by simp [hx])];unfold stI fil;simp only;rw [e,jaQ];rfl
 exact this ps 0 hp
def ja0:Sl->Res Out:=(ifO (andB (asB (two (rdS 8) (lstF nil1) neR)) (asB (two (app (jb (jg 2 (jy 64) (jb (two (two (rdS 8) (negF (cI 1)) ixD) (cI 2) ixD) (jb (tupF nil1) nil1))) nil1) lenD) (cI 81) ltI))) (ifO (asB (two (xW "Rules" "steps" 2 jw (rdS 4) (jb (two (two (rdS 8) (negF (cI 1)) ixD) (cI 2) ixD) nil1)) (jg 2 zR (jb (rdS 3) (jb (two (two (rdS 8) (negF (cI 1)) ixD) (cI 2) ixD) nil1))) neR)) (retO (cB false)) nxO) nxO)
def lawB:Sl->Res Out:=(seqO (jW 7 (jg 3 wa (jb (jg 2 zx (jb (rdS 6) (jb (two (rdS 5) (cI 1) addD) nil1))) (jb (rdS 2) (jb (rdS 3) nil1)))))
 (seqO (jW 8 (jg 2 zR (jb (rdS 3) (jb (rdS 7) nil1))))
 (seqO (setO 9 (xW "Rules" "steps" 2 jw (rdS 4) (jb (rdS 7) nil1)))
 (seqO (ifO (orB (notB (asB (jg 1 zZ (jb (rdB 9) nil1)))) (asB (two (rdB 9) (rdS 8) neR))) (retO (cB false)) nxO)
 (seqO (Yb 9)
 (seqO (jW 10 (xW "Rules" "steps" 2 jw (rdS 4) (jb (rdS 7) nil1)))
 (seqO (ifO (orB (asB (two (rdS 10) (rdS 8) neR)) (asB (two (xW "Rules" "told" 1 qy (rdS 4) noA) (rdS 3) neR))) (retO (cB false)) nxO)
 ja0)))))))
theorem jaY {nm S L:D} (hn:Fiv ns nm) {ps:List (D×D)} (hp:Rus ns ps) (hl:ps.length<=40) {hs:List D} (k:Nat) (hk:k<=63) (c:Int) (v7 v8 v9 v10:Slot): ∃w7 w8 w9 w10,
  lawB [.shr S,.shr L,.shr nm,.shr (.lst (ps.map rl)),.shr (.obj "Rules" ["listed", "named"] [.lst (ps.map rl),.lst hs]),.shr (.int (k:Int)),.shr (.int c),v7,v8,v9,v10]= .ok (.nx [.shr S,.shr L,.shr nm,.shr (.lst (ps.map rl)),.shr (.obj "Rules" ["listed", "named"] [.lst (ps.map rl),.lst hs]),.shr (.int (k:Int)),.shr (.int c),w7,w8,w9,w10]):=by
 obtain ⟨m,hm,hm2⟩:=Qo c ((k:Int)+1) (by omega);obtain ⟨t,ht,htk,hth,htn⟩:=Ko hn m hm2 hp hl;have hdue:=due1 htk (by omega) (by omega) hp hl;have hst:jw [.obj "Rules" ["listed", "named"] [.lst (ps.map rl),.lst hs],t]= .ok (.lst (stL t ps)):=KM (hs:=hs) htk (by omega) (by omega) hp hl;have his:=kl htk (by omega) hp;have hki:=jfn his;have hne:=(uT (by omega) his).2;have hto:=jd7 ps hs;have hrl:=jfY hp;have hnil:=vD (stL t ps);have hno: ∀env:Sl,noA env= .ok []:=fun _=>rfl
 have hno:=hno [.shr S,.shr L,.shr nm,.shr (.lst (ps.map rl)),.shr (.obj "Rules" ["listed", "named"] [.lst (ps.map rl),.lst hs]),.shr (.int (k:Int)),.shr (.int c),.shr t,.shr (.lst (stL t ps)),.own (.lst []),.shr (.lst (stL t ps))]
 have hlast:ja0 [.shr S,.shr L,.shr nm,.shr (.lst (ps.map rl)),.shr (.obj "Rules" ["listed", "named"] [.lst (ps.map rl),.lst hs]),.shr (.int (k:Int)),.shr (.int c),.shr t,.shr (.lst (stL t ps)),.own (.lst []),.shr (.lst (stL t ps))]= .ok (.nx [.shr S,.shr L,.shr nm,.shr (.lst (ps.map rl)),.shr (.obj "Rules" ["listed", "named"] [.lst (ps.map rl),.lst hs]),.shr (.int (k:Int)),.shr (.int c),.shr t,.shr (.lst (stL t ps)),.own (.lst []),.shr (.lst (stL t ps))]):=by
  unfold ja0;clear hdue hst hki hne hto hrl hno ht;generalize hT:stL t ps=T at*;rcases List.eq_nil_or_concat T with e| ⟨xs,d,e⟩
  · subst e;refine ja8 (jg4 (by decreasing_with exact rfl)) ?_;rfl
  · rw [List.concat_eq_append] at e;subst e;obtain ⟨p,j,e,rfl,_,he,heh,hen⟩:=his d (by simp);have hlx:=ja5 xs (.tup [jC p,.int (j:Int),e]);have hpr:jy 64 [e,.tup []]= .ok (.lst ((prs e).map pq)):=WS 64 e he (by omega) (by omega) [] (by simp only [aas];omega);have hple:lenD [.lst ((prs e).map pq)]= .ok (.int (num e:Int)):=by show Res.ok (D.int (((prs e).map pq).length:Int))=_;rw [aan,yT]
    have hb:(!(xs++[D.tup [jC p,.int (j:Int),e]]).isEmpty)=true:=by simp
    by_cases h81:decide ((num e:Int)<81)=true
    · have h81':(num e:Int)<81:=by simpa using h81
      have hdue:=due1 he (by omega) (by omega) hp hl;have hst:jw [.obj "Rules" ["listed", "named"] [.lst (ps.map rl),.lst hs],e]= .ok (.lst (stL e ps)):=KM (hs:=hs) he (by omega) (by omega) hp hl;have hne:=(uT (by omega) (kl he (by omega) hp)).2;refine ja8 (b:=true) (jga ?_ ?_) (jfu rfl ?_)
      · rw [←hb];decreasing_with exact rfl
      · rw [←h81];decreasing_with exact rfl
      · decreasing_with exact rfl
    · have h81:decide ((num e:Int)<81)=false:=by simpa using h81
      refine ja8 (b:=false) (jga ?_ ?_) (jfv rfl ?_)
      · rw [←hb];decreasing_with exact rfl
      · rw [←h81];decreasing_with exact rfl
      · rfl
 refine ⟨.shr t,.shr (.lst (stL t ps)),.own (.lst []),.shr (.lst (stL t ps)),?_⟩;unfold lawB
 decreasing_with exact rfl
end
theorem kh {f1 f2:Sl->Res D} {env:Sl} (h:f1 env= .ok (.bl true)) (h2:f2 env= .ok (.bl true)):retO (toB f1 f2 true) env= .ok (.rt true (.bl true)):=qC (jd8 h h2)
theorem law_true (sc : List Int) (hlen : sc.length <= 63) (hb : ∀ i ∈ sc, abB i <= 2 ^ 20) : F_law [.scr (sc.map D.int)] = .ok (.bl true) := by
  have hsl : ∀ k : Nat, k <= 100 -> k <= aae := fun k hk => jo (by omega)
  obtain ⟨c0, hc0⟩ : ∃ c0 : Int, ixD (.lst (sc.map D.int ++ [.int 0])) (.int 0) = .ok (.int c0) := by
    cases sc with
    | nil => exact ⟨0, ixL0 _ _⟩
    | cons c r => exact ⟨c, ixL0 _ _⟩
  have hadd : addS (.scr (sc.map D.int)) (.lst [.int 0]) = .ok (.lst (sc.map D.int ++ [.int 0])) := jk (by simp only [aan, aad, aas]; exact hsl _ (by omega))
  obtain ⟨lead, hlead, hl0⟩ := Qo c0 0 (by omega)
  obtain ⟨nm, hnm, h5⟩ := Y4 lead
  obtain ⟨ns, hn⟩ := jbj h5
  have hslice : slS (.scr (sc.map D.int)) (some 1) (some 5) = .ok (.lst (cutD (sc.map D.int) (some 1) (some 5))) := rfl
  generalize hS : D.scr (sc.map D.int) = S at *
  obtain ⟨ts, hts, hl, hR⟩ := Xe (js := [2, 1]) (fi := rngF (jb (two (two (rdS 1) (two (cI 10) (cI 20) powI) divW) (cI 6) modI) nil1)) (fe := jg 2 wI (jb (jg 2 jz (jb (rdS 2) (jb (rdS 0) nil1))) (jb (rdS 1) nil1)))
    (env := [.shr S, .shr (.int lead), .shr nm, .un, .un, .un, .un, .un, .un, .un, .un]) (ds := wb 0 (lead / 100000000000000000000 % 6).toNat) (cs := [.shr nm, .shr (.int lead)])
    (fun d => ∃ p, d = rl p /\ Ru ns p.1 p.2) (fun d => ∃ k : Int, d = .int k /\ 0 <= k /\ k < 10) rfl (Q1 (by decreasing_with exact rfl) (by omega)) (fun d hd => by
      obtain ⟨k, rfl, k0, k1⟩ := xX hd
      exact ⟨k, rfl, k0, by omega⟩) (by rw [qS]; exact hsl _ (by omega)) (by
      rintro d acc ⟨k, rfl, k0, k1⟩
      obtain ⟨m4, hm4, hb4⟩ := qF lead k hl0 (by omega)
      obtain ⟨l, r, hr, ru⟩ := Ut hn m4 hb4
      exact ⟨_, by decreasing_with exact rfl, (l, r), rfl, ru⟩)
  rw [qS] at hl
  obtain ⟨ps, rfl, hps⟩ : ∃ ps : List (D × D), ts = ps.map rl /\ Rus ns ps := by
    clear hl hts
    induction ts with
    | nil => exact ⟨[], rfl, fun p hp => by cases hp⟩
    | cons t r ih =>
      obtain ⟨p, rfl, hp⟩ := hR t (by simp)
      obtain ⟨ps, rfl, hps⟩ := ih fun x hx => hR x (by simp [hx])
      exact ⟨p :: ps, rfl, fun q hq => by rcases aah.mp hq with e | e; · rw [e]; exact hp
                                          · exact hps q e⟩
  rw [aan] at hl
  obtain ⟨hs, hmk⟩ := jgL hn.2.1 hn.2.2 hps (by omega)
  have hmk : qg (.obj "Rules" [] []) [.lst (ps.map rl)] = .ok (.non, .obj "Rules" ["listed", "named"] [.lst (ps.map rl), .lst hs]) := hmk
  have hlst : Kd [.lst (ps.map rl)] = .ok (.lst (ps.map rl)) := rfl
  have hcut : ∀ x ∈ cutD (sc.map D.int) (some 1) (some 5), x ∈ sc.map D.int := fun x hx => List.mem_of_mem_drop (List.mem_of_mem_take hx)
  have hcl : (cutD (sc.map D.int) (some 1) (some 5)).length <= 63 := by
    unfold cutD
    rw [acE, adc, aan]; omega
  generalize hcells : cutD (sc.map D.int) (some 1) (some 5) = cells at *
  obtain ⟨env1, l1, v5, v6, v7, v8, v9, v10, rfl, _⟩ := Jy (body := qp (g2 (gN 5) (gN 6)) lawB)
    (fun ds env => ∃ (v5 v6 v7 v8 v9 v10 : Slot), env = [.shr S, .shr (.int lead), .shr nm, .shr (.lst (ps.map rl)), .shr (.obj "Rules" ["listed", "named"] [.lst (ps.map rl), .lst hs]), v5, v6, v7, v8, v9, v10] /\ ∀ d ∈ ds, ∃ (j : Nat) (i : Int), d = .tup [.int (j : Int), .int i] /\ j <= 63)
    (by
      rintro d ds env ⟨v5, v6, v7, v8, v9, v10, rfl, hd⟩
      obtain ⟨j, i, rfl, hj⟩ := hd d (by simp)
      obtain ⟨w7, w8, w9, w10, h3⟩ := jaY (S := S) (L := .int lead) hn hps (by omega) (hs := hs) j hj i v7 v8 v9 v10
      refine ⟨_, ke rfl h3, _, _, _, _, _, _, rfl, fun x hx => hd x (by simp [hx])⟩)
    (ju 0 cells) [.shr S, .shr (.int lead), .shr nm, .shr (.lst (ps.map rl)), .shr (.obj "Rules" ["listed", "named"] [.lst (ps.map rl), .lst hs]), .un, .un, .un, .un, .un, .un]
    ⟨.un, .un, .un, .un, .un, .un, rfl, fun d hd => by
      obtain ⟨j, x, rfl, hj, hx⟩ := Q6 cells 0 d hd
      obtain ⟨i, _, rfl⟩ := aaK.mp (hcut x hx)
      exact ⟨j, i, rfl, by omega⟩⟩
  obtain ⟨z, hz, hzn⟩ := uk hn 0 (by omega) (by omega)
  have zt : tk ns (.tup [.str z]) = true := Yt hzn (by simp) (fun t h => nomatch h)
  have zh : hgt (.tup [.str z]) <= 1 := by simp [qu, hgts]
  have zn : num (.tup [.str z]) <= 1 := by simp [qD, nums]
  have d1 := due1 zt (by omega) (by omega) hps (by omega)
  have s1 : jw [.obj "Rules" ["listed", "named"] [.lst (ps.map rl), .lst hs], .tup [.str z]] = .ok (.lst (stL (.tup [.str z]) ps)) := KM (hs := hs) zt (by omega) (by omega) hps (by omega)
  have e1 := (uT (by omega) (kl zt (by omega) hps)).1
  have s2 : jw [.obj "Rules" ["listed", "named"] [.lst (ps.map rl), .lst hs], .int 7] = .ok (.lst (stL (.int 7) ps)) := KM (ns := ns) (hs := hs) rfl (by simp [hgt]) (by simp [num]) hps (by omega)
  rw [jcA hps] at s2
  have e2 : eqR (.lst []) (.lst []) = .ok (.bl true) := rfl
  refine zU ?_
  show jbh zx wP qg wI wa zR jw jz zZ qy (jy 64) [.shr S, .un, .un, .un, .un, .un, .un, .un, .un, .un, .un] = _
  have hloop : forO (Qv (j7 (rdS 0) (qQ (cI 1)) (qQ (cI 5)) slS)) (g2 (gN 5) (gN 6)) lawB [.shr S, .shr (.int lead), .shr nm, .shr (.lst (ps.map rl)), .shr (.obj "Rules" ["listed", "named"] [.lst (ps.map rl), .lst hs]), .un, .un, .un, .un, .un, .un] = .ok (.nx [.shr S, .shr (.int lead), .shr nm, .shr (.lst (ps.map rl)), .shr (.obj "Rules" ["listed", "named"] [.lst (ps.map rl), .lst hs]), v5, v6, v7, v8, v9, v10]) := by
    refine Vs ?_ l1
    decreasing_with exact rfl
  have hfin : retO (toB (two (xW "Rules" "steps" 2 jw (rdS 4) (jb (tupF (jb (two (rdS 2) (cI 0) ixD) nil1)) nil1)) (jg 2 zR (jb (rdS 3) (jb (tupF (jb (two (rdS 2) (cI 0) ixD) nil1)) nil1))) eqR) (two (xW "Rules" "steps" 2 jw (rdS 4) (jb (cI 7) nil1)) (lstF nil1) eqR) true) [.shr S, .shr (.int lead), .shr nm, .shr (.lst (ps.map rl)), .shr (.obj "Rules" ["listed", "named"] [.lst (ps.map rl), .lst hs]), v5, v6, v7, v8, v9, v10] = .ok (.rt true (.bl true)) :=
    by
    refine kh ?_ ?_
    · refine (jr (x := .lst (stL (.tup [.str z]) ps)) (y := .lst (stL (.tup [.str z]) ps)) ?_ ?_ e1)
      · refine WR (ds := [.tup [.str z]]) (kN rfl) rfl ?_ rfl s1
        decreasing_with exact rfl
      · decreasing_with exact rfl
    · refine jr (x := .lst []) (y := .lst []) ?_ ?_ e2
      · refine WR (ds := [.int 7]) (kN rfl) rfl ?_ rfl s2
        decreasing_with exact rfl
      · decreasing_with exact rfl
  unfold jbh
  unfold lawB ja0 at hloop
  decreasing_with exact rfl
end G
theorem PySem.W.Fast.tw1227048564362366134 : True := trivial
theorem PySem.W.Fast.te3083588876617180224 : True := trivial
theorem PySem.W.Fast.tw6679618332591946277 : True := trivial
theorem PySem.W.Fast.tw6264462140359620484 : True := trivial
theorem PySem.W.Fast.tw13159653671264734917 : True := trivial
theorem PySem.W.Fast.tw16204867695637054955 : True := trivial
theorem PySem.W.Fast.tw17109432773113472386 : True := trivial
theorem PySem.W.Fast.tw5226322619875522592 : True := trivial
theorem PySem.W.Fast.tw6040250036325331920 : True := trivial
theorem PySem.W.Fast.tw12912410438998209048 : True := trivial
theorem PySem.W.Fast.tw11638866717686014145 : True := trivial
theorem PySem.W.Fast.tw7836827012954024239 : True := trivial
theorem PySem.W.Fast.tw12374412030608022714 : True := trivial
theorem PySem.W.Fast.tw12031704615538470197 : True := trivial
theorem PySem.W.Fast.tw15240197711671573732 : True := trivial
theorem PySem.W.Fast.tw17459834813591138770 : True := trivial
theorem PySem.W.Fast.tw13269452475768575392 : True := trivial
theorem PySem.W.Fast.tw7249910876754868499 : True := trivial
theorem PySem.W.Fast.tw11018523230252214970 : True := trivial
theorem PySem.W.Fast.tw10908522724892020403 : True := trivial
theorem PySem.W.Fast.tw1478299436437244989 : True := trivial
theorem PySem.W.Fast.tw18234204256360340274 : True := trivial
theorem PySem.W.Fast.tw9790072157312806596 : True := trivial
theorem PySem.W.Fast.tw10871098611706569984 : True := trivial
theorem PySem.W.Fast.tw18416890379567046667 : True := trivial
theorem PySem.W.Fast.tw11319903374556580068 : True := trivial
theorem PySem.W.Fast.tw5795410296484329532 : True := trivial
theorem PySem.W.Fast.tw12925125643977489102 : True := trivial
theorem PySem.W.Fast.tw6532799711493943909 : True := trivial
open PySem PySem.W PyProof.Rows
set_option maxRecDepth 100000 in
set_option maxHeartbeats 0 in
theorem PySem.Challenge.cw_endwise_k22_steps_told_holds : PySem.Challenge.rw_endwise_k22_steps_told.Holds := by
  w_on; o_law; k_head; (case hw => w_witness2)
  k_fill
  refine M.walk_law (l := PySem.Challenge.rw_endwise_k22_steps_told) (n := 63) (k := 71) (x := "_law_script") (F := G.F_law) rfl (by decide) rfl ⟨rfl, by decide, by decide⟩ (fun w h Y => PySem.W.kIn_of Y) ?F G.law_true
  case F =>
    intro w mg fa h KX Gn hmg
    refine' G.all_mk KX Gn hmg ?d0 ?d1 ?d2 ?d3 ?d4 ?d5 ?d6 ?d7 ?d8 ?d9 ?d10 ?d11 ?d12 ?d13 ?d14 ?d15 ?d16 ?d17 ?d18 ?d19 ?d20 ?d21 ?d22 ?d23 ?d24 ?d25 ?d26 ?d27 ?d28 ?d29 ?d30 ?d31 ?d32 ?d33 ?d34 ?d35 ?d36 ?d37 ?a38 ?l38 ?c38 ?k38 ?z0 ?z1 ?z2 ?z3 ?z4 ?z5 ?z6 ?z7 ?z8 ?z9 ?z10 ?z11 ?z12 ?z13 ?y_LETTERS ?y_MOST_LETTERS ?y_MOST_PLACES ?y_MOST_BLANK ?y_MOST_LEVELS ?y_MOST_PARTS ?y_MOST_RULES ?yD ?Jm ?Js ?Jl ?Jk ?wy ?wS ?WQ ?WV
    (case yD => k_is)
    (case d0 => exact ⟨_, by k_is, ⟨_, _, _, _, _, _, _, _, _, by k_is, by k_is⟩, by k_is⟩)
    (case d1 => exact ⟨_, by k_is, ⟨_, _, _, _, _, _, _, _, _, by k_is, by k_is⟩, by k_is⟩)
    (case d2 => exact ⟨_, by k_is, ⟨_, _, _, _, _, _, _, _, _, by k_is, by k_is⟩, by k_is⟩)
    (case d3 => exact ⟨_, by k_is, ⟨_, _, _, _, _, _, _, _, _, by k_is, by k_is⟩, by k_is⟩)
    (case d4 => exact ⟨_, by k_is, ⟨_, _, _, _, _, _, _, _, _, by k_is, by k_is⟩, by k_is⟩)
    (case d5 => exact ⟨_, by k_is, ⟨_, _, _, _, _, _, _, _, _, by k_is, by k_is⟩, by k_is⟩)
    (case d6 => exact ⟨_, by k_is, ⟨_, _, _, _, _, _, _, _, _, by k_is, by k_is⟩, by k_is⟩)
    (case d7 => exact ⟨_, by k_is, ⟨_, _, _, _, _, _, _, _, _, by k_is, by k_is⟩, by k_is⟩)
    (case d8 => exact ⟨_, by k_is, ⟨_, _, _, _, _, _, _, _, _, by k_is, by k_is⟩, by k_is⟩)
    (case d9 => exact ⟨_, by k_is, ⟨_, _, _, _, _, _, _, _, _, by k_is, by k_is⟩, by k_is⟩)
    (case d10 => exact ⟨_, by k_is, ⟨_, _, _, _, _, _, _, _, _, by k_is, by k_is⟩, by k_is⟩)
    (case d11 => exact ⟨_, by k_is, ⟨_, _, _, _, _, _, _, _, _, by k_is, by k_is⟩, by k_is⟩)
    (case d12 => exact ⟨_, by k_is, ⟨_, _, _, _, _, _, _, _, _, by k_is, by k_is⟩, by k_is⟩)
    (case d13 => exact ⟨_, by k_is, ⟨_, _, _, _, _, _, _, _, _, by k_is, by k_is⟩, by k_is⟩)
    (case d14 => exact ⟨_, by k_is, ⟨_, _, _, _, _, _, _, _, _, by k_is, by k_is⟩, by k_is⟩)
    (case d15 => exact ⟨_, by k_is, ⟨_, _, _, _, _, _, _, _, _, by k_is, by k_is⟩, by k_is⟩)
    (case d16 => exact ⟨_, by k_is, by k_is, ⟨_, _, _, _, _, _, _, _, _, by k_is, by k_is⟩, by k_is⟩)
    (case d17 => exact ⟨_, by k_is, ⟨_, _, _, _, _, _, _, _, _, by k_is, by k_is⟩, by k_is⟩)
    (case d18 => exact ⟨_, by k_is, ⟨_, _, _, _, _, _, _, _, _, by k_is, by k_is⟩, by k_is⟩)
    (case d19 => exact ⟨_, by k_is, ⟨_, _, _, _, _, _, _, _, _, by k_is, by k_is⟩, by k_is⟩)
    (case d20 => exact ⟨_, by k_is, ⟨_, _, _, _, _, _, _, _, _, by k_is, by k_is⟩, by k_is⟩)
    (case d21 => exact ⟨_, by k_is, ⟨_, _, _, _, _, _, _, _, _, by k_is, by k_is⟩, by k_is⟩)
    (case d22 => exact ⟨_, by k_is, ⟨_, _, _, _, _, _, _, _, _, by k_is, by k_is⟩, by k_is⟩)
    (case d23 => exact ⟨_, by k_is, ⟨_, _, _, _, _, _, _, _, _, by k_is, by k_is⟩, by k_is⟩)
    (case d24 => exact ⟨_, by k_is, ⟨_, _, _, _, _, _, _, _, _, by k_is, by k_is⟩, by k_is⟩)
    (case d25 => exact ⟨_, by k_is, ⟨_, _, _, _, _, _, _, _, _, by k_is, by k_is⟩, by k_is⟩)
    (case d26 => exact ⟨_, by k_is, ⟨_, _, _, _, _, _, _, _, _, by k_is, by k_is⟩, by k_is⟩)
    (case d27 => exact ⟨_, by k_is, ⟨_, _, _, _, _, _, _, _, _, by k_is, by k_is⟩, by k_is⟩)
    (case d28 => exact ⟨_, by k_is, ⟨_, _, _, _, _, _, _, _, _, by k_is, by k_is⟩, by k_is⟩)
    (case d29 => exact ⟨_, by k_is, ⟨_, _, _, _, _, _, _, _, _, by k_is, by k_is⟩, by k_is⟩)
    (case d30 => exact ⟨_, by k_is, ⟨_, _, _, _, _, _, _, _, _, by k_is, by k_is⟩, by k_is⟩)
    (case d31 => exact ⟨_, by k_is, ⟨_, _, _, _, _, _, _, _, _, by k_is, by k_is⟩, by k_is⟩)
    (case d32 => exact ⟨_, by k_is, ⟨_, _, _, _, _, _, _, _, _, by k_is, by k_is⟩, by k_is⟩)
    (case d33 => exact ⟨_, by k_is, ⟨_, _, _, _, _, _, _, _, _, by k_is, by k_is⟩, by k_is⟩)
    (case d34 => exact ⟨_, by k_is, ⟨_, _, _, _, _, _, _, _, _, by k_is, by k_is⟩, by k_is⟩)
    (case d35 => exact ⟨_, by k_is, by k_is, ⟨_, _, _, _, _, _, _, _, _, by k_is, by k_is⟩, by k_is⟩)
    (case d36 => exact ⟨_, by k_is, ⟨_, _, _, _, _, _, _, _, _, by k_is, by k_is⟩, by k_is⟩)
    (case d37 => exact ⟨_, by k_is, by k_is, ⟨_, _, _, _, _, _, _, _, _, by k_is, by k_is⟩, by k_is⟩)
    (case a38 => k_is)
    (case l38 => k_is)
    (case c38 => k_is)
    (case k38 => k_is)
    (case z0 => k_is)
    (case z1 => k_is)
    (case z2 => k_is)
    (case z3 => k_is)
    (case z4 => k_is)
    (case z5 => k_is)
    (case z6 => k_is)
    (case z7 => k_is)
    (case z8 => k_is)
    (case z9 => k_is)
    (case z10 => k_is)
    (case z11 => k_is)
    (case z12 => k_is)
    (case z13 => k_is)
    (case y_LETTERS => exact ⟨_, by k_is⟩)
    (case y_MOST_LETTERS => exact ⟨_, by k_is⟩)
    (case y_MOST_PLACES => exact ⟨_, by k_is⟩)
    (case y_MOST_BLANK => exact ⟨_, by k_is⟩)
    (case y_MOST_LEVELS => exact ⟨_, by k_is⟩)
    (case y_MOST_PARTS => exact ⟨_, by k_is⟩)
    (case y_MOST_RULES => exact ⟨_, by k_is⟩)
    (case Jm => k_is)
    (case Js => k_is)
    (case Jl => k_is)
    (case Jk => k_is)
    (case wy => k_is)
    (case wS => k_is)
    (case WQ => k_is)
    (case WV => k_is)

import PyProof.Rows.All
import Wide.All
import OpenK.AllK
import Wide.FinOn
import Lean
import PyProof.EqAt
import PyProof.EqKinds
import PyProof.TupleCall
import PyProof.Cells
import PyProof.NeKinds
import KE.IntBitsLaws
import KE.KDictList
import KE.KRevIter
import KE.KSortTup
import KE.KDictSum
import PyProof.EnumMake
import PyProof.EnumFor
import PyProof.LayNew
import PyProof.Rows.EnumRows
import PyProof.SumAny
import PyProof.ListRange
import PyProof.FString5
import PyProof.CollectIter
import PyProof.TupleOfSeq
import PyProof.Rows.Tup
import OpenK.KRaise
import PyProof.StationsW
import KE.KTryMore
import PyProof.NsDelKeeps
import KE.KEqDict
import PyProof.ExcArgs
import PyProof.Draws
import PyProof.ZipIter
import PyProof.Rows.ZipGen
import PyProof.DictWalks
import PyProof.Conv_int_bool
import PyProof.Rows.SeqMore
import PyProof.Rows.SetFrom
import PyProof.SetRoads
import PyProof.MeetsSeq2
import PyProof.FactsAll.NoneType_1
import PyProof.DictFindH
import PyProof.DictRoadsH
import PyProof.AttrMissHeap
import KE.KDictOf
import PyProof.Rows.StrJoin2
import PyProof.TupleKey
import PyProof.IsRules
import PySem.Challenge.RW_endwise_k42_values
open Array renaming getElem?_toList -> aax, getElem?_eq_getElem -> aaA, length_toList -> aaI, getD_eq_getD_getElem? -> abM, getElem?_eq_some_iff -> abQ, getD -> aeN
open Bool renaming and_eq_true -> aaD, false_ne_true -> aaN, false_eq_true -> abd, not_false -> abn, not_true -> acK, eq_iff_iff -> aej
open Classical renaming byContradiction -> acx
open False renaming elim -> abj
open ForInStep renaming yield -> aeh
open Function renaming comp_def -> aeP
open Int renaming toNat_natCast -> acC, fdiv_eq_ediv_of_nonneg -> ac3, pow_succ -> adp, eq_ofNat_of_zero_le -> adx, emod_lt_of_pos -> adC, le_trans -> adU, mul_le_mul_of_nonneg_right -> adV, emod_nonneg -> aeo, mul_comm -> aeA, pow_zero -> afd
open List renaming getElem?_eq_getElem -> aad, size_toArray -> aah, length_map -> aaj, mem_cons_of_mem -> aal, mem_cons_self -> aap, getElem?_append_right -> aaq, mem_map -> aat, getElem?_eq_some_iff -> aav, getElem?_append_left -> aaz, map_cons -> aaB, length_append -> aaC, getElem?_map -> aaE, mem_cons -> aaG, mem_singleton -> aaJ, length_cons -> aaL, mem_range -> aaM, replicate -> aaP, mem_append_right -> aaU, getElem?_cons_succ -> aaW, append_assoc -> aaY, mem_append -> aa1, mem_of_getElem? -> aa2, map_append -> aa3, range -> aa5, lookup -> aa6, getElem_mem -> aa9, map_map -> abb, mem_append_left -> abi, getElem?_replicate -> abk, getElem?_set_self -> abp, getElem?_eq_none -> abu, mem_iff_getElem? -> abv, all_eq_true -> abw, lookup_cons -> abx, pairwise_map -> aby, append_nil -> abC, nodup_append -> abI, replicate_succ -> abT, drop_eq_getElem_cons -> abX, pairwise_iff_getElem -> abY, zip_cons_cons -> ab3, any_eq_true -> ab6, nodup_cons -> acf, getD_eq_getElem?_getD -> acl, pairwise_cons -> act, length_nil -> acA, of_mem_zip -> acB, flatten_cons -> acE, filterMap_cons -> acJ, length_replicate -> acT, find?_cons -> acV, sum_cons -> ac2, getElem?_set_ne -> ac6, nodup_range -> adg, getElem?_take_of_lt -> adk, toArray -> adm, mem_filterMap -> adq, drop_eq_nil_of_le -> adD, length_pos_of_mem -> adE, length_range -> adM, length_take -> adY, eq_nil_of_length_eq_zero -> ad0, mem_of_mem_take -> ad4, mem_of_mem_drop -> ad5, any_cons -> ad8, foldl_cons -> aef, nil_append -> aek, map_congr_left -> aem, contains_cons -> aex, getElem?_drop -> aey, set_cons_succ -> aez, any_eq_false -> aeL, all_cons -> aeU, getElem_inj -> aeW, length_drop -> aeX, range'_succ -> aeZ, map_nil -> ae7, any_map -> afa
open List.Perm renaming refl -> afh
open List.cons renaming injEq -> adB
open Nat renaming le_refl -> aag, lt_of_lt_of_le -> aas, le_trans -> aaw, ne_of_lt -> aaF, zero_le -> abe, lt_irrefl -> abq, le_add_right -> abO, not_lt_zero -> aci, mul_le_mul_right -> acy, le_of_not_lt -> acM, lt_succ_self -> adf, lt_succ_of_lt -> adL, succ_mul -> adQ, add_zero -> adT, le_succ -> aee, ne_of_gt -> aet, lt_of_le_of_lt -> aev, le_succ_of_le -> aeO, le_of_lt_succ -> aeQ, le_of_lt -> ae4, lt_trans -> ae8, succ_pos -> afc
open Ne renaming symm -> adh
open Option renaming map_eq_some_iff -> abR, isSome_iff_exists -> adj, getD_none -> aeY
open Option.some renaming inj -> aaH
open Or renaming inr -> abA, inl -> acg
open PyProof.Rows renaming boot_tuple -> aaS, slot_tuple_getitem -> aa7, boot_int -> ab1, boot_all -> acv, callWith_type1 -> acR, envOfC -> ac4, seqObj -> ady, boot_isinstance -> aei, get?_update_seq -> aen, tupleItemsOf_ -> aeI, AllBare -> aeS, boot_bool -> ae2
open PyProof.Rows.F renaming plain_set_update_loop -> ab9, entry_set_update_loop -> adb
open PySem renaming wpAny_bind -> aaa, wpAny_pure -> aae, Shared -> aaf, starEach -> aai, sizeLine -> aak, mainGlobals -> aam, Program -> aay, tupleKeyHash -> aaQ, Around -> aaV, boot_len -> aa0, wpAny_holding -> aa4, wpAny_newObj_type -> aa8, bootBuiltins -> aba, wpAny_callSpecial?_slot -> abl, backTo -> abo, compareOp -> abr, keywordEach -> abt, IsTupleKey -> abB, wpAny_call_entry -> abD, wpAny_truthy_bool -> abG, FuncData -> abJ, wpAny_seqItems -> abK, wpAny_field -> abL, binaryOp -> abP, mem_of_lookup -> abS, wpAny_pyIter_list -> abU, SetTable -> abZ, sizeLine_eq -> ab4, wpAny_typeNameOfWhole_keyiter -> ab5, attributeBase -> ab7, assignEach -> acb, foldedSetIterable -> acd, wpAny_mono -> acn, swapsWith -> acq, wpAny_Call_Name_kw -> acr, backToKw -> acs, wpAny_setField_rec -> acu, sysModules -> acz, Builtin -> acF, wpAny_typeNameOf_keyiter -> acG, wpAny_setState_of -> acH, codeAny_mono -> acI, tupleKind -> acL, Keyword -> acS, codeAny_builtin -> acW, ofAClassStatement -> ac1, carriedByValue -> ada, wpAny_rule -> adl, wpAny_passesOwn -> adr, behindInMarks -> adt, tupleKind_room_in1 -> adw, wpAny_attempt -> adz, wpAny_call -> adI, sliceBounds -> adJ, call_meets -> adK, wpAny_typeOf -> adP, wpAny_isOneOf_keyiter -> adS, holding -> adW, codeAny -> adX, codeAny_call_builtin -> ad3, wpAny_updateSeq_pair -> ad6, strLen_append -> ad9, wpAny_execs_nil -> aeb, letOwnedTupleGo -> aec, wpAny_loadPart' -> aeg, Operator -> aes, wpAny_fieldsOf -> aeD, wpAny_setField -> aeE, intBits_pow_le -> aeH, Paired -> aeJ, valueAt -> aeT, standAt -> ae5
open PySem.Around renaming under_plainId -> ac7
open PySem.Builtin.Dict renaming updateFrom -> aeV, pairItems -> ae1, showsAll -> afb
open PySem.Builtin.Dict_items renaming ownsTuple -> aea
open PySem.Builtin.Int renaming intBits -> abE
open PySem.Builtin.List renaming listTooLong -> ab2
open PySem.Builtin.Slice renaming slicePlaces -> acw, sliceAdjust -> ac8, sliceApplied -> aeq
open PySem.Builtin.SmallTypes renaming nextOf -> abf, ownedTupleIsFree -> abF, ownedTupleHandOut -> adc
open PySem.Builtin.Str renaming strSliceIndices -> aaK, occurrences -> ads
open PySem.Builtin.Tuple renaming tupleExact -> acD, tupleItemsOf -> aer
open PySem.F renaming slot_dict_keyiterator_next -> abm, slot_tuple_iterator_next -> acm, called_set -> acX, excBase_ValueError -> ac5, args_dict_keyiterator_next_1 -> ac9, entry_dict_keyiterator_next -> adi, slot_list_getattribute -> adn, slot_dict_get -> adR, slot_tuple_mul -> adZ, slot_list_extend -> ad1, slot_int_rmul -> ael, slot_zip_next -> aep
open PySem.Heap renaming get?_push_of_some -> aac, get?_push_size -> aao, lt_size -> aar, size_push -> abW, SameBut -> ab8, get?_update_other -> acj, get?_update_self -> acU
open PySem.Heap.SameBut renaming update -> ach
open PySem.Heap.TracedAtW renaming there -> afg
open PySem.NameKind renaming free -> acY, cell -> acZ
open PySem.Obj renaming mapSeq -> acN, data_mapFields -> adA, putSet -> aff
open PySem.Paired renaming length -> ad7
open PySem.PassesOwn renaming never -> aaX
open PySem.SeqAt.RcAt renaming lists_lengths -> aew
open PySem.SetTable renaming turns -> ab0, sizeAbove -> acP, toList_insertAt -> ado, insertAt_perm -> adF, grown -> aeG
open PySem.SetTable.layClean renaming free -> ack
open PySem.SetTable.probe renaming go -> abV
open PySem.Value renaming ref -> aau, none -> abN, bool -> aca, type -> adG, int -> ae3
open PySem.W renaming Frag -> aab, nsIn -> aan, mg_none_of -> aaO, mg_of -> aaR, kitOne -> aaT, keepIn -> aaZ, findIn -> abg, fnOf -> abh, kia_one -> abz, emptyDict -> abH, instObj -> ace, codeIn -> acp, callWith_K -> acO, excIn -> ac0, plainGet -> ade, makesIn -> adu, hasDictIn -> adH, kitAny -> adN, methodCall_KW -> adO, plainGet_of -> aed, isFn -> aeu, lookIn -> aeB, looks_findIn -> aeC, exmOne -> aeF, methodObj -> aeK, plainOver -> aeM, specialIn -> ae0, takerIn -> ae6, OpenLaw -> ae9
open PySem.W.Looks renaming ld -> ad2
open PySem.Walks renaming list -> afe
open Sum renaming inl -> acQ, inr -> aeR
open True renaming intro -> aco
noncomputable section
set_option compiler.extract_closed false
set_option bootstrap.genMatcherCode false
set_option genSizeOfSpec false
set_option Elab.async false
set_option linter.all false
set_option maxRecDepth 100000
variable {us its bmB bm:List PySem.Value} {u vl vu d' oc u' cv:PySem.Value} {a it f C sl CT xa:PySem.Addr} {o oe ol:PySem.Obj} {α:Type} {P:aay} {w:PySem.World} {h base h':PySem.Heap} {pins' pins:List (PySem.Addr×PySem.Obj)} {N ps ns:List PySem.Str} {i j m n m' wanted ep zq:Nat} {ch fp:List PySem.Addr} {e tg iter e1 e2:PySem.Expr} {pos pos':PySem.Pos} {Q:Bool->aaf->Prop} {c qual z zz q p2 p3 p4:PySem.Str} {s':aaf} {es:Array (Int×PySem.Value)} {op:aes} {hi:Option Int} {p:Array Nat} {body sts:List PySem.Stmt} {fr b2:Bool} {kw:List (PySem.Str×PySem.Value)} {fd:abJ} {outer:List PySem.Env} {sc scope:PySem.Scope} {items:Array PySem.Value} {cl cells:List (PySem.Str×PySem.Addr)} {newId:String} {ow:Array (Option Nat)} {js:List Nat} {way:Int} {gv:Int->Int}
section
open PySem
abbrev Z0 (x:Str):Prop:=(x==("__debug__" :Str))=false
abbrev Zh (x:Str):Prop:=(x==("__classdict__" :Str))=false
abbrev Yx:=Str->Option Value
abbrev Ue:=Addr->Prop
abbrev Ud:=Value->aaf->Prop
theorem T6 {l:List Str} (h:l.Nodup:=by decide+kernel):l.Nodup:=h
end
variable {mA mg:Yx} {B A':Ue}
namespace L2
open PySem PySem.Spec PyProof.Rows
abbrev Key:=Sum Int Str
def Uw:Key->Value->Bool
 | .inl k,v=>Value.isInt k v
 | .inr x,v=>Value.isStrOf x v
def keyH (w:World):Key->Int
 | .inl k=>hashInt k
 | .inr x=>hashStr w x
theorem qi: ∀ {k:Key} {v:Value},Uw k v=true->(∃i t,k=acQ i/\v=ae3 i t)\/(∃x t,k=aeR x/\v=Value.str x t)
 | .inl i,v,h=>by
  obtain ⟨t,e⟩:=Value.isInt_shape (k:=i) (v:=v) h;exact .inl ⟨i,t,rfl,e⟩
 | .inr x,v,h=>by
  obtain ⟨t,e⟩:=Value.isStrOf_shape (x:=x) (v:=v) h;exact .inr ⟨x,t,rfl,e⟩
def vE (i:Int) (t:Tok):Uw (.inl i) (.int i t)=true:=by simp [Uw,Value.isInt]
def vD (x:Str) (t:Tok):Uw (.inr x) (.str x t)=true:=by simp [Uw,Value.isStrOf]
def jfZ (a b:Int):decide ((acQ a:Key)=acQ b)=(a==b):=by
 by_cases e:a=b
 · subst e;simp
 · have h: ¬(acQ a:Key)=acQ b:=fun q=>e (Sum.inl.inj q)
   rw [decide_eq_false h];exact (beq_eq_false_iff_ne.mpr e).symm
def jfW (a b:Str):decide ((aeR a:Key)=aeR b)=decide (a=b):=by
 by_cases e:a=b
 · subst e;simp
 · have h: ¬(aeR a:Key)=aeR b:=fun q=>e (Sum.inr.inj q)
   rw [decide_eq_false h,decide_eq_false e]
def jfY (a:Int) (b:Str):decide ((acQ a:Key)=aeR b)=false:=decide_eq_false (fun q=>nomatch q)
def jfX (a:Str) (b:Int):decide ((aeR a:Key)=acQ b)=false:=decide_eq_false (fun q=>nomatch q)
def jM (prog:aay) (w:World):PySem.KeyKind prog w Key where
 is:=Uw
 hash:=keyH w
 inj:=fun v a b ha hb=>by
  rcases qi ha with ⟨i,t,rfl,rfl⟩| ⟨x,t,rfl,rfl⟩
  · rcases qi hb with ⟨j,u,rfl,e⟩| ⟨y,u,rfl,e⟩
    · injection e with e1 _;rw [e1]
    · exact nomatch e
  · rcases qi hb with ⟨j,u,rfl,e⟩| ⟨y,u,rfl,e⟩
    · exact nomatch e
    · injection e with e1 _;rw [e1]
 byValue:=fun k v h=>by
  rcases qi h with ⟨i,t,rfl,rfl⟩| ⟨x,t,rfl,rfl⟩<;>rfl
 pyHash:=fun hv h=>by
  rcases qi hv with ⟨i,t,rfl,rfl⟩| ⟨x,t,rfl,rfl⟩
  · exact wpAny_pyHash_int h
  · exact wpAny_pyHash_str h
 eqBool:=fun hu hv h=>by
  rcases qi hu with ⟨i,t,rfl,rfl⟩| ⟨x,t,rfl,rfl⟩
  · rcases qi hv with ⟨j,u,rfl,rfl⟩| ⟨y,u,rfl,rfl⟩
    · rw [jfZ] at h;exact wpAny_eqBool_int h
    · rw [jfY] at h;exact SeqAt.EqAt.int_str i t y u _ _ _ _ h
  · rcases qi hv with ⟨j,u,rfl,rfl⟩| ⟨y,u,rfl,rfl⟩
    · rw [jfX] at h;exact SeqAt.EqAt.str_int x t j u _ _ _ _ h
    · rw [jfW] at h;exact wpAny_eqBool_str h
 «strs» :=fun k x t v h=>by
  rcases qi h with ⟨i,u,rfl,e⟩| ⟨y,u,rfl,e⟩
  · exact nomatch e
  · injection e with e1 _;subst e1;cases v<;>rfl
def YT (prog:aay) (w:World) (i:Int) (t:Tok):(jM prog w).is (.inl i) (.int i t)=true:=vE i t
def YS (prog:aay) (w:World) (x:Str) (t:Tok):(jM prog w).is (.inr x) (.str x t)=true:=vD x t
inductive V where
 |non|bl (b:Bool)|int (i:Int)|str (x:Str)|byt (b:Array UInt8)|flt (b:UInt64)|ref (a:Addr)|ty (n:String)
 deriving DecidableEq
def RelV:V->Value->Prop
 | .non,u=>u=abN
 | .bl b,u=>u=aca b
 | .int i,u=> ∃t,u=ae3 i t
 | .str x,u=> ∃t,u=Value.str x t
 | .byt b,u=> ∃t,u=Value.bytes b t
 | .flt b,u=> ∃t,u=Value.float b t
 | .ref a,u=>u=aau a
 | .ty n,u=>u=adG n
abbrev Vals:List V->List Value->Prop:=aeJ RelV
def Vals.length {xs:List V} (r:Vals xs us):xs.length=us.length:=ad7 r
theorem Vals.get: ∀ {xs:List V} {us:List Value} {i:Nat} {x:V},Vals xs us->xs[i]?=some x-> ∃u,us[i]?=some u/\RelV x u
 |_,_,_,_,.nil,e=>by simp at e
 |_,_,0,_,.cons r _,e=>by simp at e;subst e;exact ⟨_,rfl,r⟩
 |_,_,i+1,x,.cons _ t,e=>by
  obtain ⟨u,h1,h2⟩:=Vals.get (i:=i) (x:=x) t (by simpa using e);exact ⟨u,by simpa using h1,h2⟩
theorem Vals.set {x:V} (r:RelV x u): ∀ {xs:List V} {us:List Value} (i:Nat),Vals xs us->Vals (xs.set i x) (us.set i u)
 |_,_,_,.nil=> .nil
 |_,_,0,.cons _ t=> .cons r t
 |_,_,i+1,.cons q t=> .cons q (Vals.set r i t)
theorem Vals.append: ∀ {xs ys:List V} {us ws:List Value},Vals xs us->Vals ys ws->Vals (xs++ys) (us++ws)
 |_,_,_,_,.nil,s=>s
 |_,_,_,_,.cons r t,s=> .cons r (Vals.append t s)
theorem Vals.take: ∀ {xs:List V} {us:List Value} (n:Nat),Vals xs us->Vals (xs.take n) (us.take n)
 |_,_,0,_=> .nil
 |_,_,_+1,.nil=> .nil
 |_,_,n+1,.cons r t=> .cons r (Vals.take n t)
theorem Vals.drop: ∀ {xs:List V} {us:List Value} (n:Nat),Vals xs us->Vals (xs.drop n) (us.drop n)
 |_,_,0,r=>r
 |_,_,_+1,.nil=> .nil
 |_,_,n+1,.cons _ t=>Vals.drop n t
def RelO:Option V->Option Value->Prop
 |some v,some u=>RelV v u
 |none,none=>True
 |_,_=>False
def KV {κ:Type}:List (κ×V)->List (κ×Value)->Prop:=aeJ fun (p:κ×V) (q:κ×Value)=>p.1=q.1/\RelV p.2 q.2
def kV:Key->V
 | .inl i=> .int i
 | .inr x=> .str x
inductive HO where
 |lst (xs:List V)
 |tup (xs:List V)
 |dK (kvs:List (Key×V))|dT (kvs:List (List Key×V))
 |set (S:Int->Bool) (n:Nat)
 |ins (C dx:Addr) (fs:List (Str×V))
 |own (x:Addr)
 |xd (fs:List (Str×V))
 |met (f x:Addr)
 |rng (lo hi:Int)
 |frz (o:Obj) (u:HO)
 |tbl (ps:Array Value)
 |ext (φ:Heap->Prop)
abbrev Hp:=Addr->Option HO
def upd (H:Hp) (a:Addr) (o:HO):Hp:=fun b=>if b=a then some o else H b
def ju {H:Hp} {o:HO}:upd H a o a=some o:=by unfold upd;rw [if_pos rfl]
def jL {H:Hp} {b:Addr} {o:HO} (h:b≠a):upd H a o b=H b:=by unfold upd;rw [if_neg h]
def jg7 {H:Hp} {b:Addr} {o u:HO} (h:H a=some o) (h':H b=some u) (d:o≠u):a≠b:=by
 intro e;subst e;rw [h] at h';exact d (aaH h')
def jK {H:Hp} {b:Addr} {o:HO} (h:H a=some o) (h':H b=none):a≠b:=by
 intro e;subst e;rw [h] at h';cases h'
section
variable (P:aay) (w:World)
def ObjOk (H:Hp) (h:Heap) (a:Addr):HO->Prop
 | .lst xs=>xs.length<=aak/\ ∃(its:List Value) (n:Nat),Vals xs its/\h.get? a=some {cls:= .type "list",data:= .seq its.toArray n}
 | .tup xs=>xs.length<=aak/\ ∃its:List Value,Vals xs its/\IsTup h a its.toArray
 | .dK kvs=>kvs.length<=aak/\(a==acz)=false/\ ∃vs,KV kvs vs/\h.DictOf (jM P w) a vs
 | .dT kvs=>kvs.length<=aak/\(a==acz)=false/\ ∃xs:List (List Key×Addr×Value),
  aeJ (fun (p:List Key×V) (q:List Key×Addr×Value)=>p.1=q.1/\H q.2.1=some (.tup (p.1.map kV))/\RelV p.2 q.2.2) kvs xs/\
  ∃o es ep,h.get? a=some o/\o.ExactDict/\o.data= .dict es ep/\es.toList=xs.map (entryOfKey (acL (jM P w)))/\(xs.map (·.1)).Nodup
 | .set S n=>h.SetOf (intKind P w) a S n
 | .ins C dx fs=>H dx=some (.own a)/\fs.length<=1000/\dx≠a/\h.get? a=some (ace C dx)/\
  ∃mA,h.Ns1 dx mA/\(∀f,RelO (fs.lookup f) (mA f))/\PySem.Within mA (fs.map (·.1))
 | .own _=> ∃o,h.get? a=some o
 | .xd fs=> ∃mA,h.Ns1 a mA/\ ∀f,RelO (fs.lookup f) (mA f)
 | .rng lo hi=> ∃t u v,h.get? a=some {cls:= .type "range",data:= .fields #[.int lo t,.int hi u,.int 1 v]}
 | .frz o u=>h.get? a=some o/\ObjOk H h a u
 | .tbl ps=>h.get? a=some {cls:= .none,data:= .fields ps}
 | .met f x=>h.get? a=some (aeK (.ref f) (.ref x))
 | .ext φ=>φ h/\(∃o,h.get? a=some o)/\ ∀h1 h2:Heap,φ h1->(∀o,h1.get? a=some o->h2.get? a=some o)->φ h2
def HOk (H:Hp) (h:Heap):Prop:= ∀a o,H a=some o->ObjOk P w H h a o
end
section
variable {P:aay} {w:World} {H H':Hp} {h h':Heap} {a:Addr} {o:HO}
def ObjOk.lt (x:ObjOk P w H h a o):a<h.objs.size:=by
 cases o with
 |lst xs=>obtain ⟨_,_,_,_,e⟩:=x;exact aar e
 |tup xs=>obtain ⟨_,_,_,p⟩:=x;exact p.lt
 |dK kvs=>obtain ⟨_,_,_,_,o,_,_,e,_⟩:=x;exact aar e
 |dT kvs=>obtain ⟨_,_,_,_,o,_,_,e,_⟩:=x;exact aar e
 |set S n=>obtain ⟨o,_,_,_,e,_⟩:=x;exact aar e
 |ins C dx fs=>obtain ⟨_,_,_,e,_⟩:=x;exact aar e
 |own y=>obtain ⟨_,e⟩:=x;exact aar e
 |xd fs=>obtain ⟨_,⟨_,_,_,e,_⟩,_⟩:=x;exact aar e
 |rng lo hi=>obtain ⟨_,_,_,e⟩:=x;exact aar e
 |frz ob u=>obtain ⟨e,_⟩:=x;exact aar e
 |tbl ps=>exact aar (show h.get? a=some _ from x)
 |met f y=>exact aar (show h.get? a=some _ from x)
 |ext φ=>obtain ⟨_,⟨_,e⟩,_⟩:=x;exact aar e
theorem aeJ.mapP {β:Type} {F G:α->β->Prop}: ∀ {l₁:List α} {l₂:List β},aeJ F l₁ l₂->(∀a b,F a b->G a b)->aeJ G l₁ l₂
 |_,_,.nil,_=> .nil
 |_,_,.cons r t,f=> .cons (f _ _ r) (aeJ.mapP t f)
def ObjOk.stay (x:ObjOk P w H h a o) (k: ∀b u,(b=a\/H b=some (.own a))->h.get? b=some u->h'.get? b=some u)
  (ho: ∀b,H b=some (.own a)->H' b=some (.own a)) (ht: ∀b xs,H b=some (.tup xs)->H' b=some (.tup xs)):ObjOk P w H' h' a o:=by
 induction o with
 |lst xs=>obtain ⟨z,its,n,r,e⟩:=x;exact ⟨z,its,n,r,k _ _ (.inl rfl) e⟩
 |tup xs=>obtain ⟨z,its,r,ob,e,c⟩:=x;exact ⟨z,its,r,ob,k _ _ (.inl rfl) e,c⟩
 |dK kvs=>obtain ⟨z,y,vs,r,ob,es,ep,e,c⟩:=x;exact ⟨z,y,vs,r,ob,es,ep,k _ _ (.inl rfl) e,c⟩
 |dT kvs=>
  obtain ⟨z,y,xs,r,ob,es,ep,e,c⟩:=x;exact ⟨z,y,xs,aeJ.mapP r fun p q z=>⟨z.1,ht _ _ z.2.1,z.2.2⟩,ob,es,ep,k _ _ (.inl rfl) e,c⟩
 |set S n=>obtain ⟨ob,es,ep,t,e,c⟩:=x;exact ⟨ob,es,ep,t,k _ _ (.inl rfl) e,c⟩
 |ins C dx fs=>
  obtain ⟨d,z,ne,e,mA,⟨od,es,ep,e2,c⟩,r⟩:=x;exact ⟨ho _ d,z,ne,k _ _ (.inl rfl) e,mA,⟨od,es,ep,k _ _ (.inr d) e2,c⟩,r⟩
 |own y=>obtain ⟨ob,e⟩:=x;exact ⟨ob,k _ _ (.inl rfl) e⟩
 |xd fs=>obtain ⟨mA,⟨od,es,ep,e,c⟩,r⟩:=x;exact ⟨mA,⟨od,es,ep,k _ _ (.inl rfl) e,c⟩,r⟩
 |rng lo hi=>obtain ⟨t,u,v,e⟩:=x;exact ⟨t,u,v,k _ _ (.inl rfl) e⟩
 |frz ob u ih=>obtain ⟨e,q⟩:=x;exact ⟨k _ _ (.inl rfl) e,ih q⟩
 |tbl ps=>
  have e:h.get? a=some {cls:= .none,data:= .fields ps}:=x;show h'.get? a=some {cls:= .none,data:= .fields ps};exact k a _ (.inl rfl) e
 |met f y=>
  have e:h.get? a=some (aeK (.ref f) (.ref y)):=x;show h'.get? a=some (aeK (.ref f) (.ref y));exact k a _ (.inl rfl) e
 |ext φ=>obtain ⟨p,⟨o,e⟩,st⟩:=x;exact ⟨st _ _ p fun o q=>k _ _ (.inl rfl) q,⟨o,k _ _ (.inl rfl) e⟩,st⟩
def HOk.lt (x:HOk P w H h) (e:H a=some o):a<h.objs.size:=(x a o e).lt
def HOk.fresh (x:HOk P w H h) (e:h.objs.size<=a):H a=none:=by
 cases q:H a with
 |none=>rfl
 |some u=>exact absurd (aas (x.lt q) e) (abq _)
def HOk.kept (x:HOk P w H h) (k: ∀b u,h.get? b=some u->h'.get? b=some u):HOk P w H h':=fun a o e=>
 (x a o e).stay (fun b u _ q=>k b u q) (fun _ q=>q) fun _ _ q=>q
def HOk.laid (x:HOk P w H h) (k: ∀b u,h.get? b=some u->h'.get? b=some u) (hp:h.objs.size<=a) (new:ObjOk P w (upd H a o) h' a o):HOk P w (upd H a o) h':=fun b u e=>by
 have hn:=x.fresh hp
 by_cases hb:b=a
 · subst hb;rw [ju] at e;cases e;exact new
 · rw [jL hb] at e;exact (x b u e).stay (fun c v _ q=>k c v q) (fun c q=>by rw [jL (jK q hn)];exact q) fun c xs q=>by rw [jL (jK q hn)];exact q
end
def Rd (H:Hp) (a:Addr) (u:HO):Prop:=H a=some u\/ ∃o,H a=some (.frz o u)
def Rd.of {H:Hp} {u:HO} (h:H a=some u):Rd H a u:= .inl h
def Rd.ok {H:Hp} {u:HO} (r:Rd H a u) (x:HOk P w H h):ObjOk P w H h a u:=by
 rcases r with r| ⟨o,r⟩
 · exact x a u r
 · obtain ⟨_,q⟩:=x a _ r;exact q
def Mut:Option HO->Prop
 |some (.lst _)=>True
 |some (.dK _)=>True
 |some (.dT _)=>True
 |some (.set _ _)=>True
 |some (.ins _ _ _)=>True
 |some (.ext _)=>True
 |_=>False
section
variable {P:aay} {w:World} {H:Hp} {h h':Heap} {x e:Addr} {o':HO}
def HOk.write (ok:HOk P w H h) (mu:Mut (H x)) (he:e=x\/H e=some (.own x)) (k: ∀b u,b≠e->h.get? b=some u->h'.get? b=some u) (heo: ∃u,h'.get? e=some u)
   (new:ObjOk P w (upd H x o') h' x o'):HOk P w (upd H x o') h':=fun b u q=>by
 have nown: ∀c y,H c=some (.own y)->c≠x:=fun c y r z=>by subst z;rw [r] at mu;exact mu
 have ntup: ∀c xs,H c=some (.tup xs)->c≠x:=fun c xs r z=>by subst z;rw [r] at mu;exact mu
 by_cases hb:b=x
 · subst hb;rw [ju] at q;cases q;exact new
 · rw [jL hb] at q
   by_cases hbe:b=e
   · have q':H b=some (.own x):=by
       rcases he with z|z
       · exact absurd (hbe.trans z) hb
       · rw [hbe];exact z
     rw [q] at q';cases q';obtain ⟨v,hv⟩:=heo;exact ⟨v,by rw [hbe];exact hv⟩
   · refine (ok b u q).stay (fun c v hc r=>k c v ?_ r) (fun c r=>by rw [jL (nown c b r)];exact r) fun c xs r=>by rw [jL (ntup c xs r)];exact r
     rcases hc with rfl|hc
     · exact hbe
     · rintro rfl;rcases he with z|z
       · exact nown c b hc z
       · rw [hc] at z;cases z;exact hb rfl
end
structure Un (fs ex:List Addr) (H H':Hp) (h h':Heap):Prop where
 keep: ∀b o,h.get? b=some o->H b=none->b∉fs->b∉ex->h'.get? b=some o
 slot: ∀b o,h.get? b=some o->H b=none->b∈fs->b∉ex-> ∃sl,h'.get? b=some {o with slots:=sl}
 free: ∀b o,h.get? b=some o->H b=none->b∉ex->H' b=none
 there: ∀b o,h.get? b=some o->b∉ex-> ∃o',h'.get? b=some o'
 tups: ∀b xs,H b=some (.tup xs)->H' b=some (.tup xs)
 frzs: ∀b o u,H b=some (.frz o u)->H' b=some (.frz o u)
 tbls: ∀b ps,H b=some (.tbl ps)-> ∃more,H' b=some (.tbl (ps++more))
section
variable {fs fs' ex ex':List Addr} {H H1 H2:Hp} {h h1 h2 h':Heap} {a x e:Addr} {o:HO}
def Un.any (u:Un fs ex H H1 h h1) {b:Addr} {ob:Obj} (q:h.get? b=some ob) (n:H b=none) (hx:b∉ex): ∃sl,h1.get? b=some {ob with slots:=sl}:=by
 by_cases hb:b∈fs
 · exact u.slot b ob q n hb hx
 · exact ⟨ob.slots,u.keep b ob q n hb hx⟩
def Un.kept (k: ∀b u,h.get? b=some u->h'.get? b=some u):Un fs ex H H h h':=
 ⟨fun b ob q _ _ _=>k b ob q,fun b ob q _ _ _=>⟨ob.slots,k b ob q⟩,fun _ _ _ n _=>n,fun b ob q _=>⟨ob,k b ob q⟩,fun _ _ q=>q,fun _ _ _ q=>q,fun _ ps q=>⟨#[],by rw [q];simp⟩⟩
def Un.refl:Un fs ex H H h h:=Un.kept fun _ _ q=>q
def Un.laid (k: ∀b u,h.get? b=some u->h'.get? b=some u) (hp:h.objs.size<=a) (hn:H a=none):Un fs ex H (upd H a o) h h' where
 keep:=fun b u q _ _ _=>k b u q
 slot:=fun b u q _ _ _=>⟨u.slots,k b u q⟩
 free:=fun b u q n _=>by rw [jL (aaF (aas (aar q) hp))];exact n
 there:=fun b u q _=>⟨u,k b u q⟩
 tups:=fun b xs q=>by rw [jL (jK q hn)];exact q
 frzs:=fun b u xs q=>by rw [jL (jK q hn)];exact q
 tbls:=fun b ps q=>⟨#[],by rw [jL (jK q hn),q];simp⟩
def Un.write (mu:Mut (H x)) (he:e=x\/H e=some (.own x)) (k: ∀b u,b≠e->h.get? b=some u->h'.get? b=some u) (heo: ∃u,h'.get? e=some u):Un fs ex H (upd H x o) h h':=by
 have hx: ∀b,H b=none->b≠x:=fun b n z=>by subst z;rw [n] at mu;exact mu
 have hb: ∀b,H b=none->b≠e:=fun b n z=>by
   subst z;rcases he with r|r
   · exact hx b n r
   · rw [n] at r;cases r
 have hm: ∀b u,H b=some u-> ¬Mut (some u)->b≠x:=fun b u q nm z=>by subst z;rw [q] at mu;exact nm mu
 refine ⟨fun b u q n _ _=>k b u (hb b n) q,fun b u q n _ _=>⟨u.slots,k b u (hb b n) q⟩,fun b u q n _=>by rw [jL (hx b n)];exact n,fun b u q _=>?_,
   fun b xs q=>by rw [jL (hm b _ q fun z=>z)];exact q,fun b u xs q=>by rw [jL (hm b _ q fun z=>z)];exact q,fun b ps q=>⟨#[],by rw [jL (hm b _ q fun z=>z),q];simp⟩⟩
 by_cases hbe:b=e
 · subst hbe;exact heo
 · exact ⟨u,k b u hbe q⟩
end
def trk (h:Heap) (H:Hp):List Addr:=(aa5 h.objs.size).filter fun a=>(H a).isSome
def hidT (h:Heap) (H:Hp):Heap:=PySem.W.hideAll h (trk h H)
def vQ (h:Heap) (H:Hp):(hidT h H).objs.size=h.objs.size:=PySem.W.hideAll_size _ _
def jbk {H:Hp} {b:Addr} (e:h.get? b=some o) (n:H b=none):(hidT h H).get? b=some o:=
 PySem.W.hideAll_get _ e fun hm=>by
  have q:(H b).isSome=true:=(List.mem_filter.mp hm).2;rw [n] at q;simp at q
def jdD {H:Hp} {b:Addr} (e:(hidT h H).get? b=some o):h.get? b=some o/\H b=none:=by
 have e':h.get? b=some o:=PySem.W.of_hideAll (trk h H) e;refine ⟨e',?_⟩
 cases q:H b with
 |none=>rfl
 |some x=>
  have hm:b∈trk h H:=List.mem_filter.mpr ⟨aaM.mpr (aar e'),by simp [q]⟩;have z:(hidT h H).get? b=none:=PySem.W.hideAll_none (trk h H) hm;rw [z] at e;cases e
def jeL (g h:Heap) (L:Addr):List (Addr×Obj):=(aa5 h.objs.size).filterMap fun a=>if a=L\/(g.get? a).isSome=true then none else (h.get? a).map fun o=>(a,o)
def rest (g h:Heap) (L d:Addr):List (Addr×Obj):=(jeL g h L).filter fun p=>decide (p.1≠d)
structure Mod (K:aab) (mg:Yx) (base:Heap):Prop where
 kin:K.In base
 glob:base.Ns aam mg
 blt: ∃mb,base.Ns builtinsNs mb/\ ∀x:Str,x≠ "__name__" ->mb x=aba x
 nolimit:base.NoLimit
structure Cx where
 prog:aay
 w:World
 K:aab
 mg:Str->Option Value
 base:Heap
 A:aaV
 N:List Str
 s₀:aaf
 H₀:Hp
 env:Env
 outer:List Env
 stack:List Env
 ex:List Addr
 fn:Str->Bool
 calm:Bool
 pn:List (Addr×Obj)
 xe:Value->aaf->Prop
abbrev T9 (X:Cx) (e:Expr) (es:List Expr):Prop:=aai (e::es) X.env=(false,eval e X.env)::aai es X.env
abbrev T8 (X:Cx) (p:Pos) (es:List Expr):Prop:=(abo p (aai es X.env)).any (·.1)=false
abbrev T7 (X:Cx) (x:Str):Prop:=X.fn x=true\/X.env.scope.names.lookup x=some .local
def frs (l:List Env):List Addr:=l.filterMap (·.frame)
abbrev Cx.fs (X:Cx):List Addr:=frs X.outer
def Vis (sc:Scope) (x:Str):Prop:=sc.names.lookup x=some .local\/sc.names.lookup x=some .cell\/sc.names.lookup x=some .free
def Loc (sc:Scope) (x:Str):Prop:=sc.names.lookup x=some .local\/sc.names.lookup x=some .cell
def Look (env:Env) (h:Heap) (m:Yx) (x:Str) (u:Value):Prop:=
 (env.kindOf x=some .local/\m x=some u)\/((env.kindOf x=some .cell\/env.kindOf x=some .free)/\ ∃c,env.cells.lookup x=some c/\h.IsCell c (some u))
structure Cx.Ok (X:Cx):Prop where
 mod:Mod X.K X.mg X.base
 kind:X.env.scope.kind= .function
 glob:X.env.globals=aam
 blt:X.env.builtins=builtinsNs
 above:X.s₀.heap.objs.size<=X.env.locals
 inj: ∀x y c,X.env.cells.lookup x=some c->X.env.cells.lookup y=some c->x=y
 has: ∀x,(X.env.kindOf x=some .cell\/X.env.kindOf x=some .free)-> ∃c,X.env.cells.lookup x=some c
 cab: ∀x c,X.fn x=true->X.env.cells.lookup x=some c->X.s₀.heap.objs.size<=c
 hd:X.calm=true->X.A.handled=none
 frames:X.A.frames=some X.stack
 stk:X.stack=X.outer\/(X.stack=X.env::X.outer/\X.env.frame=some X.env.locals)
 exf: ∀b∈X.ex,b≠X.env.locals/\ ∀x c,X.env.cells.lookup x=some c->c≠b
 bs: ∀b o,X.base.get? b=some o->X.s₀.heap.get? b=some o/\X.H₀ b=none
 bsz:X.base.objs.size<=X.s₀.heap.objs.size
 noex: ∀b o,X.base.get? b=some o->b∉X.ex
 exfs: ∀b∈X.ex,b∉X.fs
 funs:X.s₀.heap.FunFrames X.base X.outer
 frf: ∀b∈X.fs,X.H₀ b=none
structure Inv (X:Cx) (pins:List (Addr×Obj)) (σ:List (Option V)) (H:Hp) (s:aaf):Prop where
 ok:X.Ok
 os:s.os=X.s₀.os
 bare:aeS s.gens
 base:Un X.fs X.ex X.H₀ H X.s₀.heap s.heap
 loc: ∃m,s.heap.Ns X.env.locals m/\ ∀(i:Nat) (x:Str) (v:V),X.N[i]?=some x->σ[i]?=some (some v)->Vis X.env.scope x-> ∃u,RelV v u/\Look X.env s.heap m x u
 cell: ∀x c,X.env.cells.lookup x=some c-> ∃v,s.heap.IsCell c v
 free:H X.env.locals=none
 freeC: ∀x c,X.env.cells.lookup x=some c->H c=none
 pin: ∀p∈X.pn++pins,s.heap.get? p.1=some p.2/\H p.1=none/\p.1≠X.env.locals/\p.1∉X.fs/\ ∀v,p.2.data≠ .cell v
 hok:HOk X.prog X.w H s.heap
 len:σ.length=X.N.length
section
variable {X:Cx} {pins:List (Addr×Obj)} {σ:List (Option V)} {H H':Hp} {s:aaf} {h':Heap}
def Cx.Ok.nofr (ok:X.Ok) {b:Addr} (e:X.base.get? b=some o):b∉X.fs:=fun hb=>by
 have:=(ok.funs.mem hb).1;rw [e] at this;cases this
def Inv.bs (I:Inv X pins σ H s): ∀b o,X.base.get? b=some o->s.heap.get? b=some o/\H b=none:=fun b o e=>
 ⟨I.base.keep b o (I.ok.bs b o e).1 (I.ok.bs b o e).2 (I.ok.nofr e) (I.ok.noex b o e),I.base.free b o (I.ok.bs b o e).1 (I.ok.bs b o e).2 (I.ok.noex b o e)⟩
def Inv.bk (I:Inv X pins σ H s): ∀b o,X.base.get? b=some o->s.heap.get? b=some o:=fun b o e=>(I.bs b o e).1
def Inv.mod (I:Inv X pins σ H s):Mod X.K X.mg X.base:=I.ok.mod
def Inv.kIn (I:Inv X pins σ H s):X.K.In s.heap:=I.ok.mod.kin.keeps I.bk
def Inv.lt (I:Inv X pins σ H s):X.env.locals<s.heap.objs.size:=let ⟨_,hn,_⟩:=I.loc;hn.lt
def Inv.sz (I:Inv X pins σ H s):X.s₀.heap.objs.size<=s.heap.objs.size:=aaw I.ok.above (ae4 I.lt)
def Inv.nofs (I:Inv X pins σ H s) (h:s.heap.objs.size<=a):a∉X.fs:=fun hb=>by
 obtain ⟨_,o,ho,_⟩:=I.ok.funs.mem hb;exact absurd (aas (aar ho) (aaw I.sz h)) (abq _)
def Inv.cne (I:Inv X pins σ H s): ∀x c,X.env.cells.lookup x=some c->c≠X.env.locals:=fun x c e z=>by
 obtain ⟨v,o,ho,hd⟩:=I.cell x c e;obtain ⟨m,⟨o',es,ep,ho',hd',_⟩,_⟩:=I.loc;rw [z,ho'] at ho;cases ho;rw [hd'] at hd;cases hd
def Inv.funs (I:Inv X pins σ H s):s.heap.FunFrames X.base X.outer:=by
 have all: ∀(l:List Env),(∀b∈frs l,b∈X.fs)->X.s₀.heap.FunFrames X.base l->s.heap.FunFrames X.base l:=by
  intro l
  induction l with
  |nil=>intro _ _;trivial
  |cons env r ih=>
   intro hs hl;obtain ⟨hk,⟨L,o,hf,hn,ho,hd⟩,hr⟩:=hl;have hL:L∈X.fs:=hs L (by unfold frs;rw [acJ,hf];exact aap);obtain ⟨sl,e⟩:=I.base.slot L o ho (I.ok.frf L hL) hL fun z=>I.ok.exfs L z hL
   exact ⟨hk,⟨L,_,hf,hn,e,hd⟩,ih (fun b hb=>hs b (by unfold frs;rw [acJ,hf];exact aal _ hb)) hr⟩
 exact all X.outer (fun _ hb=>hb) I.ok.funs
def Inv.stack (I:Inv X pins σ H s):s.heap.FunFrames X.base X.stack:=by
 rcases I.ok.stk with e| ⟨e,hf⟩
 · rw [e];exact I.funs
 · rw [e];obtain ⟨m,hn,_⟩:=I.loc;refine .cons (by rw [I.ok.kind];decide) hf hn ?_ I.funs;exact Heap.get?_none_of_le (aaw I.ok.bsz I.ok.above)
def Inv.stkSub (I:Inv X pins σ H s): ∀b∈frs X.stack,b∈X.env.locals::X.fs:=fun b hb=>by
 rcases I.ok.stk with e| ⟨e,hf⟩
 · rw [e] at hb;exact aal _ hb
 · rw [e] at hb;unfold frs at hb;rw [acJ,hf] at hb;exact hb
def Inv.stkFree (I:Inv X pins σ H s): ∀b∈frs X.stack,H b=none:=fun b hb=>by
 rcases aaG.mp (I.stkSub b hb) with e|hb
 · rw [e];exact I.free
 · obtain ⟨_,o,ho,_⟩:=I.ok.funs.mem hb;exact I.base.free b o ho (I.ok.frf b hb) fun z=>I.ok.exfs b z hb
def Inv.step {g':Array GenState} {t':Nat} {d':Drawn} {ch:List Addr} (I:Inv X pins σ H s)
   (hch: ∀b∈ch,(b∈X.ex\/X.s₀.heap.objs.size<=b)/\b≠X.env.locals/\(∀x c,X.env.cells.lookup x=some c->c≠b)/\ ∀p∈X.pn++pins,p.1≠b)
   (keep: ∀b o,b≠X.env.locals->b∉X.fs->b∉ch->s.heap.get? b=some o->H b=none->h'.get? b=some o)
   (slot: ∀b o,b≠X.env.locals->b∈X.fs->b∉ch->s.heap.get? b=some o->H b=none-> ∃sl,h'.get? b=some {o with slots:=sl}) (free: ∀b o,b∉ch->s.heap.get? b=some o->H b=none->H' b=none)
   (there: ∀b o,b∉ch->s.heap.get? b=some o-> ∃o',h'.get? b=some o')
   (tups: ∀b xs,H b=some (.tup xs)->H' b=some (.tup xs)) (frzs: ∀b o u,H b=some (.frz o u)->H' b=some (.frz o u)) (tbls: ∀b ps,H b=some (.tbl ps)-> ∃more,H' b=some (.tbl (ps++more)))
   (ns: ∀m,s.heap.Ns X.env.locals m->h'.Ns X.env.locals m) (hok:HOk X.prog X.w H' h') (hg:aeS g'):
   Inv X pins σ H' {s with heap:=h',gens:=g',drawn:=d',toks:=t'}:=by
 have neL: ∀b o,X.s₀.heap.get? b=some o->b≠X.env.locals:=fun b o e=>aaF (aas (aar e) I.ok.above)
 have neC: ∀b o,X.s₀.heap.get? b=some o->b∉X.ex->b∉ch:=fun b o e hx hb=>by
   rcases (hch b hb).1 with z|z
   · exact hx z
   · exact absurd (aas (aar e) z) (abq _)
 have cellK: ∀x c,X.env.cells.lookup x=some c-> ∀v,s.heap.IsCell c v->h'.IsCell c v:=fun x c e v ⟨o,ho,hd⟩=>by
   have nch:c∉ch:=fun z=>(hch c z).2.2.1 x c e rfl
   by_cases hc:c∈X.fs
   · obtain ⟨sl,q⟩:=slot c o (I.cne x c e) hc nch ho (I.freeC x c e);exact ⟨_,q,hd⟩
   · exact ⟨o,keep c o (I.cne x c e) hc nch ho (I.freeC x c e),hd⟩
 refine ⟨I.ok,I.os,hg,⟨fun b o e n hb hx=>?_,fun b o e n hb hx=>?_,fun b o e n hx=>?_,fun b o e hx=>?_,fun b xs e=>tups b xs (I.base.tups b xs e),fun b o xs e=>frzs b o xs (I.base.frzs b o xs e),fun b ps e=>?_⟩,?_,fun x c e=>?_,?_,fun x c e=>?_,fun p hp=>?_,hok,I.len⟩
 · exact keep b o (neL b o e) hb (neC b o e hx) (I.base.keep b o e n hb hx) (I.base.free b o e n hx)
 · obtain ⟨sl,e1⟩:=I.base.slot b o e n hb hx;obtain ⟨sl',e2⟩:=slot b _ (neL b o e) hb (neC b o e hx) e1 (I.base.free b o e n hx);exact ⟨sl',e2⟩
 · obtain ⟨o',e1⟩:=I.base.there b o e hx;exact free b o' (neC b o e hx) e1 (I.base.free b o e n hx)
 · obtain ⟨o',e1⟩:=I.base.there b o e hx;exact there b o' (neC b o e hx) e1
 · obtain ⟨m1,e1⟩:=I.base.tbls b ps e;obtain ⟨m2,e2⟩:=tbls b _ e1;exact ⟨m1++m2,by rw [e2,Array.append_assoc]⟩
 · obtain ⟨m,hn,hl⟩:=I.loc;refine ⟨m,ns m hn,fun i x v e1 e2 e3=>?_⟩;obtain ⟨u,r,l⟩:=hl i x v e1 e2 e3;refine ⟨u,r,?_⟩;rcases l with l| ⟨k,c,e,z⟩
   · exact .inl l
   · exact .inr ⟨k,c,e,cellK x c e _ z⟩
 · obtain ⟨v,z⟩:=I.cell x c e;exact ⟨v,cellK x c e v z⟩
 · obtain ⟨m,⟨o,_,_,ho,_⟩,_⟩:=I.loc;exact free _ o (fun z=>(hch _ z).2.1 rfl) ho I.free
 · obtain ⟨v,o,ho,hd⟩:=I.cell x c e;exact free c o (fun z=>(hch c z).2.2.1 x c e rfl) ho (I.freeC x c e)
 · obtain ⟨e,n,ne,nf,d⟩:=I.pin p hp;have nch:p.1∉ch:=fun z=>(hch p.1 z).2.2.2 p hp rfl
   exact ⟨keep p.1 p.2 ne nf nch e n,free p.1 p.2 nch e n,ne,nf,d⟩
def Inv.un {t':Nat} (I:Inv X pins σ H s) (u:Un X.fs [] H H' s.heap h') (hok:HOk X.prog X.w H' h'):Inv X pins σ H' {s with heap:=h',toks:=t'}:=by
 obtain ⟨m,⟨o,es,ep,ho,r⟩,_⟩:=id I.loc;obtain ⟨sl,hL⟩:=u.any ho I.free (by simp)
 exact I.step (g':=s.gens) (d':=s.drawn) (ch:=[]) (fun _ z=>nomatch z) (fun b o _ hb _ e n=>u.keep b o e n hb (by simp)) (fun b o _ hb _ e n=>u.slot b o e n hb (by simp)) (fun b o _ e n=>u.free b o e n (by simp)) (fun b o _ e=>u.there b o e (by simp)) u.tups u.frzs u.tbls (fun m' hm=>by
  obtain ⟨o',es',ep',ho',r'⟩:=hm;rw [ho] at ho';cases ho'
  exact ⟨_,es',ep',hL,r'⟩) hok I.bare
def Inv.call {g':Array GenState} {t':Nat} {d':Drawn} {ch:List Addr} (I:Inv X pins σ H s) (u:Un (frs X.stack) ch H H' s.heap h') (hok:HOk X.prog X.w H' h') (hg:aeS g')
  (hch: ∀b∈ch,(b∈X.ex\/X.s₀.heap.objs.size<=b)/\b≠X.env.locals/\(∀x c,X.env.cells.lookup x=some c->c≠b)/\ ∀p∈X.pn++pins,p.1≠b):
  Inv X pins σ H' {s with heap:=h',gens:=g',drawn:=d',toks:=t'}:=by
 obtain ⟨m,⟨o,es,ep,ho,r⟩,_⟩:=id I.loc;obtain ⟨sl,hL⟩:=u.any ho I.free fun z=>(hch _ z).2.1 rfl
 exact I.step (ch:=ch) hch (fun b o hL hb hc e n=>u.keep b o e n (fun z=>(aaG.mp (I.stkSub b z)).elim hL hb) hc) (fun b o _ _ hc e n=>u.any e n hc) (fun b o hc e n=>u.free b o e n hc) (fun b o hc e=>u.there b o e hc) u.tups u.frzs u.tbls (fun m' hm=>by
  obtain ⟨o',es',ep',ho',r'⟩:=hm;rw [ho] at ho';cases ho'
  exact ⟨_,es',ep',hL,r'⟩) hok hg
def Inv.turned {t':Nat} (I:Inv X pins σ H s) (k: ∀b o,b≠it->s.heap.get? b=some o->h'.get? b=some o) (hn:H it=none) (hL:it≠X.env.locals)
   (h1:it∈X.ex\/X.s₀.heap.objs.size<=it) (h2: ∀x c,X.env.cells.lookup x=some c->c≠it) (h3: ∀p∈X.pn++pins,p.1≠it):Inv X pins σ H {s with heap:=h',toks:=t'}:=by
 have nit: ∀b u,H b=some u->b≠it:=fun b u e z=>by rw [z,hn] at e;cases e
 refine I.step (g':=s.gens) (d':=s.drawn) (ch:=[it]) (fun b hb=>?_) (fun b o _ _ hc e _=>k b o (fun z=>hc (by simp [z])) e) (fun b o _ _ hc e _=>⟨o.slots,k b o (fun z=>hc (by simp [z])) e⟩) (fun _ _ _ _ n=>n)
   (fun b o hc e=>⟨o,k b o (fun z=>hc (by simp [z])) e⟩) (fun _ _ e=>e) (fun _ _ _ e=>e) (fun b ps e=>⟨#[],by rw [e];simp⟩) (fun m hm=>?_) (fun b u e=>?_) I.bare
 · have e:b=it:=by simpa using hb
   subst e;exact ⟨h1,hL,h2,h3⟩
 · obtain ⟨o,es,ep,ho,r⟩:=hm;exact ⟨o,es,ep,k _ o (adh hL) ho,r⟩
 · refine (I.hok b u e).stay (fun c v hc q=>k c v ?_ q) (fun _ q=>q) fun _ _ q=>q
   rcases hc with z|z
   · rw [z];exact nit b u e
   · exact nit c _ z
def Inv.tok (I:Inv X pins σ H s) (t:Nat):Inv X pins σ H {s with toks:=t}:=I.un (h':=s.heap) (t':=t) Un.refl I.hok
def Inv.kept {t':Nat} (I:Inv X pins σ H s) (k: ∀b u,s.heap.get? b=some u->h'.get? b=some u):Inv X pins σ H {s with heap:=h',toks:=t'}:=I.un (Un.kept k) (I.hok.kept k)
def Inv.laid {a:Addr} {o:HO} {t':Nat} (I:Inv X pins σ H s) (k: ∀b u,s.heap.get? b=some u->h'.get? b=some u) (hp:s.heap.objs.size<=a) (new:ObjOk X.prog X.w (upd H a o) h' a o):
 Inv X pins σ (upd H a o) {s with heap:=h',toks:=t'}:=I.un (Un.laid k hp (I.hok.fresh hp)) (I.hok.laid k hp new)
def Inv.write {x e:Addr} {o:HO} {t':Nat} (I:Inv X pins σ H s) (mu:Mut (H x)) (he:e=x\/H e=some (.own x)) (k: ∀b u,b≠e->s.heap.get? b=some u->h'.get? b=some u) (heo: ∃u,h'.get? e=some u)
 (new:ObjOk X.prog X.w (upd H x o) h' x o):Inv X pins σ (upd H x o) {s with heap:=h',toks:=t'}:=I.un (Un.write mu he k heo) (I.hok.write mu he k heo new)
def Inv.pins_of (I:Inv X pins σ H s) (h: ∀p∈pins',s.heap.get? p.1=some p.2/\H p.1=none/\p.1≠X.env.locals/\p.1∉X.fs/\ ∀v,p.2.data≠ .cell v):Inv X pins' σ H s:=
 ⟨I.ok,I.os,I.bare,I.base,I.loc,I.cell,I.free,I.freeC,fun p hp=>(aa1.mp hp).elim (fun z=>I.pin p (abi _ z)) (h p),I.hok,I.len⟩
def Wv (hN:N.Nodup) {x:Str} (a:N[i]?=some x) (b:N[j]?=some x):i=j:=by
 obtain ⟨h1,e1⟩:=aav.mp a;obtain ⟨h2,e2⟩:=aav.mp b;exact (aeW hN).mp (e1.trans e2.symm)
def Xb {M:Model} {A:aaV} {E:Ud} {x:Str} {v:V} {Q:Unit->aaf->Prop} (I:Inv X pins σ H s) (hN:X.N.Nodup) (hi:X.N[i]?=some x) (hx:Loc X.env.scope x) (r:RelV v u)
   (h: ∀s',Inv X pins (σ.set i (some v)) H s'->(∃a,ab8 a s.heap s'.heap/\(a=X.env.locals\/X.env.cells.lookup x=some a))->Q () s') (hf:T7 X x:=by first|exact .inl rfl|exact .inr rfl|assumption):wpAny M A (storeName X.env x u) Q E s:=by
 obtain ⟨m,hn,hl⟩:=id I.loc;have hcls:(X.env.scope.kind== .class|| (X.env.scope.kind== .module&&X.env.locals !=X.env.globals))=false:=by rw [I.ok.kind];rfl
 have hiσ:i<σ.length:=by rw [I.len];exact (aav.mp hi).1
 have cne:=I.cne
 have tracked: ∀ {a:Addr} {h':Heap},(∃o,s.heap.get? a=some o/\H a=none)->ab8 a s.heap h'->HOk X.prog X.w H h':=fun {a h'} ha hs b ob e=>by
   obtain ⟨_,_,hfree⟩:=ha;refine (I.hok b ob e).stay (fun c w' hc q=>(hs.2 c ?_).trans q) (fun _ q=>q) fun _ _ q=>q
   rintro rfl;rcases hc with rfl|hc
   · rw [hfree] at e;cases e
   · rw [hfree] at hc;cases hc
 rcases hx with hk|hk
 · refine wpAny_storeName_local hk hn (fun h' hn' hs=>?_) hcls;obtain ⟨oL,_,_,hoL,_⟩:=id hn;refine h _ ⟨I.ok,I.os,I.bare,⟨fun b o e n hb hx=>?_,fun b o e n hb hx=>?_,I.base.free,fun b o e hx=>?_,I.base.tups,I.base.frzs,I.base.tbls⟩,⟨_,hn',fun j y v' e1 e2 e3=>?_⟩,fun y c e=>?_,I.free,I.freeC,fun p hp=>?_,tracked ⟨oL,hoL,I.free⟩ hs,by simpa using I.len⟩ ⟨_,hs,.inl rfl⟩
   · exact (hs.2 b (aaF (aas (aar e) I.ok.above))).trans (I.base.keep b o e n hb hx)
   · obtain ⟨sl,e1⟩:=I.base.slot b o e n hb hx;exact ⟨sl,(hs.2 b (aaF (aas (aar e) I.ok.above))).trans e1⟩
   · obtain ⟨o',e1⟩:=I.base.there b o e hx;exact ⟨o',(hs.2 b (aaF (aas (aar e) I.ok.above))).trans e1⟩
   · by_cases hj:j=i
     · subst hj;rw [hi] at e1;cases e1;rw [abp hiσ] at e2;cases e2;exact ⟨u,r,.inl ⟨hk,by simp⟩⟩
     · rw [ac6 (adh hj)] at e2;obtain ⟨u',r',q⟩:=hl j y v' e1 e2 e3;refine ⟨u',r',?_⟩;rcases q with ⟨k,e⟩| ⟨k,c,e,z⟩
       · refine .inl ⟨k,?_⟩;have:y≠x:=fun e=>hj (Wv hN e1 (e▸hi))
         simp [this,e]
       · exact .inr ⟨k,c,e,z.sameBut hs (cne y c e)⟩
   · obtain ⟨w',z⟩:=I.cell y c e;exact ⟨w',z.sameBut hs (cne y c e)⟩
   · obtain ⟨e,n,ne,nf,d⟩:=I.pin p hp;exact ⟨(hs.2 p.1 ne).trans e,n,ne,nf,d⟩
 · have hfn:X.fn x=true:=by
     rcases hf with z|z
     · exact z
     · rw [z] at hk;cases hk
   obtain ⟨c,hc⟩:=I.ok.has x (.inl hk);obtain ⟨w',z⟩:=I.cell x c hc;refine wpAny_storeName_cell I.ok.kind hk hc z (fun h' hc' hs=>?_);obtain ⟨oc,hoc,hocd⟩:=id z;refine h {s with heap:=h'} ⟨I.ok,I.os,I.bare,⟨fun b o e n hb hx=>?_,fun b o e n hb hx=>?_,I.base.free,fun b o e hx=>?_,I.base.tups,I.base.frzs,I.base.tbls⟩,⟨m,hn.sameBut hs (adh (cne x c hc)),fun j y v' e1 e2 e3=>?_⟩,fun y c' e=>?_,I.free,I.freeC,fun p hp=>?_,tracked ⟨oc,hoc,I.freeC x c hc⟩ hs,by simpa using I.len⟩ ⟨c,hs,.inr hc⟩
   · exact (hs.2 b (aaF (aas (aar e) (I.ok.cab x c hfn hc)))).trans (I.base.keep b o e n hb hx)
   · obtain ⟨sl,e1⟩:=I.base.slot b o e n hb hx;exact ⟨sl,(hs.2 b (aaF (aas (aar e) (I.ok.cab x c hfn hc)))).trans e1⟩
   · obtain ⟨o',e1⟩:=I.base.there b o e hx;exact ⟨o',(hs.2 b (aaF (aas (aar e) (I.ok.cab x c hfn hc)))).trans e1⟩
   · by_cases hj:j=i
     · subst hj;rw [hi] at e1;cases e1;rw [abp hiσ] at e2;cases e2;exact ⟨u,r,.inr ⟨.inl hk,c,hc,hc'⟩⟩
     · rw [ac6 (adh hj)] at e2;obtain ⟨u',r',q⟩:=hl j y v' e1 e2 e3;refine ⟨u',r',?_⟩;rcases q with q| ⟨k,c',e,z'⟩
       · exact .inl q
       · refine .inr ⟨k,c',e,z'.sameBut hs ?_⟩;rintro rfl;exact hj (Wv hN e1 (I.ok.inj _ _ _ e hc▸hi))
   · by_cases hcc:c'=c
     · subst hcc;exact ⟨_,hc'⟩
     · obtain ⟨w2,z2⟩:=I.cell y c' e;exact ⟨w2,z2.sameBut hs hcc⟩
   · obtain ⟨e,n,ne,nf,d⟩:=I.pin p hp;refine ⟨(hs.2 p.1 ?_).trans e,n,ne,nf,d⟩;intro q;rw [q,hoc] at e;have q':oc=p.2:=aaH e;exact d w' (by rw [←q'];exact hocd)
def Qj {M:Model} {A:aaV} {E:Ud} {x:Str} {v:V} {Q:Unit->aaf->Prop} (I:Inv X pins σ H s) (hN:X.N.Nodup) (hi:X.N[i]?=some x) (hx:Loc X.env.scope x) (r:RelV v u)
  (h: ∀s',Inv X pins (σ.set i (some v)) H s'->Q () s') (hf:T7 X x:=by first|exact .inl rfl|exact .inr rfl|assumption):wpAny M A (storeName X.env x u) Q E s:=
 Xb I hN hi hx r (fun s' I' _=>h s' I') hf
def Inv.call' {s':aaf} (I:Inv X pins σ H s) (ho:s'.os=s.os) (u:Un (frs X.stack) ch H H' s.heap s'.heap) (hok:HOk X.prog X.w H' s'.heap) (hg:aeS s'.gens)
  (hch: ∀b∈ch,(b∈X.ex\/X.s₀.heap.objs.size<=b)/\b≠X.env.locals/\(∀x c,X.env.cells.lookup x=some c->c≠b)/\ ∀p∈X.pn++pins,p.1≠b):Inv X pins σ H' s':=by
 obtain ⟨h',g',d',t',o'⟩:=s';have e:o'=s.os:=ho;subst e;exact I.call (g':=g') (t':=t') (d':=d') u hok hg hch
end
abbrev XK:=Value->Option Addr->Hp->Prop
abbrev St:=List (Option V)
abbrev VK:=V->Hp->Prop
abbrev TE:=St->Hp->VK->Prop
abbrev TT:=St->Hp->(Bool->Hp->Prop)->Prop
abbrev TA:=St->Hp->(List V->Hp->Prop)->Prop
structure Ends where
 nx:St->Hp->Prop
 rt:VK
 bk:St->Hp->Prop:=fun _ _=>False
 ct:St->Hp->Prop:=fun _ _=>False
abbrev TS:=Ends->St->Hp->Prop
def EP (X:Cx) (pins:List (Addr×Obj)) (σ:St) (Q:VK) (u:Value) (s':aaf):Prop:= ∃v H',Inv X pins σ H' s'/\RelV v u/\Q v H'
def TP (X:Cx) (pins:List (Addr×Obj)) (σ:St) (Q:Bool->Hp->Prop) (b:Bool) (s':aaf):Prop:= ∃H',Inv X pins σ H' s'/\Q b H'
def AP (X:Cx) (pins:List (Addr×Obj)) (σ:St) (Q:List V->Hp->Prop) (us:List Value) (s':aaf):Prop:= ∃vs H',Inv X pins σ H' s'/\Vals vs us/\Q vs H'
def SP (X:Cx) (pins:List (Addr×Obj)) (D:Ends) (f:Flow) (s':aaf):Prop:=
 match f with
 | .next=> ∃σ' H',Inv X pins σ' H' s'/\D.nx σ' H'
 | .brk=> ∃σ' H',Inv X pins σ' H' s'/\D.bk σ' H'
 | .cont=> ∃σ' H',Inv X pins σ' H' s'/\D.ct σ' H'
 | .ret u=> ∃v σ' H',Inv X pins σ' H' s'/\RelV v u/\D.rt v H'
def PE (X:Cx) (e:Expr) (t:TE):Prop:=
 ∀(pins:List (Addr×Obj)) (s:aaf) (σ:St) (H:Hp) (Q:VK),Inv X pins σ H s->t σ H Q->wpAny (model X.prog X.w) X.A (eval e X.env) (EP X pins σ Q) X.xe s
def PT (X:Cx) (e:Expr) (t:TT):Prop:=
 ∀(pins:List (Addr×Obj)) (s:aaf) (σ:St) (H:Hp) (Q:Bool->Hp->Prop),Inv X pins σ H s->t σ H Q->wpAny (model X.prog X.w) X.A (isTrue e X.env (eval e X.env)) (TP X pins σ Q) X.xe s
def PW (X:Cx) (e:Expr) (t:TT):Prop:=
 ∀(whole:Sem Value) (pins:List (Addr×Obj)) (s:aaf) (σ:St) (H:Hp) (Q:Bool->Hp->Prop),Inv X pins σ H s->t σ H Q->wpAny (model X.prog X.w) X.A (isTrue e X.env whole) (TP X pins σ Q) X.xe s
def PW.pt {X:Cx} {t:TT} (h:PW X e t):PT X e t:=h _
def PA (X:Cx) (es:List Expr) (t:TA):Prop:=
 ∀(pos:Pos) (pins:List (Addr×Obj)) (s:aaf) (σ:St) (H:Hp) (Q:List V->Hp->Prop),Inv X pins σ H s->t σ H Q->wpAny (model X.prog X.w) X.A (spliced (abo pos (aai es X.env))) (AP X pins σ Q) X.xe s
def PS (X:Cx) (st:Stmt) (t:TS):Prop:=
 ∀(pins:List (Addr×Obj)) (s:aaf) (σ:St) (H:Hp) (D:Ends),Inv X pins σ H s->t D σ H->wpAny (model X.prog X.w) X.A (exec st X.env) (SP X pins D) X.xe s
def PSs (X:Cx) (st:List Stmt) (t:TS):Prop:=
 ∀(pins:List (Addr×Obj)) (s:aaf) (σ:St) (H:Hp) (D:Ends),Inv X pins σ H s->t D σ H->wpAny (model X.prog X.w) X.A (execs st X.env) (SP X pins D) X.xe s
def thn {t:Sem α} {Q Q':α->aaf->Prop} {M:Model} {A:aaV} {E:Ud} {s:aaf} (h:wpAny M A t Q E s) (hQ: ∀a s,Q a s->Q' a s):wpAny M A t Q' E s:=acn h hQ fun _ _ x=>x
section
variable {X:Cx}
def tVar (i:Nat):TE:=fun σ H Q=> ∃v,σ[i]?=some (some v)/\Q v H
def tC (v:V):TE:=fun _ H Q=>Q v H
def xu {x:Str} (hN:X.N[i]?=some x) (hv:Vis X.env.scope x) (hd:Z0 x:=by decide) (hcd:Zh x:=by decide):PE X (.Name x pos) (tVar i):=by
 intro pins s σ H Q I h;obtain ⟨v,e,h⟩:=h;obtain ⟨m,hn,hl⟩:=I.loc;obtain ⟨u,r,l⟩:=hl i x v hN e hv;have fin:EP X pins σ Q u s:=⟨v,H,I,r,h⟩
 rcases l with ⟨hk,hm⟩| ⟨hk,c,hc,hcell⟩
 · exact wpAny_Name (wpAny_loadName_local I.ok.kind hk hn hm fin) hd
 · rcases hk with hk|hk
   · exact wpAny_Name (wpAny_loadName_cell I.ok.kind hk hc hcell fin) hd
   · exact wpAny_Name (wpAny_loadName_free I.ok.kind hk hc hcell fin hcd) hd
def jfB {i j pos}:PE X (.Constant (.int i) j pos) (tC (.int i)):=fun _ _ _ H _ I h=>wpAny_Constant_int ⟨.int i,H,I.tok _,⟨_,rfl⟩,h⟩
def jg4 {b j pos}:PE X (.Constant (.bool b) j pos) (tC (.bl b)):=fun _ _ _ H _ I h=>Constant_bool ⟨.bl b,H,I,rfl,h⟩
def jfz {j pos}:PE X (.Constant .none j pos) (tC .non):=fun _ _ _ H _ I h=>Constant_none ⟨.non,H,I,rfl,h⟩
def jfw {x j pos}:PE X (.Constant (.str x) j pos) (tC (.str x)):=fun _ _ _ H _ I h=>Calls.Constant_str ⟨.str x,H,I.tok _,⟨_,rfl⟩,h⟩
def Gl (X:Cx) (x:Str):Prop:=X.env.kindOf x=some .globalImplicit
def yW {E:Ud} {s:aaf} {σ:St} {H:Hp} {x:Str} {pos:Pos} {Q:Ud} (I:Inv X pins σ H s) (hg:Gl X x) (hm:X.mg x=some u) (h:Q u s)
  (hd:Z0 x:=by decide):wpAny (model X.prog X.w) X.A (eval (.Name x pos) X.env) Q E s:=
 Calls.Name_function_global I.ok.kind hg (Calls.loadGlobal_global (by rw [I.ok.glob];exact I.mod.glob.keeps I.bk) hm h) hd
def XB {E:Ud} {s:aaf} {σ:St} {H:Hp} {x:Str} {pos:Pos} {Q:Ud} (I:Inv X pins σ H s) (hg:Gl X x) (hm:X.mg x=none) (hv:aba x=some u) (h:Q u s)
  (hn:x≠ "__name__" :=by decide) (hd:Z0 x:=by decide):wpAny (model X.prog X.w) X.A (eval (.Name x pos) X.env) Q E s:=by
 obtain ⟨mb,h1,h2⟩:=I.mod.blt;exact Calls.Name_function_global I.ok.kind hg (Calls.loadGlobal_builtin (by rw [I.ok.glob];exact I.mod.glob.keeps I.bk) hm (by rw [I.ok.blt];exact h1.keeps I.bk) ((h2 x hn).trans hv) h) hd
def Wa {x:Str} {v:V} (hg:Gl X x) (hm:X.mg x=some u) (r:RelV v u) (hd:Z0 x:=by decide):PE X (.Name x pos) (tC v):=
 fun _ _ _ H _ I h=>yW I hg hm ⟨v,H,I,r,h⟩ hd
def kI {x:Str} {v:V} (hg:Gl X x) (hm:X.mg x=none) (hv:aba x=some u) (r:RelV v u) (hn:x≠ "__name__" :=by decide) (hd:Z0 x:=by decide):PE X (.Name x pos) (tC v):=
 fun _ _ _ H _ I h=>XB I hg hm hv ⟨v,H,I,r,h⟩ hn hd
variable {a b:Expr} {ta tb:TE} {pos:Pos}
def tB (t:TE):TT:=fun σ H Q=>t σ H fun x H1=> ∃c,x= .bl c/\Q c H1
def jfp {t:TE} (h:PE X e t) (he: ∀whole,isTrue e X.env whole=(do let v←whole;ae5 e.pos;adW [v] (truthy v)):=by intro _;rfl):PT X e (tB t):=by
 intro pins s σ H Q I hw;refine isTrue_plain (thn (h pins s σ H _ I hw) fun v s1 ⟨x,H1,I1,r1,q1⟩=>?_) (he _);obtain ⟨d,rfl,q⟩:=q1;cases r1;exact abG ⟨H1,I1,q⟩
variable {tA tB':TT} {rest:List Expr}
def tAnd (t u:TT):TT:=fun σ H Q=>t σ H fun c H1=>if c=true then u σ H1 Q else Q false H1
def tOr (t u:TT):TT:=fun σ H Q=>t σ H fun c H1=>if c=true then Q true H1 else u σ H1 Q
def tNot (t:TT):TT:=fun σ H Q=>t σ H fun c H1=>Q (!c) H1
def jdb (ha:PT X a tA):PW X (.BoolOp .And [a] pos) tA:=by
 intro wh pins s σ H Q I h;refine isTrue_and (thn (ha pins s σ H Q I h) fun c s1 e=>?_)
 cases c with
 |true=>exact isTrue_and_nil e
 |false=>exact e
def jfl (ha:PT X a tA):PW X (.BoolOp .Or [a] pos) tA:=by
 intro wh pins s σ H Q I h;refine isTrue_or (thn (ha pins s σ H Q I h) fun c s1 e=>?_)
 cases c with
 |false=>exact isTrue_or_nil e
 |true=>exact e
def jfm (ha:PT X a tA) (hb:PW X (.BoolOp .And (b::rest) pos) tB'):PW X (.BoolOp .And (a::b::rest) pos) (tAnd tA tB'):=by
 intro wh pins s σ H Q I h;refine isTrue_and (thn (ha pins s σ H _ I h) fun c s1 ⟨H1,I1,q1⟩=>?_)
 cases c with
 |true=>exact hb wh pins s1 σ H1 Q I1 q1
 |false=>exact ⟨H1,I1,q1⟩
def jg3 (ha:PT X a tA) (hb:PW X (.BoolOp .Or (b::rest) pos) tB'):PW X (.BoolOp .Or (a::b::rest) pos) (tOr tA tB'):=by
 intro wh pins s σ H Q I h;refine isTrue_or (thn (ha pins s σ H _ I h) fun c s1 ⟨H1,I1,q1⟩=>?_)
 cases c with
 |true=>exact ⟨H1,I1,q1⟩
 |false=>exact hb wh pins s1 σ H1 Q I1 q1
def jfq (ha:PT X a tA):PT X (.UnaryOp .Not a pos) (tNot tA):=by
 intro pins s σ H Q I h;exact isTrue_not (ha pins s σ H (fun c H1=>Q (!c) H1) I h)
def jgV (ta tb:TE):TE:=fun σ H Q=>ta σ H fun x H1=> ∃c,x= .bl c/\if c=true then tb σ H1 Q else Q (.bl false) H1
def jgN (ta:TE):TE:=fun σ H Q=>ta σ H fun x H1=> ∃c,x= .bl c/\Q (.bl (!c)) H1
def jfx {op} {t:TE} (h:PE X a t):PE X (.BoolOp op [a] pos) t:=fun pins s σ H Q I hw=>BoolOp_one (h pins s σ H Q I hw)
def jfD (ha:PE X a ta) (hb:PE X (.BoolOp .And (b::rest) pos) tb):PE X (.BoolOp .And (a::b::rest) pos) (jgV ta tb):=by
 intro pins s σ H Q I h;refine BoolOp_and (thn (ha pins s σ H _ I h) fun v s1 ⟨x,H1,I1,r1,q1⟩=>?_);obtain ⟨c,rfl,q1⟩:=q1;cases r1;refine abG ?_
 cases c with
 |true=>exact hb pins s1 σ H1 Q I1 q1
 |false=>exact ⟨.bl false,H1,I1,rfl,q1⟩
def jfy (ha:PE X a ta):PE X (.UnaryOp .Not a pos) (jgN ta):=by
 intro pins s σ H Q I h;refine UnaryOp_ (thn (ha pins s σ H _ I h) fun v s1 ⟨x,H1,I1,r1,q1⟩=>?_);obtain ⟨c,rfl,q1⟩:=q1;cases r1;exact not_of (abG ⟨.bl (!c),H1,I1,rfl,q1⟩)
def tIf (t:TT) (ta tb:TE):TE:=fun σ H Q=>t σ H fun c H1=>if c=true then ta σ H1 Q else tb σ H1 Q
def jaP {c:Expr} (hc:PT X c tA) (ha:PE X a ta) (hb:PE X b tb):PE X (.IfExp c a b pos) (tIf tA ta tb):=by
 intro pins s σ H Q I h;refine wpAny_IfExp (thn (hc pins s σ H _ I h) fun d s1 ⟨H1,I1,q1⟩=>?_)
 cases d with
 |true=>exact ha pins s1 σ H1 Q I1 q1
 |false=>exact hb pins s1 σ H1 Q I1 q1
end
def SqL (K:aab) (H:Hp) (a:Addr) (xs:List V):Prop:=
 Rd H a (.lst xs)\/
  ∃(o:Obj) (its:Array Value) (n:Nat),K.lookup a=some o/\o.cls= .type "list" /\o.dict=none/\o.data= .seq its n/\its.size<=aak/\Vals xs its.toList
def SqT (K:aab) (H:Hp) (a:Addr) (xs:List V):Prop:=
 Rd H a (.tup xs)\/
  ∃(o:Obj) (its:Array Value) (n:Nat),K.lookup a=some o/\o.cls= .type "tuple" /\o.data= .seq its n/\its.size<=aak/\Vals xs its.toList
def absV:Value->Option V
 | .none=>some .non
 | .bool b=>some (.bl b)
 | .int i _=>some (.int i)
 | .str x _=>some (.str x)
 | .bytes b _=>some (.byt b)
 | .float b _=>some (.flt b)
 | .ref a=>some (.ref a)
 | .type n=>some (.ty n)
 |_=>none
def RelV.abs {x:V} (r:RelV x u):absV u=some x:=by
 cases x with
 |non=>cases r;rfl
 |bl _=>cases r;rfl
 |int _=>obtain ⟨t,rfl⟩:=r;rfl
 |str _=>obtain ⟨t,rfl⟩:=r;rfl
 |byt _=>obtain ⟨t,rfl⟩:=r;rfl
 |flt _=>obtain ⟨t,rfl⟩:=r;rfl
 |ref _=>cases r;rfl
 |ty _=>cases r;rfl
def RelV.inj {x y:V} (r:RelV x u) (q:RelV y u):x=y:=aaH (r.abs.symm.trans q.abs)
theorem Vals.inj: ∀ {xs ys:List V} {us:List Value},Vals xs us->Vals ys us->xs=ys
 |_,_,_,.nil,.nil=>rfl
 |_,_,_,.cons r t,.cons r' t'=>by rw [r.inj r',Vals.inj t t']
section
variable {X:Cx} {pins:List (Addr×Obj)} {σ:St} {H:Hp} {s:aaf} {a:Addr} {xs ys:List V}
def SqL.of {K:aab} (h:H a=some (.lst xs)):SqL K H a xs:= .inl (.inl h)
def SqT.of {K:aab} (h:H a=some (.tup xs)):SqT K H a xs:= .inl (.inl h)
def Inv.list (I:Inv X pins σ H s) (h:SqL X.K H a xs): ∃its:List Value,Vals xs its/\PlainL s.heap a its.toArray/\xs.length<=aak:=by
 rcases h with h| ⟨o,its,n,hk,hc,hd,hs,hz,r⟩
 · obtain ⟨z,its,n,r,e⟩:=h.ok I.hok;exact ⟨its,r,⟨_,n,e,rfl,rfl,rfl⟩,z⟩
 · refine ⟨its.toList,r,⟨o,n,I.kIn a o hk,hc,hd,by simpa using hs⟩,?_⟩;have e:=r.length;simp only [aaI] at e;omega
def Inv.tuple (I:Inv X pins σ H s) (h:SqT X.K H a xs): ∃its:List Value,Vals xs its/\IsTup s.heap a its.toArray/\xs.length<=aak:=by
 rcases h with h| ⟨o,its,n,hk,hc,hs,hz,r⟩
 · obtain ⟨z,its,r,p⟩:=h.ok I.hok;exact ⟨its,r,p,z⟩
 · refine ⟨its.toList,r,⟨o,I.kIn a o hk,hc,n,by simpa using hs⟩,?_⟩;have e:=r.length;simp only [aaI] at e;omega
def Inv.list_inj (I:Inv X pins σ H s) (h:SqL X.K H a xs) (h':SqL X.K H a ys):xs=ys:=by
 obtain ⟨its,r,⟨o,n,e,_,_,d⟩,_⟩:=I.list h;obtain ⟨its',r',⟨o',n',e',_,_,d'⟩,_⟩:=I.list h';rw [e] at e';cases e';rw [d] at d';injection d' with d1 _;have:its=its':=by simpa using congrArg Array.toList d1
 subst this;exact r.inj r'
def Inv.tuple_inj (I:Inv X pins σ H s) (h:SqT X.K H a xs) (h':SqT X.K H a ys):xs=ys:=by
 obtain ⟨its,r,⟨o,e,_,n,d⟩,_⟩:=I.tuple h;obtain ⟨its',r',⟨o',e',_,n',d'⟩,_⟩:=I.tuple h';rw [e] at e';cases e';rw [d] at d';injection d' with d1 _;have:its=its':=by simpa using congrArg Array.toList d1
 subst this;exact r.inj r'
end
abbrev Cx.wish (X:Cx) (E:Ud):Cx:={X with xe:=E}
abbrev Cx.nox (X:Cx):Cx:=X.wish fun _ _=>False
def Cx.Ok.wish {X:Cx} (ok:X.Ok) (E:Ud):(X.wish E).Ok:=
 ⟨ok.mod,ok.kind,ok.glob,ok.blt,ok.above,ok.inj,ok.has,ok.cab,ok.hd,ok.frames,ok.stk,ok.exf,ok.bs,ok.bsz,ok.noex,ok.exfs,ok.funs,ok.frf⟩
def Cx.Ok.unwish {X:Cx} {E:Ud} (ok:(X.wish E).Ok):X.Ok:=
 ⟨ok.mod,ok.kind,ok.glob,ok.blt,ok.above,ok.inj,ok.has,ok.cab,ok.hd,ok.frames,ok.stk,ok.exf,ok.bs,ok.bsz,ok.noex,ok.exfs,ok.funs,ok.frf⟩
section
variable {X:Cx} {pins:List (Addr×Obj)} {σ:St} {H:Hp} {s:aaf} {E:Ud}
def Inv.wish (I:Inv X pins σ H s) (E:Ud):Inv (X.wish E) pins σ H s:=⟨I.ok.wish E,I.os,I.bare,I.base,I.loc,I.cell,I.free,I.freeC,I.pin,I.hok,I.len⟩
def Inv.unwish (I:Inv (X.wish E) pins σ H s):Inv X pins σ H s:=⟨I.ok.unwish,I.os,I.bare,I.base,I.loc,I.cell,I.free,I.freeC,I.pin,I.hok,I.len⟩
def SP.unwish {D:Ends} {f:Flow} (h:SP (X.wish E) pins D f s'):SP X pins D f s':=by
 cases f with
 |next=>obtain ⟨σ',H',I,q⟩:=h;exact ⟨σ',H',I.unwish,q⟩
 |brk=>obtain ⟨σ',H',I,q⟩:=h;exact ⟨σ',H',I.unwish,q⟩
 |cont=>obtain ⟨σ',H',I,q⟩:=h;exact ⟨σ',H',I.unwish,q⟩
 |ret u=>obtain ⟨v,σ',H',I,r,q⟩:=h;exact ⟨v,σ',H',I.unwish,r,q⟩
def PSs.nox {st:List Stmt} {t:TS} (h:PSs X.nox st t):PSs X st t:=fun pins s σ H D I hw=>
 acn (h pins s σ H D (I.wish _) hw) (fun _ _ q=>q.unwish) fun _ _ z=>abj z
end
section
variable {X:Cx} {st:Stmt} {rest:List Stmt} {t u:TS} {e:Expr} {te:TE} {pos:Pos}
def jgO:TS:=fun D σ H=>D.nx σ H
def tSeq (t u:TS):TS:=fun D σ H=>t {D with nx:=u D} σ H
def Z9:PSs X [] jgO:=fun _ _ σ H _ I h=>aeb ⟨σ,H,I,h⟩
def Ql (h1:PS X st t) (h2:PSs X rest u):PSs X (st::rest) (tSeq t u):=by
 intro pins s σ H D I h;refine wpAny_execs_cons (thn (h1 pins s σ H {D with nx:=u D} I h) fun f s1 q=>?_)
 cases f with
 |next=>
  obtain ⟨σ',H',I',q⟩:=q;exact h2 pins s1 σ' H' D I' q
 |ret v=>exact q
 |brk=>exact q
 |cont=>exact q
def Z8 (h1:PS X st t):PSs X [st] t:=by
 intro pins s σ H D I h;refine wpAny_execs_cons (thn (h1 pins s σ H D I h) fun f s1 q=>?_)
 cases f with
 |next=>exact aeb q
 |ret v=>exact q
 |brk=>exact q
 |cont=>exact q
def Inv.quiet {σ:St} {H:Hp} {s:aaf} (I:Inv X pins σ H s):interactive X.env=false:=by simp [interactive,I.ok.kind]
def jgR (te:TE):TS:=fun D σ H=>te σ H fun _ H1=>D.nx σ H1
def YE (he:PE X e te) (hs:acq e none pos.line X.env=pure false:=by rfl):PS X (.Expr e pos) (jgR te):=by
 intro pins s σ H D I h;exact wpAny_Expr_any (thn (he pins s σ H _ I h) fun v s1 ⟨x,H1,I1,r1,q1⟩=>⟨σ,H1,I1,q1⟩) I.quiet hs
def tRet (te:TE):TS:=fun D σ H=>te σ H D.rt
def KJ (he:PE X e te):PS X (.Return (some e) pos) (tRet te):=by
 intro pins s σ H D I h;exact wpAny_Return_some (thn (he pins s σ H _ I h) fun v s1 ⟨x,H1,I1,r1,q1⟩=>⟨x,σ,H1,I1,r1,q1⟩)
def tIfS (c:TT) (t u:TS):TS:=fun D σ H=>c σ H fun b H1=>if b=true then t D σ H1 else u D σ H1
def kA {c:Expr} {a b:List Stmt} {tc:TT} (hc:PT X c tc) (ha:PSs X a t) (hb:PSs X b u):PS X (.If c a b pos) (tIfS tc t u):=by
 intro pins s σ H D I h;refine wpAny_If (thn (hc pins s σ H _ I h) fun d s1 ⟨H1,I1,q1⟩=>?_)
 cases d with
 |true=>exact ha pins s1 σ H1 D I1 q1
 |false=>exact hb pins s1 σ H1 D I1 q1
end
abbrev TG:=V->St->Hp->(St->Hp->Prop)->Prop
abbrev TGs:=List V->St->Hp->(St->Hp->Prop)->Prop
def PG (X:Cx) (target:Expr) (t:TG):Prop:=
 ∀(pins:List (Addr×Obj)) (s:aaf) (σ:St) (H:Hp) (v:V) (u:Value) (Q:St->Hp->Prop),Inv X pins σ H s->RelV v u->t v σ H Q->
  wpAny (model X.prog X.w) X.A (assign target X.env u) (fun _ s'=> ∃σ' H',Inv X pins σ' H' s'/\Q σ' H') X.xe s
def PGs (X:Cx) (ts:List Expr) (t:TGs):Prop:=
 ∀(pins:List (Addr×Obj)) (s:aaf) (σ:St) (H:Hp) (vs:List V) (us:List Value) (Q:St->Hp->Prop),Inv X pins σ H s->Vals vs us->t vs σ H Q->
  wpAny (model X.prog X.w) X.A (assignInOrder ((acb ts X.env).map (·.2)) us) (fun _ s'=> ∃σ' H',Inv X pins σ' H' s'/\Q σ' H') X.xe s
abbrev TSet:=V->V->V->Hp->(Hp->Prop)->Prop
def PSet (X:Cx) (t:TSet):Prop:=
 ∀(pins:List (Addr×Obj)) (s:aaf) (σ:St) (H:Hp) (o i v:V) (ov iv u:Value) (Q:Hp->Prop),Inv X pins σ H s->RelV o ov->RelV i iv->RelV v u->t o i v H Q->
  wpAny (model X.prog X.w) X.A (setItem ov iv u) (fun _ s'=> ∃H',Inv X pins σ H' s'/\Q H') X.xe s
abbrev TIp:=V->V->Hp->VK->Prop
def PIp (X:Cx) (op:aes) (t:TIp):Prop:=
 ∀(pins:List (Addr×Obj)) (s:aaf) (σ:St) (H:Hp) (x y:V) (v u:Value) (Q:VK),Inv X pins σ H s->RelV x v->RelV y u->t x y H Q->
  wpAny (model X.prog X.w) X.A (inplaceOp op v u) (EP X pins σ Q) X.xe s
section
variable {X:Cx} {pos:Pos}
def jga (i:Nat):TG:=fun v σ H Q=>Q (σ.set i (some v)) H
def jdl {x:Str} (hN:X.N.Nodup) (hi:X.N[i]?=some x) (hx:Loc X.env.scope x) (hf:T7 X x:=by first|exact .inl rfl|exact .inr rfl|assumption):PG X (.Name x pos) (jga i):=by
 intro pins s σ H v u Q I r h;exact wpAny_assign_Name (Qj I hN hi hx r (fun s' I'=>⟨_,H,I',h⟩) hf)
def gNil:TGs:=fun vs σ H Q=>vs=[]/\Q σ H
def jhh (t:TG) (u:TGs):TGs:=fun vs σ H Q=> ∃v r,vs=v::r/\t v σ H fun σ' H'=>u r σ' H' Q
def jdk:PGs X [] gNil:=by
 intro pins s σ H vs us Q I r h;obtain ⟨e,h⟩:=h;subst e;cases r;exact assignInOrder_nil ⟨σ,H,I,h⟩
def KM {es:List Expr} {t:TG} {u:TGs} (h1:PG X e t) (h2:PGs X es u)
  (hs:(acb (e::es) X.env).map (·.2)=assign e X.env::(acb es X.env).map (·.2):=by rfl):PGs X (e::es) (jhh t u):=by
 intro pins s σ H vs us Q I r h;obtain ⟨v,vr,e1,h⟩:=h;subst e1
 cases r with
 |cons r rr=>
  rw [hs];refine assignInOrder_cons (thn (h1 pins s σ H _ _ _ I r h) fun _ s1 ⟨σ1,H1,I1,q1⟩=>?_);exact h2 pins s1 σ1 H1 _ _ Q I1 rr q1
def gTup (K:aab) (n:Nat) (t:TGs):TG:=fun v σ H Q=> ∃a xs,v= .ref a/\SqT K H a xs/\xs.length=n/\t xs σ H Q
def jfu {es:List Expr} {k:Nat} {t:TGs} {n:Nat} (hc:X.calm=true) (h:PGs X es t)
  (hn:(acb es X.env).length=n:=by rfl) (hst:(acb es X.env).findIdx? (·.1)=none:=by rfl):PG X (.Tuple es k pos) (gTup X.K n t):=by
 intro pins s σ H v u Q I r hw;obtain ⟨a,xs,e1,hq,hl,hw⟩:=hw;subst e1;cases r;obtain ⟨its,rv,ht,hz⟩:=I.tuple hq;refine assign_Tuple_tuple (I.ok.hd hc) ht (by simp [hn,←hl,rv.length]) hst fun h' hx=>?_
 have I1:Inv X pins σ H {s with heap:=h'}:=I.kept (t':=s.toks) fun b o e=>hx b o (aaF (aar e)) e
 exact h pins _ σ H xs _ Q I1 (by simpa using rv) hw
def gSub (to ti:TE) (t:TSet):TG:=fun v σ H Q=>to σ H fun o H1=>ti σ H1 fun i H2=>t o i v H2 fun H3=>Q σ H3
def jfv {o i:Expr} {to ti:TE} {t:TSet} (ho:PE X o to) (hi:PE X i ti) (hs:PSet X t)
  (ha: ∀v,assign (.Subscript o i pos) X.env v=(do
   let ov←adW [v] (eval o X.env)
   let iv←adW [v,ov] (eval i X.env)
   ae5 pos
   adW [v,ov,iv] (setItem ov iv v)
   release [v,ov,iv] []):=by intro _;rfl):PG X (.Subscript o i pos) (gSub to ti t):=by
 intro pins s σ H v u Q I r h;rw [ha];refine aaa (aa4 (thn (ho pins s σ H _ I h) fun ov s1 ⟨x,H1,I1,r1,q1⟩=>?_));refine aaa (aa4 (thn (hi pins s1 σ H1 _ I1 q1) fun iv s2 ⟨y,H2,I2,r2,q2⟩=>?_));refine aaa (wpAny_standAt (aaa (aa4 (thn (hs pins s2 σ H2 x y v ov iv u _ I2 r1 r2 r q2) fun _ s3 ⟨H3,I3,q3⟩=>?_))));exact wpAny_release ⟨σ,H3,I3,q3⟩
def tAsg (te:TE) (g:TG):TS:=fun D σ H=>te σ H fun x H1=>g x σ H1 D.nx
def jcf {te:TE} {g:TG} (he:PE X e te) (hg:PG X tg g) (hs:swapsWithSole [tg] e pos.line X.env=pure false:=by rfl) (hw:swappedStores [tg] e X.env=pure none:=by rfl)
  (h1:(acb [tg] X.env).map (·.2)=[assign tg X.env]:=by rfl):PS X (.Assign [tg] e pos) (tAsg te g):=by
 intro pins s σ H D I h;refine wpAny_Assign_stores (thn (he pins s σ H _ I h) fun v s1 ⟨x,H1,I1,r1,q1⟩=>?_) hs hw;rw [h1];exact thn (hg pins s1 σ H1 x v _ I1 r1 q1) fun _ s2 q=>q
def kz {x:Str} {te:TE} (hN:X.N.Nodup) (hi:X.N[i]?=some x) (hx:Loc X.env.scope x) (he:PE X e te) (hs:acq e (some (.Name x pos')) pos.line X.env=pure false:=by rfl) (hf:T7 X x:=by first|exact .inl rfl|exact .inr rfl|assumption):
  PS X (.Assign [.Name x pos'] e pos) (tAsg te (jga i)):=by
 intro pins s σ H D I h;refine wpAny_Assign_Name (thn (he pins s σ H _ I h) fun v s1 ⟨y,H1,I1,r1,q1⟩=>?_) hs;exact Qj I1 hN hi hx r1 (fun s2 I2=>⟨_,H1,I2,q1⟩) hf
def tAug (i:Nat) (te:TE) (ti:TIp):TS:=fun D σ H=> ∃x,σ[i]?=some (some x)/\te σ H fun y H1=>ti x y H1 fun z H2=>D.nx (σ.set i (some z)) H2
def jfs {x:Str} {te:TE} {ti:TIp} {pos':Pos} (hN:X.N.Nodup) (hi:X.N[i]?=some x) (hx:Loc X.env.scope x) (he:PE X e te) (ho:PIp X op ti) (hf:T7 X x:=by first|exact .inl rfl|exact .inr rfl|assumption):
   PS X (.AugAssign (.Name x pos') op e pos) (tAug i te ti):=by
 intro pins s σ H D I h;obtain ⟨v,e1,h⟩:=h;obtain ⟨m,hn,hl⟩:=I.loc;have vis:Vis X.env.scope x:=by rcases hx with k|k;exact .inl k;exact .inr (.inl k)
 obtain ⟨u,r,l⟩:=hl i x v hi e1 vis;refine wpAny_AugAssign_Name ?_
 have go:wpAny (model X.prog X.w) X.A (eval e X.env) (fun w s₂=>wpAny (model X.prog X.w) X.A (inplaceOp op u w) (fun r s₃=>wpAny (model X.prog X.w) X.A (storeName X.env x r) (fun _=>SP X pins D .next) X.xe s₃) X.xe s₂) X.xe s:=by
   refine thn (he pins s σ H _ I h) fun w s1 ⟨y,H1,I1,r1,q1⟩=>?_
   refine thn (ho pins s1 σ H1 v y u w _ I1 r r1 q1) fun z s2 ⟨zv,H2,I2,r2,q2⟩=>?_
   exact Qj I2 hN hi hx r2 (fun s3 I3=>⟨_,H2,I3,q2⟩) hf
 rcases l with ⟨hk,hm⟩| ⟨hk,c,hc,hcell⟩
 · exact wpAny_loadName_local I.ok.kind hk hn hm go
 · rcases hk with hk|hk
   · exact wpAny_loadName_cell I.ok.kind hk hc hcell go
   · rcases hx with k|k
     · have:X.env.scope.names.lookup x=some .free:=hk;rw [k] at this;cases this
     · have:X.env.scope.names.lookup x=some .free:=hk;rw [k] at this;cases this
end
structure It where
 go:Nat->Hp->Prop
 yld:Nat->Hp->V->Hp->Prop
 stop:Nat->Hp->Prop
def FpOk (X:Cx) (pins:List (Addr×Obj)) (H:Hp) (b:Addr):Prop:=
 H b=none/\b≠X.env.locals/\b∉X.fs/\(b∈X.ex\/X.s₀.heap.objs.size<=b)/\(∀x c,X.env.cells.lookup x=some c->c≠b)/\ ∀p∈X.pn++pins,p.1≠b
def Inv.fpOk {X:Cx} {σ:St} {H H':Hp} {s:aaf} {b:Addr} (I:Inv X pins σ H s) (hb:s.heap.objs.size<=b) (hn:H' b=none):FpOk X pins H' b:=by
 refine ⟨hn,aet (aas I.lt hb),I.nofs hb,.inr (aaw I.sz hb),fun x c e z=>?_,fun p hp z=>?_⟩
 · obtain ⟨v,q⟩:=I.cell x c e;exact absurd (aas q.lt (by rw [z];exact hb)) (abq _)
 · exact absurd (aas (aar (I.pin p hp).1) (by rw [z];exact hb)) (abq _)
structure Turn (P:aay) (w:World) (K:aab) (tg:Expr) (J:It) (fp:List Addr) (it:Addr) (tn:Nat->Heap->Prop):Prop where
 mem:it∈fp
 obj: ∀i h,tn i h-> ∀b∈fp,∃o,h.get? b=some o/\ ∀v,o.data≠ .cell v
 keep: ∀i h h',tn i h->(∀b∈fp,∀o,h.get? b=some o->h'.get? b=some o)->tn i h'
 item: ∀(X:Cx),X.prog=P->X.w=w->X.K=K->X.calm=true-> ∀(i:Nat) (pins:List (Addr×Obj)) (s:aaf) (σ:St) (H:Hp) (E:Ud),Inv X pins σ H s->(∀b∈fp,FpOk X pins H b)->tn i s.heap->J.go i H->
  wpAny (model P w) X.A (pyNext (.ref it)) (fun r s1=> ∃u,r=some u/\
   wpAny (model P w) X.A (aec tg (.ref it) u) (fun _ s2=> ∃x H',Inv X pins σ H' s2/\RelV x u/\J.yld i H x H'/\tn (i+1) s2.heap/\ ∀b∈fp,H' b=none) E s1) E s
 done: ∀(X:Cx),X.prog=P->X.w=w->X.K=K->X.calm=true-> ∀(i:Nat) (pins:List (Addr×Obj)) (s:aaf) (σ:St) (H:Hp) (E:Ud),Inv X pins σ H s->(∀b∈fp,FpOk X pins H b)->tn i s.heap->J.stop i H->
  wpAny (model P w) X.A (pyNext (.ref it)) (fun r s1=>r=none/\Inv X pins σ H s1) E s
 self: ∀(A:aaV) (i:Nat) (s:aaf) (Q:Ud) (E:Ud),tn i s.heap->Q (.ref it) s->wpAny (model P w) A (pyIter (.ref it)) Q E s
abbrev TI:=St->Hp->(It->Hp->Prop)->Prop
def PIE (X:Cx) (pins:List (Addr×Obj)) (σ:St) (tg:Expr) (R:It->Hp->Prop) (itv:Value) (s2:aaf):Prop:=
 ∃(it:Addr) (fp:List Addr) (tn:Nat->Heap->Prop) (J:It) (H':Hp),itv= .ref it/\Inv X pins σ H' s2/\Turn X.prog X.w X.K tg J fp it tn/\tn 0 s2.heap/\(∀b∈fp,FpOk X pins H' b)/\R J H'
def PI (X:Cx) (tg iter:Expr) (wi:TI):Prop:=
 ∀(pins:List (Addr×Obj)) (s:aaf) (σ:St) (H:Hp) (R:It->Hp->Prop),Inv X pins σ H s->wi σ H R->
  wpAny (model X.prog X.w) X.A (eval iter X.env) (fun v s1=>wpAny (model X.prog X.w) X.A (pyIter v) (PIE X pins σ tg R) X.xe s1) X.xe s
def ud {M : Model} {A : aaV} {E : Value -> aaf -> Prop} {s : aaf} {tg : Expr} {u : Value} {n : String} {vs : Array Value} {Q : Unit -> aaf -> Prop} (ho : s.heap.get? it = some o) (hc : o.cls = .type n) (hd : o.data = .fields vs)
    (hn : ["enumerate", "zip", "dict_itemiterator", "dict_reverseitemiterator", "odict_iterator", "itertools.zip_longest", "itertools.pairwise"].contains n = false) (hQ : Q () s) : wpAny M A (aec tg (.ref it) u) Q E s := by
  unfold aec
  cases tg <;> first
    | exact aae hQ
    | (cases u <;> first
        | exact aae hQ
        | (refine aaa (wpAny_load ho ?_)
           rw [hc, hd]
           show wpAny M A (if (["enumerate", "zip", "dict_itemiterator", "dict_reverseitemiterator", "odict_iterator", "itertools.zip_longest", "itertools.pairwise"].contains n && vs[0]? == some (rawInt _)) = true then _ else _) Q E s
           rw [if_neg (by intro h; rw [hn, Bool.false_and] at h; cases h)]
           exact aae hQ))
def Itl (K:aab) (a:Addr):It:=
 ⟨fun i H=> ∃xs x,SqL K H a xs/\xs[i]?=some x,fun i H x H'=>H'=H/\ ∀xs,SqL K H a xs->xs[i]?=some x,fun i H=> ∃xs,SqL K H a xs/\xs.length<=i⟩
def Itt (K:aab) (a:Addr):It:=
 ⟨fun i H=> ∃xs x,SqT K H a xs/\xs[i]?=some x,fun i H x H'=>H'=H/\ ∀xs,SqT K H a xs->xs[i]?=some x,fun i H=> ∃xs,SqT K H a xs/\xs.length<=i⟩
def Itr (lo:Int) (n:Nat):It:=⟨fun i _=>i<n,fun i H x H'=>H'=H/\x= .int (lo+i),fun i _=>n<=i⟩
def W9 {K:aab} (a it:Addr):Turn P w K tg (Itl K a) [it] it (fun i h=>h.IsListIter it a i) where
 mem:=by simp
 obj:=fun i h st b hb=>by
  have e:b=it:=by simpa using hb
  subst e;obtain ⟨o,e,c,d⟩:=st;exact ⟨o,e,fun v z=>by rw [d] at z;cases z⟩
 keep:=fun i h h' st k=>st.at fun o e=>k it (by simp) o e
 item:=by
  intro X hP hw hK hc i pins s σ H E I hf st hg;subst hP hw hK;obtain ⟨xs,x,hq,hx⟩:=hg;obtain ⟨its,rv,p,hz⟩:=I.list hq;obtain ⟨u,hu,ru⟩:=rv.get hx;obtain ⟨f0,f1,f2,f3,f4,f5⟩:=hf it (by simp);refine wpAny_pyNext_list_item st p.isList (x:=u) (by simpa using hu) fun h' st' sb=>?_
  have I1:Inv X pins σ H {s with heap:=h'}:=I.turned (t':=s.toks) (fun b o hb e=>(sb.2 b hb).trans e) f0 f1 f3 f4 f5;obtain ⟨o,e,c,d⟩:=id st';exact ⟨u,rfl,ud (s:={s with heap:=h'}) e c d (by decide) ⟨x,H,I1,ru,⟨rfl,fun ys hy=>by rw [I.list_inj hy hq];exact hx⟩,st',fun b hb=>(hf b hb).1⟩⟩
 done:=by
  intro X hP hw hK hc i pins s σ H E I hf st hg;subst hP hw hK;obtain ⟨xs,hq,hx⟩:=hg;obtain ⟨its,rv,p,hz⟩:=I.list hq;obtain ⟨f0,f1,f2,f3,f4,f5⟩:=hf it (by simp);have hl:=rv.length;exact wpAny_pyNext_list_end (I.ok.hd hc) st p.isList (by simp;omega) fun h' eb=>⟨rfl,I.turned (t':=s.toks) (fun b o hb e=>eb b o hb e) f0 f1 f3 f4 f5⟩
 self:=fun _ _ _ _ _ st h=>wpAny_pyIter_listiter st h
def VT {K:aab} (a it:Addr):Turn P w K tg (Itt K a) [it] it (fun i h=>h.IsTupleIter it a i) where
 mem:=by simp
 obj:=fun i h st b hb=>by
  have e:b=it:=by simpa using hb
  subst e;obtain ⟨o,e,c,d⟩:=st;exact ⟨o,e,fun v z=>by rw [d] at z;cases z⟩
 keep:=fun i h h' st k=>st.at fun o e=>k it (by simp) o e
 item:=by
  intro X hP hw hK hc i pins s σ H E I hf st hg;subst hP hw hK;obtain ⟨xs,x,hq,hx⟩:=hg;obtain ⟨its,rv,p,hz⟩:=I.tuple hq;obtain ⟨u,hu,ru⟩:=rv.get hx;obtain ⟨f0,f1,f2,f3,f4,f5⟩:=hf it (by simp);refine wpAny_pyNext_tuple_item st (show s.heap.IsTuple a its.toArray from p) (x:=u) (by simpa using hu) fun h' st' sb=>?_
  have I1:Inv X pins σ H {s with heap:=h'}:=I.turned (t':=s.toks) (fun b o hb e=>(sb.2 b hb).trans e) f0 f1 f3 f4 f5;obtain ⟨o,e,c,d⟩:=id st';exact ⟨u,rfl,ud (s:={s with heap:=h'}) e c d (by decide) ⟨x,H,I1,ru,⟨rfl,fun ys hy=>by rw [I.tuple_inj hy hq];exact hx⟩,st',fun b hb=>(hf b hb).1⟩⟩
 done:=by
  intro X hP hw hK hc i pins s σ H E I hf st hg;subst hP hw hK;obtain ⟨xs,hq,hx⟩:=hg;obtain ⟨its,rv,p,hz⟩:=I.tuple hq;obtain ⟨f0,f1,f2,f3,f4,f5⟩:=hf it (by simp);have hl:=rv.length;exact wpAny_pyNext_tuple_end (I.ok.hd hc) st (show s.heap.IsTuple a its.toArray from p) (by simp;omega) fun h' eb=>⟨rfl,I.turned (t':=s.toks) (fun b o hb e=>eb b o hb e) f0 f1 f3 f4 f5⟩
 self:=fun _ _ _ _ _ st h=>wpAny_pyIter_tupleiter st h
def VU {K:aab} (it:Addr) (lo:Int) (n:Nat):Turn P w K tg (Itr lo n) [it] it (fun i h=>IsRangeIter h it (lo+(i:Nat)*1) ((n:Int)-(i:Nat)) 1) where
 mem:=by simp
 obj:=fun i h st b hb=>by
  have e:b=it:=by simpa using hb
  subst e
  exact ⟨_,st,fun v z=>by
   have z':Data.fields _=Data.cell v:=z
   cases z'⟩
 keep:=fun i h h' st k=>k it (by simp) _ st
 item:=by
  intro X hP hw hK hc i pins s σ H E I hf st hg;subst hP hw hK;obtain ⟨f0,f1,f2,f3,f4,f5⟩:=hf it (by simp);have W:=Walks.range (prog:=X.prog) (w:=X.w) (I.ok.hd hc) it lo 1 n;refine W.item i s _ _ hg st fun v h' tk hv st' kk=>?_
  obtain ⟨t,rfl⟩:=hv;have I1:Inv X pins σ H {s with heap:=h',toks:=tk}:=I.turned (fun b o hb e=>kk b o (by simpa using hb) e) f0 f1 f3 f4 f5;refine ⟨_,rfl,ud (s:={s with heap:=h',toks:=tk}) (n:= "range_iterator") st' rfl rfl (by decide) ⟨.int (lo+i),H,I1,⟨t,?_⟩,⟨rfl,rfl⟩,st',fun b hb=>(hf b hb).1⟩⟩;rw [Int.mul_one]
 done:=by
  intro X hP hw hK hc i pins s σ H E I hf st hg;subst hP hw hK;obtain ⟨f0,f1,f2,f3,f4,f5⟩:=hf it (by simp);exact wpAny_pyNext_range_end (I.ok.hd hc) st (by have:n<=i:=hg;omega) fun h' eb=>⟨rfl,I.turned (t':=s.toks) (fun b o hb e=>eb b o hb e) f0 f1 f3 f4 f5⟩
 self:=fun _ _ _ _ _ st h=>wpAny_pyIter_rangeiter st h
section
variable {X:Cx} {tg:Expr}
def jaG {σ:St} {H:Hp} {s:aaf} {R:It->Hp->Prop} {E:Ud} {lo hi:Int} {t u v:Tok} {tk:Nat} (I:Inv X pins σ H s) (h1: -(2^62)<=lo) (h2:lo<2^62) (h3: -(2^62)<=hi) (h4:hi<2^62)
   (q:R (Itr lo (hi-lo).toNat) H):wpAny (model X.prog X.w) X.A (pyIter (.ref s.heap.objs.size)) (PIE X pins σ tg R) E {s with heap:=s.heap.push {cls:= .type "range",data:= .fields #[.int lo t,.int hi u,.int 1 v]},toks:=tk}:=by
 refine wpAny_pyIter_range (IsRange.new ..) (small_one h1 h2 h3 h4) ?_;have I1:Inv X pins σ H {s with heap:=s.heap.push {cls:= .type "range",data:= .fields #[.int lo t,.int hi u,.int 1 v]},toks:=tk}:=I.kept fun b o e=>aac _ e
 refine ⟨(s.heap.push {cls:= .type "range",data:= .fields #[.int lo t,.int hi u,.int 1 v]}).objs.size,[(s.heap.push {cls:= .type "range",data:= .fields #[.int lo t,.int hi u,.int 1 v]}).objs.size],_,_,H,rfl,
   I1.kept (t':=tk) fun b o e=>aac _ e,VU _ lo (hi-lo).toNat,?_,fun b hb=>?_,q⟩
 · have e1:lo+((0:Nat):Int)*1=lo:=by simp
   have e2:(((hi-lo).toNat:Nat):Int)-((0:Nat):Int)=Builtin.Range.rangeSize lo hi 1:=by rw [rangeSize_one];split<;>omega
   show IsRangeIter _ _ (lo+((0:Nat):Int)*1) ((((hi-lo).toNat:Nat):Int)-((0:Nat):Int)) 1;rw [e1,e2];exact aao _ rfl
 · have e:b=(s.heap.push {cls:= .type "range",data:= .fields #[.int lo t,.int hi u,.int 1 v]}).objs.size:=by simpa using hb
   subst e;exact I1.fpOk (aag _) (I1.hok.fresh (aag _))
def jhe (ta:TA):TI:=fun σ H R=>ta σ H fun vs H1=> ∃j:Int,vs=[.int j]/\ -(2^62)<=j/\j<2^62/\R (Itr 0 j.toNat) H1
def kH {a:Expr} {ta:TA} {p:Pos} (hg:Gl X "range") (hm:X.mg "range" =none) (ha:PA X [a] ta) (hs:aai [a] X.env=[(false,eval a X.env)]:=by rfl):PI X tg (.Call (.Name "range" p) [a] [] pos) (jhe ta):=by
 intro pins s σ H R I h;refine Call_ (XB I hg hm boot_range (acR (thn (ha pos pins s σ H _ I h) fun us s1 ⟨vs,H1,I1,r1,q1⟩=>?_) hs rfl));obtain ⟨j,e,q1,q2,q⟩:=q1;subst e
 cases r1 with
 |cons r rr=>
  cases rr;obtain ⟨t,rfl⟩:=r;exact call_range_1 (jaG I1 (by omega) (by omega) q1 q2 (by simpa using q))
def tFor (wi:TI) (g:TG) (tb:TS):TS:=fun D σ H=>wi σ H fun J H1=> ∃W:Nat->Nat->St->Hp->Prop,(∃m,W 0 m σ H1)/\ ∀i m σ H,W i m σ H->
 (J.stop i H/\D.nx σ H)\/(J.go i H/\ ∃N:St->Hp->Prop,(∀σ' H',N σ' H'-> ∃m',m'<m/\W (i+1) m' σ' H')/\ ∀x H',J.yld i H x H'->g x σ H' fun σ2 H2=>tb {D with nx:=N,ct:=N,bk:=D.nx} σ2 H2)
def Xj (fp:List Addr) (h:Heap):List (Addr×Obj):=fp.filterMap fun b=>(h.get? b).map fun o=>(b,o)
def yq {b:Addr} (hb:b∈fp) (e:h.get? b=some o):(b,o)∈Xj fp h:=adq.mpr ⟨b,hb,by rw [e];rfl⟩
def kU {p:Addr×Obj} (hp:p∈Xj fp h):p.1∈fp/\h.get? p.1=some p.2:=by
 obtain ⟨b,hb,e⟩:=adq.mp hp
 cases q:h.get? b with
 |none=>rw [q] at e;cases e
 |some o=>
  rw [q] at e;have e':(b,o)=p:=aaH e;subst e';exact ⟨hb,q⟩
def Inv.pinned {σ:St} {H:Hp} {s:aaf} (I:Inv X pins σ H s) (hf: ∀b∈fp,FpOk X pins H b) (ho: ∀b∈fp,∃o,s.heap.get? b=some o/\ ∀v,o.data≠ .cell v):Inv X (pins++Xj fp s.heap) σ H s:=
 I.pins_of fun p hp=>(aa1.mp hp).elim (fun z=>I.pin p (aaU _ z)) fun z=>by
  obtain ⟨hb,e⟩:=kU z;obtain ⟨f0,f1,f2,_⟩:=hf p.1 hb;obtain ⟨o,e',d⟩:=ho p.1 hb;rw [e] at e';cases e';exact ⟨e,f0,f1,f2,d⟩
def Inv.unpinned {pl:List (Addr×Obj)} {σ:St} {H:Hp} {s:aaf} (I:Inv X (pins++pl) σ H s):Inv X pins σ H s:=I.pins_of fun p hp=>I.pin p (aaU _ (abi _ hp))
def jce {wi:TI} {g:TG} {tb:TS} {pos:Pos} (hp:PassesOwn (model X.prog X.w) X.A X.env X.xe) (hc:X.calm=true) (hi:PI X tg iter wi) (hg:PG X tg g) (hb:PSs X body tb)
   (hs: ∀x,acd iter X.env x=pure x:=by intro _;rfl):PS X (.For tg iter body [] pos) (tFor wi g tb):=by
 intro pins s σ H D I h;refine wpAny_For (thn (hi pins s σ H _ I h) fun v s1 h1=>thn h1 fun itv s2 h2=>?_) hs;obtain ⟨it,fp,tn,J,H2,e,I2,T,st2,f2,W,⟨m0,w0⟩,turn⟩:=h2;subst e;have stat: ∀ {H':Hp},(∀b∈fp,H' b=none)-> ∀b∈fp,FpOk X pins H' b:=fun hn b hb=>⟨hn b hb,(f2 b hb).2⟩
 refine codeAny_forLoop_any (fun n s'=> ∃i σ' H',Inv X pins σ' H' s'/\tn i s'.heap/\(∀b∈fp,H' b=none)/\W i n σ' H') ?_ m0 ⟨0,σ,H2,I2,st2,fun b hb=>(f2 b hb).1,w0⟩;rintro n s3 ⟨i,σ3,H3,I3,st3,fr3,w3⟩;rcases turn i n σ3 H3 w3 with ⟨stop,qn⟩| ⟨go,N,hN,step⟩
 · refine adr hp (thn (T.done X rfl rfl rfl hc i pins s3 σ3 H3 X.xe I3 (stat fr3) st3 stop) fun r s4 ⟨hr,I4⟩=>?_);subst hr;exact aeb ⟨σ3,H3,I4,qn⟩
 · refine adr hp (thn (T.item X rfl rfl rfl hc i pins s3 σ3 H3 X.xe I3 (stat fr3) st3 go) fun r s4 ⟨u,hr,h4⟩=>?_);subst hr;refine adr hp (thn h4 fun _ s5 ⟨x,H5,I5,r5,y5,st5,fr5⟩=>?_);have I5':=I5.pinned (stat fr5) (T.obj _ _ st5);refine adr hp (thn (hg _ s5 σ3 H5 x u _ I5' r5 (step x H5 y5)) fun _ s6 ⟨σ6,H6,I6,q6⟩=>?_);refine adr hp (thn (hb _ s6 σ6 H6 _ I6 q6) fun f s7 q7=>?_)
   have again: ∀ {σ7:St} {H7:Hp},Inv X (pins++Xj fp s5.heap) σ7 H7 s7->N σ7 H7-> ∃m,m<n/\ ∃i σ' H',Inv X pins σ' H' s7/\tn i s7.heap/\(∀b∈fp,H' b=none)/\W i m σ' H':=fun {σ7 H7} I7 n7=>by
    obtain ⟨m',hm,w7⟩:=hN σ7 H7 n7;refine ⟨m',hm,i+1,σ7,H7,I7.unpinned,T.keep _ _ _ st5 fun b hb o e=>(I7.pin (b,o) (aaU _ (aaU _ (yq hb e)))).1,fun b hb=>?_,w7⟩;obtain ⟨o,e,d⟩:=T.obj _ _ st5 b hb;exact (I7.pin (b,o) (aaU _ (aaU _ (yq hb e)))).2.1
   cases f with
   |next=>obtain ⟨σ7,H7,I7,n7⟩:=q7;exact again I7 n7
   |cont=>obtain ⟨σ7,H7,I7,n7⟩:=q7;exact again I7 n7
   |brk=>obtain ⟨σ7,H7,I7,q7⟩:=q7;exact ⟨σ7,H7,I7.unpinned,q7⟩
   |ret v=>obtain ⟨x7,σ7,H7,I7,r7,q7⟩:=q7;exact ⟨x7,σ7,H7,I7.unpinned,r7,q7⟩
end
abbrev R2:=V->V->Hp->VK->Prop
def OpR (X:Cx) (f:Value->Value->Sem Value) (r:R2):Prop:=
 ∀(pins:List (Addr×Obj)) (s:aaf) (σ:St) (H:Hp) (x y:V) (v u:Value) (Q:VK),Inv X pins σ H s->RelV x v->RelV y u->r x y H Q->
  wpAny (model X.prog X.w) X.A (f v u) (EP X pins σ Q) X.xe s
def CallR (X:Cx) (f:Value) (r:List V->Hp->VK->Prop):Prop:=
 ∀(pins:List (Addr×Obj)) (s:aaf) (σ:St) (H:Hp) (xs:List V) (us:List Value) (Q:VK),Inv X pins σ H s->Vals xs us->r xs H Q->
  wpAny (model X.prog X.w) X.A (call f us) (EP X pins σ Q) X.xe s
def tOp (r:R2) (ta tb:TE):TE:=fun σ H Q=>ta σ H fun x H1=>tb σ H1 fun y H2=>r x y H2 Q
def rI (C:Int->Int->Prop) (g:Int->Int->V):R2:=fun x y H Q=> ∃i j,x= .int i/\y= .int j/\C i j/\Q (g i j) H
def rI0 (g:Int->Int->V):R2:=fun x y H Q=> ∃i j,x= .int i/\y= .int j/\Q (g i j) H
section
variable {X:Cx} {a b c:Expr} {ta tb tc:TE} {pos:Pos}
def binT (ha:PE X a ta) (hb:PE X b tb) {s:aaf} {σ:St} {H:Hp} {R:V->V->Hp->Prop} (I:Inv X pins σ H s)
  (h:ta σ H fun x H1=>tb σ H1 fun y H2=>R x y H2) {Q:Ud} {f:Value->Value->Sem Value}
  (hf: ∀v u s2 x y H2,Inv X pins σ H2 s2->RelV x v->RelV y u->R x y H2->wpAny (model X.prog X.w) X.A (f v u) Q X.xe s2):
  wpAny (model X.prog X.w) X.A (eval a X.env) (fun v s₁=>wpAny (model X.prog X.w) X.A (eval b X.env) (fun u s₂=>wpAny (model X.prog X.w) X.A (f v u) Q X.xe s₂) X.xe s₁) X.xe s:=by
 refine thn (ha pins s σ H _ I h) fun v s1 ⟨x,H1,I1,r1,q1⟩=>?_
 refine thn (hb pins s1 σ H1 _ I1 q1) fun u s2 ⟨y,H2,I2,r2,q2⟩=>?_
 exact hf v u s2 x y H2 I2 r1 r2 q2
def jaO {r:R2} (ho:OpR X (abP op) r) (ha:PE X a ta) (hb:PE X b tb):PE X (.BinOp a op b pos) (tOp r ta tb):=by
 intro pins s σ H Q I h;exact wpAny_BinOp (binT ha hb I h fun v u s2 x y H2 I2 rx ry q=>ho pins s2 σ H2 x y v u Q I2 rx ry q)
def opI {f:Value->Value->Sem Value} {C:Int->Int->Prop} {g:Int->Int->Int}
  (rule: ∀(i j:Int) (t u:Tok) (s:aaf) (Q:Ud) (E:Ud),C i j->Q (.int (g i j) s.toks) {s with toks:=s.toks+1}->wpAny (model X.prog X.w) X.A (f (.int i t) (.int j u)) Q E s):
  OpR X f (rI C fun i j=> .int (g i j)):=by
 intro pins s σ H x y v u Q I rx ry h;obtain ⟨i,j,rfl,rfl,hc,q⟩:=h;obtain ⟨t,rfl⟩:=rx;obtain ⟨t',rfl⟩:=ry;exact rule i j t t' s _ _ hc ⟨.int (g i j),H,I.tok _,⟨_,rfl⟩,q⟩
def opI0 {f:Value->Value->Sem Value} {g:Int->Int->Int}
  (rule: ∀(i j:Int) (t u:Tok) (s:aaf) (Q:Ud) (E:Ud),Q (.int (g i j) s.toks) {s with toks:=s.toks+1}->wpAny (model X.prog X.w) X.A (f (.int i t) (.int j u)) Q E s):
  OpR X f (rI0 fun i j=> .int (g i j)):=by
 intro pins s σ H x y v u Q I rx ry h;obtain ⟨i,j,rfl,rfl,q⟩:=h;obtain ⟨t,rfl⟩:=rx;obtain ⟨t',rfl⟩:=ry;exact rule i j t t' s _ _ ⟨.int (g i j),H,I.tok _,⟨_,rfl⟩,q⟩
def opB0 {f:Value->Value->Sem Value} {g:Int->Int->Bool}
  (rule: ∀(i j:Int) (t u:Tok) (s:aaf) (Q:Ud) (E:Ud),Q (.bool (g i j)) s->wpAny (model X.prog X.w) X.A (f (.int i t) (.int j u)) Q E s):
  OpR X f (rI0 fun i j=> .bl (g i j)):=by
 intro pins s σ H x y v u Q I rx ry h;obtain ⟨i,j,rfl,rfl,q⟩:=h;obtain ⟨t,rfl⟩:=rx;obtain ⟨t',rfl⟩:=ry;exact rule i j t t' s _ _ ⟨.bl (g i j),H,I,rfl,q⟩
def CDiv (i j:Int):Prop:=0<j/\j<1073741824
def CPow (i j:Int):Prop:=0<=j/\j<=1000000/\i.natAbs<2^64
def op_add:OpR X (abP .Add) (rI0 fun i j=> .int (i+j)):=opI0 fun _ _ _ _ _ _ _ q=>add_int q
def yK:OpR X (abP .Sub) (rI0 fun i j=> .int (i-j)):=opI0 fun _ _ _ _ _ _ _ q=>sub_int q
def QI:OpR X (abP .FloorDiv) (rI CDiv fun i j=> .int (i/j)):=opI fun i j _ _ _ _ _ hc q=>by
 have h1:(0:Int)<j:=hc.1;have h2:j<1073741824:=hc.2;exact floordiv_int (by omega) (by rw [ac3 i (by omega)];exact q) (.inl (PyProof.noPylong_small (by omega)))
def wK:OpR X (abP .Mod) (rI (fun _ j=>0<j) fun i j=> .int (i%j)):=opI fun i j _ _ _ _ _ hc q=>by
 have h1:(0:Int)<j:=hc;exact mod_int' (by omega) (by rw [Int.fmod_eq_emod_of_nonneg i (by omega)];exact q)
def jci:OpR X (abP .Pow) (rI CPow fun i j=> .int (i^j.toNat)):=opI fun _ _ _ _ _ _ _ hc q=>pow_int_small hc.1 hc.2.1 hc.2.2 q
def jcz {σ:St} {H:Hp} {s:aaf} {Q:VK} {k k':Bool} (I:Inv X pins σ H s) (q:Q (.bl k) H) (e:k=k'):EP X pins σ Q (.bool k') s:=by
 subst e;exact ⟨.bl k,H,I,rfl,q⟩
def jdw:OpR X (abr .Lt) (rI0 fun i j=> .bl (decide (i<j))):=opB0 fun _ _ _ _ _ _ _ q=>lt_int q
def Zl:OpR X (abr .LtE) (rI0 fun i j=> .bl (decide (i<=j))):=opB0 fun _ _ _ _ _ _ _ q=>le_int q
def jfG:OpR X (abr .Gt) (rI0 fun i j=> .bl (decide (j<i))):=opB0 fun _ _ _ _ _ _ _ q=>gt_int q
def jdx:OpR X (abr .GtE) (rI0 fun i j=> .bl (decide (j<=i))):=opB0 fun _ _ _ _ _ _ _ q=>ge_int q
def kR:OpR X (abr .In) (fun x y H Q=> ∃i j,x= .str i/\y= .str j/\Q (.bl (!(ads j i 0 j.length 1).isEmpty)) H):=by
 intro pins s σ H x y v u Q I rx ry h;obtain ⟨i,j,rfl,rfl,q⟩:=h;obtain ⟨t,rfl⟩:=rx;obtain ⟨t',rfl⟩:=ry;exact in_str (jcz I q rfl)
def KP:OpR X (abr .Is) (fun x y H Q=>y= .non/\Q (.bl (decide (x= .non))) H):=by
 intro pins s σ H x y v u Q I rx ry h;obtain ⟨rfl,q⟩:=h;cases ry;refine is_none_gen (jcz I q ?_)
 cases x<;>first
  | (cases rx;rfl)
  | (obtain ⟨t,rfl⟩:=rx;rfl)
def OpR.or {f:Value->Value->Sem Value} {r r':R2} (h:OpR X f r) (h':OpR X f r'):OpR X f (fun x y H Q=>r x y H Q\/r' x y H Q):=by
 intro pins s σ H x y v u Q I rx ry q;rcases q with q|q
 · exact h pins s σ H x y v u Q I rx ry q
 · exact h' pins s σ H x y v u Q I rx ry q
def jcl (b:Expr) {op:CmpOp} (h:op≠ .In:=by decide) (h2:op≠ .NotIn:=by decide):adt op b=false:=by
 have e1:(op==CmpOp.In)=false:=by cases op<;>first|rfl|exact absurd rfl h
 have e2:(op==CmpOp.NotIn)=false:=by cases op<;>first|rfl|exact absurd rfl h2
 cases b<;>simp [adt,e1,e2]
def jdq {op:CmpOp} {r:R2} (ho:OpR X (abr op) r) (ha:PE X a ta) (hb:PE X b tb) (hm:adt op b=false):PE X (.Compare a [op] [b] pos) (tOp r ta tb):=by
 intro pins s σ H Q I h;exact wpAny_Compare1 (binT ha hb I h fun v u s2 x y H2 I2 rx ry q=>ho pins s2 σ H2 x y v u Q I2 rx ry q) hm
def jcU (t:TE):TT:=fun σ H Q=>t σ H fun x H'=> ∃k,x= .bl k/\Q k H'
def jde {op:CmpOp} {r:R2} (ho:OpR X (abr op) r) (ha:PE X a ta) (hb:PE X b tb) (hm:adt op b=false):PT X (.Compare a [op] [b] pos) (jcU (tOp r ta tb)):=by
 intro pins s σ H Q I h
 refine wpAny_isTrue_Compare1 (thn (ha pins s σ H _ I h) fun v s1 ⟨x,H1,I1,r1,q1⟩=>thn (hb pins s1 σ H1 _ I1 q1) fun u s2 ⟨y,H2,I2,r2,q2⟩=>
  thn (ho pins s2 σ H2 x y v u _ I2 r1 r2 q2) fun c s3 ⟨z,H3,I3,r3,k,e,q3⟩=>?_) hm
 subst e;cases r3;exact abG ⟨H3,I3,q3⟩
def UU (r r':R2) (ta tb tc:TE):TE:=fun σ H Q=>ta σ H fun x H1=>tb σ H1 fun y H2=>r x y H2 fun z H3=> ∃k,z= .bl k/\
 (if k=true then tc σ H3 fun w' H4=>r' y w' H4 Q else Q (.bl false) H3)
def jaS {op op':CmpOp} {r r':R2} (ho:OpR X (abr op) r) (ho':OpR X (abr op') r') (ha:PE X a ta) (hb:PE X b tb) (hc:PE X c tc)
  (hm:lastMarks [op,op'] [b,c]=false:=by with_unfolding_all rfl):PE X (.Compare a [op,op'] [b,c] pos) (UU r r' ta tb tc):=by
 intro pins s σ H Q I h
 refine Compare_chain (thn (ha pins s σ H _ I h) fun v s1 ⟨x,H1,I1,r1,q1⟩=>chain_link (thn (hb pins s1 σ H1 _ I1 q1) fun u s2 ⟨y,H2,I2,r2,q2⟩=>
  thn (ho pins s2 σ H2 x y v u _ I2 r1 r2 q2) fun d s3 ⟨z,H3,I3,r3,k,e,q3⟩=>?_)) hm
 subst e;cases r3;refine abG ?_
 cases k with
 |false=>exact ite_ff ⟨.bl false,H3,I3,rfl,q3⟩
 |true=>exact ite_tt (chain_last (thn (hc pins s3 σ H3 _ I3 q3) fun w' s4 ⟨z',H4,I4,r4,q4⟩=>ho' pins s4 σ H4 y z' u w' Q I4 r2 r4 q4))
def jaJ {op op':CmpOp} {r r':R2} (ho:OpR X (abr op) r) (ho':OpR X (abr op') r') (ha:PE X a ta) (hb:PE X b tb) (hc:PE X c tc)
  (hm:lastMarks [op,op'] [b,c]=false:=by with_unfolding_all rfl):PT X (.Compare a [op,op'] [b,c] pos) (jcU (UU r r' ta tb tc)):=by
 intro pins s σ H Q I h
 refine isTrue_chain (thn (ha pins s σ H _ I h) fun v s1 ⟨x,H1,I1,r1,q1⟩=>test_link (thn (hb pins s1 σ H1 _ I1 q1) fun u s2 ⟨y,H2,I2,r2,q2⟩=>
  thn (ho pins s2 σ H2 x y v u _ I2 r1 r2 q2) fun d s3 ⟨z,H3,I3,r3,k,e,q3⟩=>?_)) hm
 subst e;cases r3;refine abG ?_
 cases k with
 |false=>
  obtain ⟨k',e',q'⟩:=q3;cases e';exact ite_ff ⟨H3,I3,q'⟩
 |true=>
  refine ite_tt (test_last (thn (hc pins s3 σ H3 _ I3 q3) fun w' s4 ⟨z',H4,I4,r4,q4⟩=>thn (ho' pins s4 σ H4 y z' u w' _ I4 r2 r4 q4) fun d' s5 ⟨z2,H5,I5,r5,k2,e2,q5⟩=>?_));subst e2;cases r5;exact abG ⟨H5,I5,q5⟩
def ZA:(aak:Nat)<2^63:=by rw [ab4];decide
def op_add_str:OpR X (abP .Add) (fun x y H Q=> ∃i j,x= .str i/\y= .str j/\i.length+j.length<=aak/\Q (.str (i++j)) H):=by
 intro pins s σ H x y v u Q I rx ry h;obtain ⟨i,j,rfl,rfl,hz,q⟩:=h;obtain ⟨t,rfl⟩:=rx;obtain ⟨t',rfl⟩:=ry;exact add_str (fun t' tk=>⟨.str (i++j),H,I.tok _,⟨_,rfl⟩,q⟩) hz
def Jj {x:V} (r:Vals [x] us): ∃u,us=[u]/\RelV x u:=by
 cases r with
 |cons r1 r2=>cases r2;exact ⟨_,rfl,r1⟩
def Yp {x y:V} (r:Vals [x,y] us): ∃u w',us=[u,w']/\RelV x u/\RelV y w':=by
 cases r with
 |cons r1 r2=>
  cases r2 with
  |cons r3 r4=>cases r4;exact ⟨_,_,rfl,r1,r3⟩
def X6 (hc:X.calm=true):CallR X (.builtin "min") (fun xs H Q=> ∃i j,xs=[.int i,.int j]/\Q (.int (if j<i then j else i)) H):=by
 intro pins s σ H xs us Q I r h;obtain ⟨i,j,rfl,q⟩:=h;obtain ⟨u,w',rfl,⟨t,rfl⟩,⟨t',rfl⟩⟩:=Yp r;refine min_two_ints (I.ok.hd hc) fun h' tk k=>⟨_,H,I.kept k,?_,q⟩
 by_cases hj:j<i
 · rw [if_pos hj,if_pos hj];exact ⟨_,rfl⟩
 · rw [if_neg hj,if_neg hj];exact ⟨_,rfl⟩
def zj:CallR X (.builtin "divmod") (fun xs H Q=> ∃i j,xs=[.int i,.int j]/\CDiv i j/\ ∀p,H p=none->Q (.ref p) (upd H p (.tup [.int (i/j),.int (i%j)]))):=by
 intro pins s σ H xs us Q I r h;obtain ⟨i,j,rfl,⟨h1,h2⟩,q⟩:=h;obtain ⟨u,w',rfl,⟨t,rfl⟩,⟨t',rfl⟩⟩:=Yp r;refine divmod_int (by omega) ?_ (.inl (PyProof.noPylong_small (by omega)));rw [ac3 i (by omega),Int.fmod_eq_emod_of_nonneg i (by omega)];have hn:H s.heap.objs.size=none:=I.hok.fresh (aag _);refine ⟨.ref s.heap.objs.size,_,?_,rfl,q _ hn⟩;refine I.laid (fun b o e=>aac _ e) (aag _) ⟨by simp only [aaL,acA];rw [ab4];decide,[.int (i/j) s.toks,.int (i%j) (s.toks+1)],.cons ⟨_,rfl⟩ (.cons ⟨_,rfl⟩ .nil),?_⟩;exact ⟨_,aao s.heap rfl,rfl,0,rfl⟩
end
structure ObjM (h:Heap) (x dx C:Addr) (mA:Yx):Prop where
 obj:h.get? x=some (ace C dx)
 ns:h.Ns1 dx mA
 ne:dx≠x
def vp {dx:Addr} (n:h.Ns1 dx mA): ∃od,h.get? dx=some od/\ ∀name,aeB name od=some (mA name):=by
 obtain ⟨o,es,ep,ho,hd,hk,_,hm⟩:=n;refine ⟨o,ho,fun name=>?_⟩;have e:=hm name;unfold nsFind findBy at e;rw [←Array.find?_toList] at e;unfold aeB;rw [hd];dsimp only
 split
 · rename_i y q;rw [q] at e;exact congrArg some e
 · rename_i q;rw [q] at e
   have a:es.toList.any (·.refKey)=false:=by
    rw [aeL];intro y hy;obtain ⟨z,t,hkey⟩:=hk y (Array.mem_toList_iff.mp hy);simp [DictEntry.refKey,hkey]
   have a': ¬es.toList.any (·.refKey)=true:=by rw [a];exact aaN
   rw [if_neg a'];exact congrArg some e
def ObjM.look {x dx:Addr} (I:ObjM h x dx C mA): ∃od,PySem.W.InstAt h x (ace C dx) C (some od)/\ ∀name,aeB name od=some (mA name):=
 let ⟨od,ho,hl⟩:=vp I.ns
 ⟨od,⟨I.obj,rfl,rfl,ho⟩,hl⟩
section
variable {prog:aay} {w:World} {A:aaV} {E:Ud} {s:aaf} {K:aab} {x dx C f:Addr} {mA:Yx} {name:Str} {v:Value}
def jd5 {expr:Bool} {Q:Ud} (X:K.In s.heap) (I:ObjM s.heap x dx C mA) (hg:ade K C name=true) (hh:adH K C=true)
  (ha:abg K (.ref C) name=some none) (hv:mA name=some v) (hv':PySem.W.handedIn v=true) (h:Q v {s with toks:=s.toks+1}):
  wpAny (model prog w) A (getAttr (.ref x) name expr) Q E s:=by
 obtain ⟨od,J,hl⟩:=I.look;exact PySem.W.get_value X J (aed hg).1 (PySem.W.findObj_own hh ha rfl (by rw [hl,hv])) hv' h
def jbl {pl:Sem Bool} {Q:Value×List Value->aaf->Prop} (X:K.In s.heap) (I:ObjM s.heap x dx C mA) (hg:ade K C name=true)
  (hf:abg K (.ref C) name=some (some (.ref f))) (ht:aeu K (.ref f)=true) (hv:mA name=none) (h:Q (.ref f,[.ref x]) s):
  wpAny (model prog w) A (getMethod (.ref x) name pl) Q E s:=by
 obtain ⟨od,J,hl⟩:=I.look;exact PySem.W.method_fn X J (aed hg).1 (aed hg).2 hf (beq_iff_eq.mp ht) (by show (aeB name od).map (·.isSome)=some false;rw [hl,hv];rfl) h
def jcZ {ns:List Str} {Q:Unit->aaf->Prop} (X:K.In s.heap) (I:ObjM s.heap x dx C mA)
  (hs:abg K (.ref C) "__setattr__" =some (some (.builtin "object.__setattr__"))) (hp:aeM K C=true) (ht:ae6 K C name=some none) (hh:adH K C=true)
  (hw:PySem.Within mA ns) (hsz:ns.length<=aak)
  (h: ∀h',ObjM h' x dx C (fun y=>if y=name then some v else mA y)->ab8 dx s.heap h'->Q () {s with heap:=h',toks:=s.toks+2}):
  wpAny (model prog w) A (setAttr (.ref x) name v) Q E s:=by
 obtain ⟨od,J,hl⟩:=I.look;refine PySem.W.set_plain X J hs (PySem.W.osa_open (s:={s with toks:=s.toks+1}) (r:=none) X J hp ht fun b=>?_);obtain ⟨cd,hc,hd'⟩:=PySem.W.any_some hh;have hx:s.heap.get? x=some ⟨.ref C,some dx,.plain, #[]⟩:=I.obj;refine aaa (aae (aaa (aaa (wpAny_loadPart hx (aaa (PySem.W.Looks.here (s:={s with toks:=s.toks+1}) (PySem.W.looks_clsIn X hc) ?_))))));rw [hd'];refine aae (a:=some dx) (aaa (aae (aaa ?_)));refine wpAny_nsSet1 (s:={s with toks:=s.toks+1}) I.ns fun h' hn2 hs2=>?_
 obtain ⟨oD,esD,epD,hoD,hdD,hcD⟩:=hn2.count (PySem.Within.cons name v hw);refine aaa (wpAny_lookBehind hoD (by rw [hdD];exact pastItsLine_dict (aaw hcD (by rw [aaL];omega))) ?_);exact aae (h _ ⟨(hs2.2 _ (adh I.ne)).trans I.obj,hn2,I.ne⟩ hs2)
def jba {R:Result->aaf->Prop} {vs:List Value} {kw:List (Str×Value)} (X:K.In s.heap) (hm:adu K C=true)
  (hi:abg K (.ref C) "__init__" =some (some (.ref f))) (hf:PySem.W.typeIn K (.ref f)=some (.type "function"))
  (h:adX (model prog w) (A.under (.builtin "type.__call__" ⟨.ref C::vs,kw⟩)) (.call (.ref f) ⟨.ref (s.heap.objs.size+1)::vs,kw⟩) (PySem.W.InitBack (s.heap.objs.size+1) R)
   {s with heap:=(s.heap.push abH).push (ace C s.heap.objs.size)}):
  adX (model prog w) A (.call (.ref C) ⟨vs,kw⟩) R s:=by
 obtain ⟨hh,g,d,t,os⟩:=s;exact PySem.W.make_core (PySem.W.makes_of X hm) (aeC X hi) (fun self=>PySem.W.bind_fn X self hf) (.inl rfl) h
end
def putF (f:Str) (v:V):List (Str×V)->List (Str×V)
 | []=>[(f,v)]
 | (g,x)::r=>if g=f then (g,v)::r else (g,x)::putF f v r
theorem QO (f g:Str) (v:V): ∀fs:List (Str×V),(putF f v fs).lookup g=if g=f then some v else fs.lookup g
 | []=>by
  show aa6 g [(f,v)]=_
  by_cases h:g=f
  · have hb:(g==f)=true:=beq_iff_eq.mpr h;simp only [aa6,hb,if_pos h]
  · have hb:(g==f)=false:=beq_eq_false_iff_ne.mpr h;simp only [aa6,hb,if_neg h]
 | (k,x)::r=>by
  have ih:=QO f g v r;rw [show putF f v ((k,x)::r)=(if k=f then (k,v)::r else (k,x)::putF f v r) from rfl]
  by_cases hk:k=f
  · rw [if_pos hk]
    by_cases h:g=k
    · have hb:(g==k)=true:=beq_iff_eq.mpr h;simp only [aa6,hb,if_pos (h.trans hk)]
    · have hb:(g==k)=false:=beq_eq_false_iff_ne.mpr h;simp only [aa6,hb,if_neg (fun e:g=f=>h (e.trans hk.symm))]
  · rw [if_neg hk]
    by_cases h:g=k
    · have hb:(g==k)=true:=beq_iff_eq.mpr h;simp only [aa6,hb,if_neg (fun e:g=f=>hk (h.symm.trans e))]
    · have hb:(g==k)=false:=beq_eq_false_iff_ne.mpr h;simp only [aa6,hb];exact ih
theorem QQ (f:Str) (v:V): ∀fs:List (Str×V),f∈(putF f v fs).map (·.1)/\ ∀g,g∈fs.map (·.1)->g∈(putF f v fs).map (·.1)
 | []=>⟨by simp [putF],fun g h=>by simp at h⟩
 | (k,x)::r=>by
  obtain ⟨i1,i2⟩:=QQ f v r;rw [show putF f v ((k,x)::r)=(if k=f then (k,v)::r else (k,x)::putF f v r) from rfl]
  by_cases hk:k=f
  · rw [if_pos hk];subst hk;exact ⟨by simp,fun g h=>by simpa using h⟩
  · rw [if_neg hk];refine ⟨?_,fun g h=>?_⟩
    · rw [aaB];exact aal _ i1
    · rw [aaB] at h ⊢;rcases aaG.mp h with e|e
      · exact aaG.mpr (.inl e)
      · exact aal _ (i2 g e)
theorem QP (f:Str) (v:V): ∀fs:List (Str×V),(putF f v fs).length<=fs.length+1
 | []=>by simp [putF]
 | (k,x)::r=>by
  have ih:=QP f v r;rw [show putF f v ((k,x)::r)=(if k=f then (k,v)::r else (k,x)::putF f v r) from rfl]
  by_cases hk:k=f
  · rw [if_pos hk,aaL,aaL];omega
  · rw [if_neg hk,aaL,aaL];omega
def RelO.some_of {v:V} {o:Option Value} (r:RelO (some v) o): ∃u,o=some u/\RelV v u:=by
 cases o with
 |none=>exact (show False from r).elim
 |some u=>exact ⟨u,rfl,r⟩
def RelO.none_of {o:Option Value} (r:RelO none o):o=none:=by
 cases o with
 |none=>rfl
 |some u=>exact (show False from r).elim
def vY {v:V} (r:RelV v u):PySem.W.handedIn u=true:=by
 cases v with
 |non=>cases (show u=abN from r);rfl
 |bl b=>cases (show u=aca b from r);rfl
 |int i=>obtain ⟨t,e⟩:=(show∃t,u=ae3 i t from r);cases e;rfl
 |str x=>obtain ⟨t,e⟩:=(show∃t,u=Value.str x t from r);cases e;rfl
 |byt b=>obtain ⟨t,e⟩:=(show∃t,u=Value.bytes b t from r);cases e;rfl
 |flt b=>obtain ⟨t,e⟩:=(show∃t,u=Value.float b t from r);cases e;rfl
 |ref a=>cases (show u=aau a from r);rfl
 |ty n=>cases (show u=adG n from r);rfl
section
variable {P:aay} {w:World} {H H':Hp} {h h':Heap} {a C dx:Addr} {fs fs':List (Str×V)}
def WA (hok:HOk P w H h) (e:H a=some (.ins C dx fs)): ∃mA,ObjM h a dx C mA/\(∀f,RelO (fs.lookup f) (mA f))/\PySem.Within mA (fs.map (·.1))/\fs.length<=1000/\H dx=some (.own a):=by
 obtain ⟨d,z,ne,ob,mA,n,r,q⟩:=(show ObjOk P w H h a (.ins C dx fs) from hok a _ e)
 exact ⟨mA,⟨ob,n,ne⟩,r,q,z,d⟩
end
structure Cls (K:aab) (C:Addr):Prop where
 pg:ade K C Str.empty=true
 hd:adH K C=true
 po:aeM K C=true
 sa:abg K (.ref C) "__setattr__" =some (some (.builtin "object.__setattr__"))
def Cls.get {K:aab} (c:Cls K C) (f:Str):ade K C f=true:=c.pg
def NoAttr (K:aab) (C:Addr) (f:Str):Prop:=abg K (.ref C) f=some none
def NoAttr.taker {K:aab} {f:Str} (n:NoAttr K C f):ae6 K C f=some none:=by
 unfold ae6;rw [show abg K (.ref C) f=some none from n];rfl
structure Meth (K:aab) (C:Addr) (m:Str) (f:Addr):Prop where
 at_:abg K (.ref C) m=some (some (.ref f))
 fn:aeu K (.ref f)=true
 kp:aaZ K (.ref f)=true
section
variable {X:Cx} {pins:List (Addr×Obj)} {σ:St} {H:Hp} {s:aaf} {a C dx:Addr} {fs:List (Str×V)} {f:Str} {v:V} {A:aaV} {E:Ud}
def Uz {b:Bool} {Q:Ud} (I:Inv X pins σ H s) (e:H a=some (.ins C dx fs)) (c:Cls X.K C) (n:NoAttr X.K C f) (l:fs.lookup f=some v)
  (h: ∀u s',Inv X pins σ H s'->RelV v u->Q u s'):wpAny (model X.prog X.w) A (getAttr (.ref a) f b) Q E s:=by
 obtain ⟨mA,O,r,_,_,_⟩:=WA I.hok e;obtain ⟨u,hu,ru⟩:=RelO.some_of (v:=v) (o:=mA f) (by rw [←l];exact r f);exact jd5 I.kIn O (c.get f) c.hd n hu (vY ru) (h u _ (I.tok _) ru)
def J5 {m:Str} {g:Addr} {pl:Sem Bool} {Q:Value×List Value->aaf->Prop} (I:Inv X pins σ H s) (e:H a=some (.ins C dx fs)) (c:Cls X.K C) (k:Meth X.K C m g) (l:fs.lookup m=none)
  (h:Q (.ref g,[.ref a]) s):wpAny (model X.prog X.w) A (getMethod (.ref a) m pl) Q E s:=by
 obtain ⟨mA,O,r,_,_,_⟩:=WA I.hok e;have hn:mA m=none:=RelO.none_of (by rw [←l];exact r m);exact jbl I.kIn O (c.get m) k.at_ k.fn hn h
def Uc {y:V} {Q:Unit->aaf->Prop} (I:Inv X pins σ H s) (e:H a=some (.ins C dx fs)) (c:Cls X.K C) (n:NoAttr X.K C f) (hl:fs.length<1000) (ry:RelV y u)
   (h: ∀s',Inv X pins σ (upd H a (.ins C dx (putF f y fs))) s'->Q () s'):wpAny (model X.prog X.w) A (setAttr (.ref a) f u) Q E s:=by
 obtain ⟨mA,O,r,wi,_,ho⟩:=WA I.hok e;have hz:(fs.map (·.1)).length<=aak:=by rw [aaj,ab4];omega
 refine jcZ I.kIn O c.sa c.po n.taker c.hd wi hz fun h' O' sb=>h _ ?_
 have hd: ∃o,h'.get? dx=some o:=let ⟨o,_,_,e',_⟩:=O'.ns;⟨o,e'⟩
 refine I.write (x:=a) (e:=dx) (by rw [e];exact aco) (.inr ho) (fun b q hb z=>(sb.2 b hb).trans z) hd ?_;refine ⟨by rw [jL O.ne];exact ho,?_,O.ne,O'.obj,_,O'.ns,fun g=>?_,fun g hg=>?_⟩
 · have:=QP f y fs;omega
 · show RelO ((putF f y fs).lookup g) (if g=f then some u else mA g);rw [QO]
   by_cases q:g=f
   · rw [if_pos q,if_pos q];exact ry
   · rw [if_neg q,if_neg q];exact r g
 · by_cases q:g=f
   · rw [q];exact (QQ f y fs).1
   · refine (QQ f y fs).2 g (wi g fun z=>hg ?_);show (if g=f then some u else mA g)=none;rw [if_neg q];exact z
def Inv.made (I:Inv X pins σ H s):Inv X pins σ (upd (upd H s.heap.objs.size (.own (s.heap.objs.size+1))) (s.heap.objs.size+1) (.ins C s.heap.objs.size []))
  {s with heap:=(s.heap.push abH).push (ace C s.heap.objs.size)}:=by
 have e1:(s.heap.push abH).get? s.heap.objs.size=some abH:=aao s.heap rfl
 have e2:((s.heap.push abH).push (ace C s.heap.objs.size)).get? (s.heap.objs.size+1)=some (ace C s.heap.objs.size):=by
  have:=aao (s.heap.push abH) (o:=ace C s.heap.objs.size) rfl
  rwa [abW] at this
 have e3:(s.heap.push abH).Ns s.heap.objs.size (fun _=>none):=⟨abH, #[],_,e1,rfl,(fun e he=>absurd he (by simp)),fun _=>rfl⟩
 have I1:=I.laid (a:=s.heap.objs.size) (o:= .own (s.heap.objs.size+1)) (h':=s.heap.push abH) (t':=s.toks) (fun b u q=>aac _ q) (aag _) ⟨_,e1⟩;refine I1.laid (a:=s.heap.objs.size+1) (o:= .ins C s.heap.objs.size []) (t':=s.toks) (fun b u q=>aac _ q) (Nat.le_of_eq (abW _ _)) ?_;have ne:s.heap.objs.size≠s.heap.objs.size+1:=aaF (adf _);refine ⟨by rw [jL ne,ju],abe _,ne,e2,fun _=>none,(Heap.Ns1.of_empty e3).at fun o q=>aac _ q,fun _=>aco,fun y hy=>absurd rfl hy⟩
def jeG {prog:aay} {w:World} {env:Env} {f:Str} {pos:Pos} {s:aaf} {Q:Ud} (hb:ab7 e f env (eval e env)=eval e env)
  (h:wpAny (model prog w) A (eval e env) (fun o s₁=>wpAny (model prog w) A (getAttr o f true) Q E s₁) E s):wpAny (model prog w) A (eval (.Attribute e f pos) env) Q E s:=
 Attribute_any_ h (by rw [arm_eval_Attribute,hb])
end
def tFld (K:aab) (ta:TE) (f:Str):TE:=fun σ H Q=>ta σ H fun x H1=> ∃a C dx fs v,x= .ref a/\H1 a=some (.ins C dx fs)/\Cls K C/\NoAttr K C f/\fs.lookup f=some v/\Q v H1
def sFld (K:aab) (ta tv:TE) (f:Str):TS:=fun D σ H=>tv σ H fun y H1=>ta σ H1 fun x H2=> ∃a C dx fs,x= .ref a/\H2 a=some (.ins C dx fs)/\Cls K C/\NoAttr K C f/\fs.length<1000/\
 D.nx σ (upd H2 a (.ins C dx (putF f y fs)))
section
variable {X:Cx} {o e value:Expr} {f:Str} {pos pos' tpos:Pos} {ta tv:TE}
def jfC (he:PE X e ta) (hb:ab7 e f X.env (eval e X.env)=eval e X.env):PE X (.Attribute e f pos) (tFld X.K ta f):=by
 intro pins s σ H Q I h;refine jeG hb (thn (he pins s σ H _ I h) fun u s1 ⟨x,H1,I1,rx,a,C,dx,fs,v,ex,ea,c,n,l,q⟩=>?_);subst ex;obtain rfl:u=aau a:=rx;exact Uz I1 ea c n l fun u' s2 I2 ru=>⟨v,H1,I2,ru,q⟩
def jfr (ha:PE X o ta) (hv:PE X value tv) (hs:acq value (some (.Attribute o f pos')) pos.line X.env=pure false):PS X (.Assign [.Attribute o f pos'] value pos) (sFld X.K ta tv f):=by
 intro pins s σ H D I h;refine plainObj_wpAny_Assign_Attribute (thn (hv pins s σ H _ I h) fun u s1 ⟨y,H1,I1,ry,q⟩=>thn (ha pins s1 σ H1 _ I1 q) fun ov s2 ⟨x,H2,I2,rx,a,C,dx,fs,ex,ea,c,n,l,q2⟩=>?_) hs;subst ex;obtain rfl:ov=aau a:=rx;exact Uc I2 ea c n l ry fun s3 I3=>⟨σ,_,I3,q2⟩
end
section
variable {X:Cx} {pins:List (Addr×Obj)} {σ:St} {H:Hp} {s:aaf} {A:aaV} {E:Ud} {Q:Ud} {c:Value} {b:Bool}
inductive TyOf (K:aab) (H:Hp):V->Value->Prop where
 |non:TyOf K H .non (.type "NoneType")
 |bl (x:Bool):TyOf K H (.bl x) (.type "bool")
 |int (i:Int):TyOf K H (.int i) (.type "int")
 |str (x:Str):TyOf K H (.str x) (.type "str")
 |flt (x:UInt64):TyOf K H (.flt x) (.type "float")
 |lst {a:Addr} {xs:List V} (e:H a=some (.lst xs)):TyOf K H (.ref a) (.type "list")
 |frz {a:Addr} {o:Obj} {xs:List V} (e:H a=some (.frz o (.lst xs))):TyOf K H (.ref a) (.type "list")
 |tup {a:Addr} {xs:List V} (e:H a=some (.tup xs)):TyOf K H (.ref a) (.type "tuple")
 |dK {a:Addr} {kvs:List (Key×V)} (e:H a=some (.dK kvs)):TyOf K H (.ref a) (.type "dict")
 |dT {a:Addr} {kvs:List (List Key×V)} (e:H a=some (.dT kvs)):TyOf K H (.ref a) (.type "dict")
 |ins {a C dx:Addr} {fs:List (Str×V)} (e:H a=some (.ins C dx fs)) (cl:Cls K C) (ha:abg K (.ref C) "__class__" =some (some (.builtin "object.__class__")))
  (hn:ae0 K (.builtin "object.__class__") "__get__" =some (some (.builtin "getset_descriptor.__get__"))) (htk:PySem.W.takesIn K (.builtin "object.__class__")=some true)
  (hm:PySem.W.mroIn K C (.type "object")=some true):TyOf K H (.ref a) (.ref C)
def vG {x:V} {t:Value} (I:Inv X pins σ H s) (rx:RelV x u) (ty:TyOf X.K H x t) (e:aaT X.K t c=some b) (h: ∀tk,Q (.bool b) {s with toks:=tk}):
  wpAny (model X.prog X.w) A (call (.builtin "isinstance") [u,c]) Q E s:=by
 cases ty with
 |non=>cases (show u=abN from rx);exact abz PySem.W.kitx_none I.kIn aco e (fun z=>nomatch z) h
 |bl y=>cases (show u=aca y from rx);exact abz PySem.W.kitx_bool I.kIn aco e (fun z=>nomatch z) h
 |int i=>obtain ⟨t,q⟩:=(show∃t,u=ae3 i t from rx);cases q;exact abz PySem.W.kitx_int I.kIn aco e (fun z=>nomatch z) h
 |str y=>obtain ⟨t,q⟩:=(show∃t,u=Value.str y t from rx);cases q;exact abz PySem.W.kitx_str I.kIn aco e (fun z=>nomatch z) h
 |flt y=>obtain ⟨t,q⟩:=(show∃t,u=Value.float y t from rx);cases q;exact abz PySem.W.kitx_float I.kIn aco e (fun z=>nomatch z) h
 | @lst a xs ea=>
  cases (show u=aau a from rx);obtain ⟨_,_,n,_,h1⟩:=(show ObjOk X.prog X.w H s.heap a (.lst xs) from I.hok a _ ea)
  exact abz PySem.W.kitx_list I.kIn ⟨_,h1,rfl⟩ e (fun z=>nomatch z) h
 | @frz a ob xs ea=>
  cases (show u=aau a from rx);obtain ⟨_,_,_,n,_,h1⟩:=(show ObjOk X.prog X.w H s.heap a (.frz ob (.lst xs)) from I.hok a _ ea)
  exact abz PySem.W.kitx_list I.kIn ⟨_,h1,rfl⟩ e (fun z=>nomatch z) h
 | @tup a xs ea=>
  cases (show u=aau a from rx);obtain ⟨_,_,_,p⟩:=(show ObjOk X.prog X.w H s.heap a (.tup xs) from I.hok a _ ea)
  obtain ⟨o,h1,h2,_⟩:=p;exact abz PySem.W.kitx_tuple I.kIn ⟨o,h1,h2⟩ e (fun z=>nomatch z) h
 | @dK a kvs ea=>
  cases (show u=aau a from rx);obtain ⟨_,_,vs,_,p⟩:=(show ObjOk X.prog X.w H s.heap a (.dK kvs) from I.hok a _ ea)
  obtain ⟨o,es,ep,h1,h2,_⟩:=p;exact abz PySem.W.kitx_dict I.kIn ⟨o,h1,h2.1⟩ e (fun z=>nomatch z) h
 | @dT a kvs ea=>
  cases (show u=aau a from rx);obtain ⟨_,_,xs,_,o,es,ep,h1,h2,_⟩:=(show ObjOk X.prog X.w H s.heap a (.dT kvs) from I.hok a _ ea)
  exact abz PySem.W.kitx_dict I.kIn ⟨o,h1,h2.1⟩ e (fun z=>nomatch z) h
 | @ins a C dx fs ea cl ha hn htk hm=>
  cases (show u=aau a from rx);obtain ⟨mA,O,_⟩:=WA I.hok ea;obtain ⟨od,J,_⟩:=O.look;exact abz (PySem.W.kitx_own (cl.get _) cl.hd ha hn htk hm) I.kIn J e (fun z=>nomatch z) h
end
structure Room (k:Nat) (A:aaV):Prop where
 hd:A.handled=none
 dp:A.depth+3*k+5<recursionLimit
 un:A.units+16*k+200<cLine
def Room.mono {k:Nat} {A:aaV} (r:Room k A) (h:j<=k):Room j A:=⟨r.hd,by have:=r.dp;omega,by have:=r.un;omega⟩
def Room.deeper {k:Nat} {A:aaV} (r:Room (k+1) A) (env:Env):Room k (A.deeper env):=
 ⟨r.hd,by have:=r.dp;show A.depth+1+3*k+5<_;omega,by have:=r.un;show A.units+3+16*k+200<_;omega⟩
def Ut {A:aaV}:(A.under (.builtin "type.__call__" ⟨.ref C::us,kw⟩)).depth=A.depth+1:=by
 first|rfl|simp [Around.under,Code.weight,Code.isCreation,Code.isGuard,Code.isCaller,Code.frames,Code.isFrame,guardIds]
def Us {A:aaV}:(A.under (.builtin "type.__call__" ⟨.ref C::us,kw⟩)).units=A.units+1:=by
 first|rfl|simp [Around.under,Code.cUnits,Code.frames,Code.isFrame]
def Room.make {k:Nat} {A:aaV} (r:Room (k+1) A) (C:Addr) (us:List Value) (kw:List (Str×Value)):Room k (A.under (.builtin "type.__call__" ⟨.ref C::us,kw⟩)):=
 ⟨r.hd,by have:=r.dp;rw [Ut];omega,by have:=r.un;rw [Us];omega⟩
def Room.depth {k:Nat} {A:aaV} (r:Room k A):A.depth<recursionLimit:=by have:=r.dp;omega
def Room.units {k:Nat} {A:aaV} (r:Room k A):A.units+64<cLine:=by have:=r.un;omega
def tNil:TA:=fun _ H Q=>Q [] H
def je2 (ta:TE) (tr:TA):TA:=fun σ H Q=>ta σ H fun x H1=>tr σ H1 fun xs H2=>Q (x::xs) H2
section
variable {X:Cx} {e:Expr} {es:List Expr} {te:TE} {t:TA} {pos:Pos}
def wJ:PA X [] tNil:=fun _ _ _ _ H Q I h=>Calls.spliced_nil ⟨[],H,I,.nil,h⟩
def qg (ha:PE X e te) (hr:PA X es t) (hs:T9 X e es:=by rfl):PA X (e::es) (je2 te t):=by
 intro pos pins s σ H Q I h;rw [hs];show wpAny _ _ (spliced ((false,eval e X.env)::abo pos (aai es X.env))) _ _ s;refine Calls.spliced_cons (thn (ha pins s σ H _ I h) fun u s1 ⟨x,H1,I1,r1,q1⟩=>?_);exact thn (hr pos pins s1 σ H1 _ I1 q1) fun us s2 ⟨xs,H2,I2,r2,q2⟩=>⟨x::xs,H2,I2,.cons r1 r2,q2⟩
def tTup (t:TA):TE:=fun σ H Q=>t σ H fun xs H1=>xs.length<=aak/\ ∀p,H1 p=none->Q (.ref p) (upd H1 p (.tup xs))
def tLst (t:TA):TE:=fun σ H Q=>t σ H fun xs H1=>xs.length<=aak/\ ∀p,H1 p=none->Q (.ref p) (upd H1 p (.lst xs))
def jcg {x1} (h:PA X es t):PE X (.Tuple es x1 pos) (tTup t):=by
 intro pins s σ H Q I hq;refine wpAny_Tuple_spliced (thn (h pos pins s σ H _ I hq) fun us s1 ⟨xs,H1,I1,r,z,q⟩=>⟨by rw [←r.length];exact z,?_⟩);have hf:H1 s1.heap.objs.size=none:=I1.hok.fresh (aag _);refine ⟨.ref s1.heap.objs.size,upd H1 s1.heap.objs.size (.tup xs),I1.laid (t':=s1.toks) (fun b u e=>aac _ e) (aag _) ?_,rfl,q _ hf⟩;exact ⟨z,us,r,⟨_,aao _ rfl,rfl,_,rfl⟩⟩
def jfA (h:PA X es t):PE X (.List es pos) (tLst t):=by
 intro pins s σ H Q I hq;refine wpAny_List_spliced (thn (h pos pins s σ H _ I hq) fun us s1 ⟨xs,H1,I1,r,z,q⟩=>⟨by rw [←r.length];exact z,?_⟩);have hf:H1 s1.heap.objs.size=none:=I1.hok.fresh (aag _);refine ⟨.ref s1.heap.objs.size,upd H1 s1.heap.objs.size (.lst xs),I1.laid (t':=s1.toks) (fun b u e=>aac _ e) (aag _) ?_,rfl,q _ hf⟩;exact ⟨z,us,0,r,aao _ rfl⟩
end
abbrev Sp:=List V->Hp->VK->XK->Prop
abbrev CXT:=List Env->Hp->aaf->XK->Value->aaf->Prop
structure Env0 (P:aay) (w:World) (K:aab) (mg:Yx) (base:Heap) (A:aaV) (outer:List Env) (s:aaf) (H:Hp):Prop where
 frames:A.frames=some outer
 mod:Mod K mg base
 bs: ∀b o,base.get? b=some o->s.heap.get? b=some o/\H b=none
 bsz:base.objs.size<=s.heap.objs.size
 funs:s.heap.FunFrames base outer
 frf: ∀b∈frs outer,H b=none
 hok:HOk P w H s.heap
 bare:aeS s.gens
def CE (outer:List Env) (P:aay) (w:World) (H:Hp) (s:aaf) (Q:VK) (u:Value) (s':aaf):Prop:=
 ∃v H',s'.os=s.os/\aeS s'.gens/\Un (frs outer) [] H H' s.heap s'.heap/\HOk P w H' s'.heap/\RelV v u/\Q v H'
def CR (CX:CXT) (outer:List Env) (P:aay) (w:World) (H:Hp) (s:aaf) (Q:VK) (E:XK) (r:Result) (s':aaf):Prop:=
 match r with
 | .ok (.ret u)=>CE outer P w H s Q u s'
 | .ok _=>False
 | .error e=>CX outer H s E e s'
structure FnOk (P:aay) (w:World) (K:aab) (mg:Yx) (base:Heap) (CX:CXT) (k:Nat) (f:Addr) (fd:abJ) (ps:List Str) (sp:Sp):Prop where
 len: ∀vs H Q E,sp vs H Q E->vs.length=ps.length
 run: ∀(A:aaV) (outer:List Env) (s:aaf) (H:Hp) (args:Args) (us:List Value) (vs:List V) (Q:VK) (E:XK),Room k A->Env0 P w K mg base A outer s H->BindsTo s fd args (ps.zip us)->Vals vs us->sp vs H Q E->
  adX (model P w) A (.call (.ref f) args) (CR CX outer P w H s Q E) s
def FnOk.mono {K:aab} {CX:CXT} {k:Nat} {sp:Sp} (F:FnOk P w K mg base CX j f fd ps sp) (h:j<=k):
 FnOk P w K mg base CX k f fd ps sp:=⟨F.len,fun A outer s H args us vs Q E hr=>F.run A outer s H args us vs Q E (hr.mono h)⟩
def Env0.make {K:aab} {A:aaV} {s:aaf} {H:Hp} (e:Env0 P w K mg base A outer s H) (C:Addr) (us:List Value) (kw:List (Str×Value)):
 Env0 P w K mg base (A.under (.builtin "type.__call__" ⟨.ref C::us,kw⟩)) outer s H:=⟨by first|exact e.frames| (simpa [Around.under,Code.envs,Code.isFrame,pushEnvs] using e.frames),e.mod,e.bs,e.bsz,e.funs,e.frf,e.hok,e.bare⟩
section
variable {X:Cx} {pins:List (Addr×Obj)} {σ:St} {H:Hp} {s s':aaf}
def Inv.env0 (I:Inv X pins σ H s):Env0 X.prog X.w X.K X.mg X.base X.A X.stack s H:=
 ⟨I.ok.frames,I.ok.mod,I.bs,aaw I.ok.bsz I.sz,I.stack,I.stkFree,I.hok,I.bare⟩
def Inv.after {Q:VK} (I:Inv X pins σ H s) (h:CE X.stack X.prog X.w H s Q u s'):EP X pins σ Q u s':=by
 obtain ⟨v,H',os,bare,un,hok,r,q⟩:=h;obtain ⟨hh,g,d,t,os'⟩:=s';obtain rfl:os'=s.os:=os;exact ⟨v,H',I.call (h':=hh) (g':=g) (d':=d) (t':=t) (ch:=[]) un hok bare (fun b z=>absurd z (by simp)),r,q⟩
end
def je3 (sp:Sp) (dvs:List V) (E:XK) (t:TA):TE:=fun σ H Q=>t σ H fun vs H1=>sp (vs++dvs) H1 Q E
def jgP (C:Addr) (m:Str) (sp:Sp) (dvs:List V) (E:XK) (ta:TE) (t:TA):TE:=fun σ H Q=>ta σ H fun x H1=> ∃a dx fs,x= .ref a/\H1 a=some (.ins C dx fs)/\fs.lookup m=none/\
 t σ H1 fun vs H2=>sp (x::(vs++dvs)) H2 Q E
def jgQ (C:Addr) (sp:Sp) (dvs:List V) (E:XK) (t:TA):TE:=fun σ H Q=>t σ H fun vs H1=> ∀x dx,H1 x=none->H1 dx=none->dx≠x->
 sp (.ref x::(vs++dvs)) (upd (upd H1 dx (.own x)) x (.ins C dx [])) (fun v H2=>v= .non/\Q (.ref x) H2) E
def Binds (K:aab) (fd:abJ) (ps:List Str) (ds:List Value):Prop:=
 ∀(s:aaf) (us:List Value),K.In s.heap->(us++ds).length=ps.length->BindsTo s fd ⟨us,[]⟩ (ps.zip (us++ds))
def Binds.all {K:aab} (h: ∀us:List Value,us.length=ps.length->bindArgs fd ⟨us,[]⟩=pure (ps.zip us)):Binds K fd ps []:=fun s us _ hl=>by
 rw [abC] at hl ⊢;exact .of_eq (h us hl)
def yN (CX:CXT) (X:Cx) (E:XK):Prop:= ∀(pins:List (Addr×Obj)) (σ:St) (H:Hp) (s:aaf) (e:Value) (s':aaf),Inv X pins σ H s->CX X.stack H s E e s'->X.xe e s'
section
variable {X:Cx} {CX:CXT} {k:Nat} {f C:Addr} {fd:abJ} {ps:List Str} {sp:Sp} {dvs:List V} {ds:List Value} {E:XK} {x m:Str} {p pos apos:Pos} {e o:Expr} {es:List Expr} {ta:TE} {t:TA}
def ki {pins:List (Addr×Obj)} {σ:St} {H:Hp} {s:aaf} {Q:VK} {us:List Value} {vs:List V} (F:FnOk X.prog X.w X.K X.mg X.base CX k f fd ps sp) (hr:Room k X.A) (hb:Binds X.K fd ps ds) (hd:Vals dvs ds) (hx:yN CX X E)
  (I:Inv X pins σ H s) (r:Vals vs us) (h:sp (vs++dvs) H Q E):wpAny (model X.prog X.w) X.A (call (.ref f) us) (EP X pins σ Q) X.xe s:=by
 have r2:Vals (vs++dvs) (us++ds):=r.append hd;have hl:(us++ds).length=ps.length:=by rw [←r2.length];exact F.len _ _ _ _ h
 refine adI (acI (F.run X.A X.stack s H ⟨us,[]⟩ (us++ds) (vs++dvs) Q E hr I.env0 (hb s us I.kIn hl) r2 h) fun r s' hq=>?_)
 cases r with
 |error e=>exact hx pins σ H s e s' I hq
 |ok fl=>
  cases fl with
  |ret u=>exact I.after hq
  |next=>exact abj hq
  |brk=>exact abj hq
  |cont=>exact abj hq
def YH (F:FnOk X.prog X.w X.K X.mg X.base CX k f fd ps sp) (hr:Room k X.A) (hg:Gl X x) (hm:X.mg x=some (.ref f)) (hk:aaZ X.K (.ref f)=true) (hb:Binds X.K fd ps ds) (hd:Vals dvs ds) (hx:yN CX X E)
  (ha:PA X (e::es) t) (hdb:Z0 x:=by decide) (he:T9 X e es:=by rfl) (hpl:T8 X pos es:=by rfl):
  PE X (.Call (.Name x p) (e::es) [] pos) (je3 sp dvs E t):=by
 intro pins s σ H Q I h;refine acr (yW I hg hm ?_ hdb);refine acO (h₀:=X.base) I.ok.mod.kin hk (thn (ha pos pins s σ H _ I h) fun us s1 ⟨vs,H1,I1,r,q⟩=>⟨I1.kIn,?_⟩) he hpl;exact ki F hr hb hd hx I1 r q
def jaT (F:FnOk X.prog X.w X.K X.mg X.base CX k f fd ps sp) (hr:Room k X.A) (hg:Gl X x) (hm:X.mg x=some (.ref f)) (hk:aaZ X.K (.ref f)=true) (hb:Binds X.K fd ps ds) (hd:Vals dvs ds) (hx:yN CX X E)
  (hdb:Z0 x:=by decide):PE X (.Call (.Name x p) [] [] pos) (je3 sp dvs E tNil):=by
 intro pins s σ H Q I h;refine acr (yW I hg hm ?_ hdb);exact PySem.W.callWith_K0 I.kIn hk (ki (us:=[]) F hr hb hd hx I .nil h)
def jdm {pl:Sem Bool} (he:PE X o ta) (c:Cls X.K C) (hm:Meth X.K C m f) (F:FnOk X.prog X.w X.K X.mg X.base CX k f fd ps sp) (hr:Room k X.A) (hb:Binds X.K fd ps ds) (hd:Vals dvs ds) (hx:yN CX X E) (ha:PA X (e::es) t)
  (hst:T9 X e es:=by rfl) (hpl:T8 X pos es:=by rfl)
  (ht:eval (.Call (.Attribute o m apos) (e::es) [] pos) X.env=(do
   let ov←eval o X.env
   ae5 apos.atName
   let (f,first)←adW [ov] (getMethod ov m pl)
   callWith pos f first (abo pos (aai (e::es) X.env)) (acs pos (abt [] X.env))):=by rfl):
  PE X (.Call (.Attribute o m apos) (e::es) [] pos) (jgP C m sp dvs E ta t):=by
 intro pins s σ H Q I h;refine adO (pl:=pl) (thn (he pins s σ H _ I h) fun u s1 ⟨x,H1,I1,rx,a,dx,fs,ex,ea,l,q⟩=>?_) ht;subst ex;obtain rfl:u=aau a:=rx;refine J5 I1 ea c hm l ?_;refine acO (first:=[.ref a]) (h₀:=X.base) I.ok.mod.kin hm.kp (thn (ha pos pins s1 σ H1 _ I1 q) fun us s2 ⟨vs,H2,I2,r,q2⟩=>⟨I2.kIn,?_⟩) hst hpl;exact ki (us:= .ref a::us) (vs:= .ref a::vs) F hr hb hd hx I2 (.cons rfl r) q2
structure Mk (K:aab) (C f:Addr):Prop where
 makes:adu K C=true
 init:abg K (.ref C) "__init__" =some (some (.ref f))
 fn:aeu K (.ref f)=true
 kp:aaZ K (.ref C)=true
def jaE {pins:List (Addr×Obj)} {σ:St} {H:Hp} {s:aaf} {Q:VK} {us:List Value} {vs:List V} (M:Mk X.K C f) (F:FnOk X.prog X.w X.K X.mg X.base CX k f fd ps sp) (hr:Room (k+1) X.A) (hb:Binds X.K fd ps ds) (hd:Vals dvs ds)
  (hx:yN CX X E) (I:Inv X pins σ H s) (r:Vals vs us)
  (h: ∀x dx,H x=none->H dx=none->dx≠x->sp (.ref x::(vs++dvs)) (upd (upd H dx (.own x)) x (.ins C dx [])) (fun v H2=>v= .non/\Q (.ref x) H2) E):
  wpAny (model X.prog X.w) X.A (call (.ref C) us) (EP X pins σ Q) X.xe s:=by
 have hq:=h (s.heap.objs.size+1) s.heap.objs.size (I.hok.fresh (aee _)) (I.hok.fresh (aag _)) (aaF (adf _));have I2:=Inv.made (C:=C) I;have r2:Vals (V.ref (s.heap.objs.size+1)::(vs++dvs)) (aau (s.heap.objs.size+1)::(us++ds)):= .cons rfl (r.append hd)
 have hl:(aau (s.heap.objs.size+1)::us++ds).length=ps.length:=by
  have e:=r2.length;rw [F.len _ _ _ _ hq] at e;exact e.symm
 refine adI (jba (f:=f) I.kIn M.makes M.init (beq_iff_eq.mp M.fn) (acI (F.run _ X.stack _ _ ⟨aau (s.heap.objs.size+1)::us,[]⟩ (aau (s.heap.objs.size+1)::(us++ds)) _ _ E (hr.make C us [])
  (I2.env0.make C us []) (hb _ (aau (s.heap.objs.size+1)::us) I2.kIn hl) r2 hq) fun r s' hq'=>?_))
 cases r with
 |error e=>exact hx pins σ _ _ e s' I2 hq'
 |ok fl=>
  cases fl with
  |ret u=>
   obtain ⟨v,H',I3,rv,ev,q3⟩:=I2.after hq';subst ev;exact ⟨rv,⟨V.ref (s.heap.objs.size+1),H',I3,rfl,q3⟩⟩
  |next=>exact abj hq'
  |brk=>exact abj hq'
  |cont=>exact abj hq'
def jdn (M:Mk X.K C f) (F:FnOk X.prog X.w X.K X.mg X.base CX k f fd ps sp) (hr:Room (k+1) X.A) (hg:Gl X x) (hm:X.mg x=some (.ref C)) (hb:Binds X.K fd ps ds) (hd:Vals dvs ds) (hx:yN CX X E)
  (ha:PA X (e::es) t) (hdb:Z0 x:=by decide) (he:T9 X e es:=by rfl) (hpl:T8 X pos es:=by rfl):
  PE X (.Call (.Name x p) (e::es) [] pos) (jgQ C sp dvs E t):=by
 intro pins s σ H Q I h;refine acr (yW I hg hm ?_ hdb);refine acO (h₀:=X.base) I.ok.mod.kin M.kp (thn (ha pos pins s σ H _ I h) fun us s1 ⟨vs,H1,I1,r,q⟩=>⟨I1.kIn,?_⟩) he hpl;exact jaE M F hr hb hd hx I1 r q
end
def PK (X:Cx) (kws:List acS) (t:TA):Prop:=
 ∀(pos:Pos) (pins:List (Addr×Obj)) (s:aaf) (σ:St) (H:Hp) (Q:List V->Hp->Prop),Inv X pins σ H s->t σ H Q->wpAny (model X.prog X.w) X.A (evalAll ((acs pos (abt kws X.env)).map (·.2))) (AP X pins σ Q) X.xe s
section
variable {X:Cx} {CX:CXT} {k:Nat} {f C:Addr} {fd:abJ} {ps ks:List Str} {sp:Sp} {E:XK} {x m:Str} {p pos apos kpos:Pos} {e o:Expr} {es:List Expr} {kws:List acS} {te ta:TE} {t tk:TA} {nm:Option Str}
def jft:PK X [] tNil:=fun _ _ _ _ H Q I h=>wpAny_evalAll_nil ⟨[],H,I,.nil,h⟩
def jdj (ha:PE X e te) (hr:PK X kws t):PK X (⟨nm,e,kpos⟩::kws) (je2 te t):=by
 intro pos pins s σ H Q I h;show wpAny _ _ (evalAll ((do let v←eval e X.env;ae5 pos;pure v)::(acs pos (abt kws X.env)).map (·.2))) _ _ s;refine wpAny_evalAll_cons (aaa (thn (ha pins s σ H _ I h) fun u s1 ⟨x,H1,I1,r1,q1⟩=>aaa (wpAny_standAt (aae ?_))));exact thn (hr pos pins s1 σ H1 _ I1 q1) fun us s2 ⟨xs,H2,I2,r2,q2⟩=>⟨x::xs,H2,I2,.cons r1 r2,q2⟩
variable {g:List Value->List Value->List Value} {gV:List V->List V->List V}
end
structure FnScope (N P:List Str) (sc:Scope):Prop where
 kind:sc.kind= .function
 co:sc.isCoroutine=false
 gen:sc.isGenerator=false
 nd:N.Nodup
 pre:N.take P.length=P
 par: ∀x∈P,sc.names.lookup x=some .local\/sc.names.lookup x=some .cell
 nofree: ∀y∈sc.names,y.2≠ .free
theorem Yf {kindOf:Str->Option NameKind} {x:Str}: ∀ {binds:List (Str×Value)} {m:Yx},(∀v,(x,v)∉binds)->bindL kindOf binds m x=m x
 | [],_,_=>rfl
 | (n,v)::r,m,h=>by
  unfold bindL;rw [Yf fun w hw=>h w (aal _ hw)]
  split
  · have:x≠n:=by rintro rfl;exact h v aap
    simp [this]
  · rfl
theorem Yh {kindOf:Str->Option NameKind} {x:Str}: ∀ {binds:List (Str×Value)} {m:Yx},(∀v,(x,v)∉binds)->bindC kindOf binds m x=m x
 | [],_,_=>rfl
 | (n,v)::r,m,h=>by
  unfold bindC;rw [Yh fun w hw=>h w (aal _ hw)]
  split
  · rfl
  · have:x≠n:=by rintro rfl;exact h v aap
    simp [this]
theorem Yg {kindOf:Str->Option NameKind} {x:Str} {v:Value}: ∀ {P:List Str} {vs:List Value} {i:Nat} {m:Yx},P.Nodup->P[i]?=some x->vs[i]?=some v->kindOf x=some .local->
  bindL kindOf (P.zip vs) m x=some v
 | [],_,_,_,_,h,_,_=>by simp at h
 |_::_,[],_,_,_,_,h,_=>by simp at h
 |p::P,w::vs,0,m,nd,h1,h2,hk=>by
  simp at h1 h2;subst h1;subst h2;show bindL kindOf ((p,w)::P.zip vs) m p=_;unfold bindL;rw [Yf fun v hv=>(acf.mp nd).1 (acB hv).1,if_pos hk];simp
 |p::P,w::vs,i+1,m,nd,h1,h2,hk=>by
  show bindL kindOf ((p,w)::P.zip vs) m x=_;unfold bindL;exact Yg (i:=i) (acf.mp nd).2 (by simpa using h1) (by simpa using h2) hk
theorem Yi {kindOf:Str->Option NameKind} {x:Str} {v:Value}: ∀ {P:List Str} {vs:List Value} {i:Nat} {m:Yx},P.Nodup->P[i]?=some x->vs[i]?=some v->kindOf x≠some .local->
  bindC kindOf (P.zip vs) m x=some v
 | [],_,_,_,_,h,_,_=>by simp at h
 |_::_,[],_,_,_,_,h,_=>by simp at h
 |p::P,w::vs,0,m,nd,h1,h2,hk=>by
  simp at h1 h2;subst h1;subst h2;show bindC kindOf ((p,w)::P.zip vs) m p=_;unfold bindC;rw [Yh fun v hv=>(acf.mp nd).1 (acB hv).1,if_neg hk];simp
 |p::P,w::vs,i+1,m,nd,h1,h2,hk=>by
  show bindC kindOf ((p,w)::P.zip vs) m x=_;unfold bindC;exact Yi (i:=i) (acf.mp nd).2 (by simpa using h1) (by simpa using h2) hk
def start (N:List Str) (vs:List V):St:=vs.map some++aaP (N.length-vs.length) none
def cxOf (CX:CXT) (P:aay) (w:World) (K:aab) (mg:Yx) (base:Heap) (N:List Str) (qual:Str) (scope:Scope) (f:Addr) (cd:Value) (A:aaV) (outer:List Env) (s:aaf) (H:Hp) (E:XK):Cx where
 prog:=P
 w:=w
 K:=K
 mg:=mg
 base:=base
 A:=A.deeper (ac4 qual scope s.heap.objs.size f cd)
 N:=N
 s₀:=s
 H₀:=H
 env:=ac4 qual scope s.heap.objs.size f cd
 outer:=outer
 stack:=ac4 qual scope s.heap.objs.size f cd::outer
 ex:=[]
 calm:=true
 fn:=fun _=>true
 pn:=[]
 xe:=fun e s'=>wpAny (model P w) (A.deeper (ac4 qual scope s.heap.objs.size f cd)) (leaving (ac4 qual scope s.heap.objs.size f cd) e) (fun _ s''=>CX outer H s E e s'') (fun e' s''=>CX outer H s E e' s'') s'
def VE {n:Nat} {x:Str} (h:sc.names.lookup x=some .cell): ∃c,(cellsFrom n sc.names []).lookup x=some c:=by
 have q:=PySem.W.cellsFrom_some sc.names n [] (.inl h);exact adj.mp q
def vI {CX:CXT} {P:aay} {w:World} {K:aab} {mg:Yx} {base:Heap} {N ps:List Str} {qual:Str} {scope:Scope} {f:Addr} {cd:Value} {A:aaV} {outer:List Env} {s s1:aaf} {H:Hp} {E:XK} {us:List Value} {vs:List V}
   (S:FnScope N ps scope) (hd:A.handled=none) (e0:Env0 P w K mg base A outer s H) (hl:vs.length=ps.length) (r:Vals vs us)
   (x:InCallC s s.heap.objs.size (bindL (ac4 qual scope s.heap.objs.size f cd).kindOf (ps.zip us) fun _=>none) (cellsFrom (s.heap.objs.size+1) scope.names []) (bindC (ac4 qual scope s.heap.objs.size f cd).kindOf (ps.zip us) fun _=>none) s1):
   Inv (cxOf CX P w K mg base N qual scope f cd A outer s H E) [] (start N vs) H s1:=by
 have hpl:ps.length<=N.length:=by have:=congrArg List.length S.pre;rw [adY] at this;omega
 obtain ⟨h1,tk,rfl,hk⟩:=x.done;have noA: ∀b:Addr,b∉(cxOf CX P w K mg base N qual scope f cd A outer s H E).ex:=fun b z=>absurd (show b∈([]:List Addr) from z) (by simp)
 refine ⟨⟨e0.mod,S.kind,rfl,rfl,aag _,fun y z c h1 h2=>?_,fun y hy=>?_,fun y c _ h=>?_,fun _=>hd,Around.frames_deeper e0.frames,.inr ⟨rfl,rfl⟩,fun b z=>absurd z (noA b),e0.bs,e0.bsz,fun b _ _=>noA b,fun b z=>absurd z (noA b),e0.funs,e0.frf⟩,
   rfl,e0.bare,Un.kept hk,⟨_,x.toInCall.ns,fun i y v h1 h2 h3=>?_⟩,fun y c h=>⟨_,x.cell y c h⟩,e0.hok.fresh (aag _),fun y c h=>?_,fun p hp=>absurd (show p∈([]:List (Addr×Obj)) from hp) (by simp),e0.hok.kept hk,?_⟩
 · exact name_of_addr x.apart (abS h1) (abS h2)
 · have hy:scope.names.lookup y=some .cell\/scope.names.lookup y=some .free:=hy;rcases hy with hy|hy
   · exact VE hy
   · exact absurd rfl (S.nofree _ (abS hy))
 · exact ae4 (x.above y c (abS h))
 · have hi:i<vs.length:=by
     unfold start at h2
     by_cases hi:i<vs.length
     · exact hi
     · rw [aaq (by simpa using hi)] at h2;rw [abk] at h2
       split at h2<;>cases h2
   have ha:vs[i]?=some v:=by
     unfold start at h2;rw [aaz (by simpa using hi),aaE] at h2
     cases e:vs[i]? with
     |none=>rw [e] at h2;cases h2
     |some a=>rw [e] at h2;cases h2;rfl
   obtain ⟨u,hu,rv⟩:=r.get ha
   have hp:ps[i]?=some y:=by
     rw [←S.pre,adk (by omega)];exact h1
   have ndP:ps.Nodup:=by rw [←S.pre];exact S.nd.sublist (List.take_sublist _ _)
   refine ⟨u,rv,?_⟩;rcases S.par y (aa2 hp) with k|k
   · exact .inl ⟨k,Yg ndP hp hu k⟩
   · obtain ⟨c,e⟩:=VE (n:=s.heap.objs.size+1) k;refine .inr ⟨.inl k,c,e,?_⟩;have q:=x.cell y c e;rw [Yi ndP hp hu (by show scope.names.lookup y≠_;rw [k];decide)] at q;exact q
 · exact e0.hok.fresh (ae4 (x.above y c (abS h)))
 · unfold start;show _=N.length;rw [aaC,aaj,acT];omega
def jbn {CX:CXT} {P:aay} {w:World} {K:aab} {mg:Yx} {base:Heap} {k:Nat} {f:Addr} {name qual:Str} {params:Arguments} {body:List Stmt} {scope:Scope} {dV kV doc pm cdv ct oc:Value} {an od:Option Addr}
  {osl:Array (Option Value)} {N ps:List Str} {sp:Sp} (lk:K.lookup f=some ⟨oc,od,.func (abh name qual params body scope dV kV doc pm an cdv ct),osl⟩) (hcd:acp K cdv qual=true) (S:FnScope N ps scope)
  (len: ∀vs H Q E,sp vs H Q E->vs.length=ps.length)
  (hbody: ∀(A:aaV) (outer:List Env) (s:aaf) (H:Hp) (vs:List V) (Q:VK) (E:XK),Room k (A.deeper (ac4 qual scope s.heap.objs.size f cdv))->sp vs H Q E->
    ∃t,PSs (cxOf CX P w K mg base N qual scope f cdv A outer s H E) body t/\t {nx:=fun _ H'=>Q .non H',rt:=Q} (start N vs) H):
  FnOk P w K mg base CX (k+1) f (abh name qual params body scope dV kV doc pm an cdv ct) ps sp:=by
 refine ⟨len,fun A outer s H args us vs Q E hr e0 hb r hsp=>?_⟩;have hl:=len _ _ _ _ hsp;have KX:K.In s.heap:=e0.mod.kin.keeps fun b o e=>(e0.bs b o e).1
 have lim:s.heap.NoLimit:=e0.mod.nolimit.keeps fun b o e=>(e0.bs b o e).1
 have hkind: ∀y∈ps.zip us,scope.names.lookup y.1=some .local\/(scope.names.lookup y.1=some .cell/\((cellsFrom (s.heap.objs.size+1) scope.names []).lookup y.1).isSome=true):=fun ⟨n,v⟩ hy=>by
  rcases S.par n (acB hy).1 with q|q
  · exact .inl q
  · exact .inr ⟨q,PySem.W.cellsFrom_some _ _ _ (.inl q)⟩
 refine codeAny_call_function hr.depth (KX _ _ lk) rfl S.co S.gen rfl (PySem.W.codeRec_of KX hcd) (hb _ _ _ _ ?_);refine wpAny_newFunctionEnv_cells S.kind hkind fun env he s1 x=>?_
 subst he;refine ⟨lim.keeps x.toInCall.keep,codeAny_func ?_⟩;obtain ⟨t,ht,hq⟩:=hbody A outer s H vs Q E (hr.deeper _) hsp;have I:Inv (cxOf CX P w K mg base N qual scope f cdv A outer s H E) [] (start N vs) H s1:=vI S hr.hd e0 hl r x;refine acn (ht [] s1 (start N vs) H _ I hq) (fun fl s' hs=>?_) fun e s' hs=>hs
 have fin: ∀ {σ':St} {H':Hp} {v:V} {u:Value},Inv (cxOf CX P w K mg base N qual scope f cdv A outer s H E) [] σ' H' s'->RelV v u->Q v H'->CE outer P w H s Q u s':=
  fun {σ' H' v u} J rv q=>⟨v,H',J.os,J.bare,J.base,J.hok,rv,q⟩
 cases fl with
 |ret u=>
  obtain ⟨v,σ',H',J,rv,q⟩:=hs;exact fin J rv q
 |next=>
  obtain ⟨σ',H',J,q⟩:=hs;exact fin (v:=V.non) (u:=abN) J rfl q
 |brk=>
  obtain ⟨_,_,_,q⟩:=hs;exact abj q
 |cont=>
  obtain ⟨_,_,_,q⟩:=hs;exact abj q
section
variable {X:Cx} {x:Str} {p pos:Pos} {e:Expr} {es:List Expr} {t:TA} {id T:String} {r:List V->Hp->VK->Prop}
def tCB (r:List V->Hp->VK->Prop) (t:TA):TE:=fun σ H Q=>t σ H fun vs H1=>r vs H1 Q
def xg (hc:CallR X (.builtin id) r) (hg:Gl X x) (hm:X.mg x=none) (hv:aba x=some (.builtin id)) (ha:PA X (e::es) t) (hn:x≠ "__name__" :=by decide) (hdb:Z0 x:=by decide)
  (he:T9 X e es:=by rfl) (hpl:T8 X pos es:=by rfl):PE X (.Call (.Name x p) (e::es) [] pos) (tCB r t):=by
 intro pins s σ H Q I h;refine acr (XB I hg hm hv ?_ hn hdb);exact PyProof.Rows.callWith_builtin1 (thn (ha pos pins s σ H _ I h) fun us s1 ⟨vs,H1,I1,r1,q1⟩=>hc pins s1 σ H1 vs us Q I1 r1 q1) he hpl
def Jr (hc:CallR X (.type T) r) (hg:Gl X x) (hm:X.mg x=none) (hv:aba x=some (.type T)) (ha:PA X (e::es) t) (hn:x≠ "__name__" :=by decide) (hdb:Z0 x:=by decide)
  (he:T9 X e es:=by rfl) (hpl:T8 X pos es:=by rfl):PE X (.Call (.Name x p) (e::es) [] pos) (tCB r t):=by
 intro pins s σ H Q I h;refine acr (XB I hg hm hv ?_ hn hdb);exact acR (thn (ha pos pins s σ H _ I h) fun us s1 ⟨vs,H1,I1,r1,q1⟩=>hc pins s1 σ H1 vs us Q I1 r1 q1) he hpl
end
end L2
variable {xs qs:List (List L2.Key×PySem.Addr×PySem.Value)} {H H' H1 H2 H0:L2.Hp} {v y v' cV:L2.V} {X:L2.Cx} {E:L2.Ends} {σ σ1 σ':L2.St} {vs ys:List L2.V} {r r':L2.R2} {CX:L2.CXT} {sp:L2.Sp} {kvs:List (List L2.Key×L2.V)} {ks ks0:List L2.Key} {trs:List (L2.TE×L2.TE)}
namespace HT
open PySem PyProof.Rows
section
variable {prog:aay} {w:World} {A:aaV} {E:Ud} {s:aaf}
def cat_tup {t b:Addr} {vs ws:List Value} {Q:Ud} (ht:IsTup s.heap t vs.toArray) (hb:IsTup s.heap b ws.toArray) (hv:vs≠[])
   (h1:ws=[]->Q (.ref t) s) (h2:ws≠[]->Q (.ref s.heap.objs.size) {s with heap:=s.heap.push {cls:= .type "tuple",data:= .seq (vs++ws).toArray}})
   (hsz:vs.length+ws.length<=aak):wpAny (model prog w) A (abP .Add (.ref t) (.ref b)) Q E s:=by
 obtain ⟨⟨cls,dd,data,sl⟩,ho,hc,n,hd⟩:=id ht;obtain ⟨⟨cls2,dd2,data2,sl2⟩,ho2,hc2,n2,hd2⟩:=id hb;simp only at hc hd hc2 hd2;subst hc hd hc2 hd2;have e:vs.toArray++ws.toArray=(vs++ws).toArray:=by simp
 by_cases hw:ws=[]
 · exact concat_meets ⟨_,ho,rfl⟩ ⟨_,ho2,rfl⟩ noFill_tuple_add seq_tuple_add PySem.F.slot_tuple_add PySem.F.entry_tuple_add (PySem.F.args_tuple_add_2 _ _)
    (tuple_addW1 t b vs.toArray ws.toArray n n2 dd dd2 sl sl2 (by simpa using hv) (by simp [hw])) ⟨ho,ho2,h1 hw⟩
 · refine concat_meets ⟨_,ho,rfl⟩ ⟨_,ho2,rfl⟩ noFill_tuple_add seq_tuple_add PySem.F.slot_tuple_add PySem.F.entry_tuple_add (PySem.F.args_tuple_add_2 _ _)
    (tuple_addW2 t b vs.toArray ws.toArray n n2 dd dd2 sl sl2 (by simpa using hv) (by simpa using hw) (by rw [aah,aah];exact hsz)) ⟨ho,ho2,?_⟩
   rw [e];exact h2 hw
def sIx (n d:Nat):Option Int->Nat
 |none=>d
 |some v=>if v<0 then (v+(n:Int)).toNat else min v.toNat n
def sIx_none (n d:Nat):sIx n d none=d:=rfl
def sIx_nat (n d k:Nat):sIx n d (some (k:Int))=min k n:=by
 show (if (k:Int)<0 then ((k:Int)+(n:Int)).toNat else min (k:Int).toNat n)=min k n;rw [if_neg (by omega),acC]
def jfd (n d:Nat) (hd:d<=n) (o:Option Int):sIx n d o<=n:=by
 cases o with
 |none=>exact hd
 |some v=>
  show (if v<0 then (v+(n:Int)).toNat else min v.toNat n)<=n
  by_cases hv:v<0
  · rw [if_pos hv];omega
  · rw [if_neg hv];exact Nat.min_le_right _ _
def uR (v:Int) (n d:Nat):(if v<0 then max (v+(n:Int)) 0 else min v (n:Int))=((sIx n d (some v):Nat):Int):=by
 show (if v<0 then max (v+(n:Int)) 0 else min v (n:Int))=(((if v<0 then (v+(n:Int)).toNat else min v.toNat n):Nat):Int)
 by_cases hv:v<0
 · simp only [if_pos hv];omega
 · simp only [if_neg hv];omega
def UI (lo hi:Option Int) (n:Nat):ac8 lo hi 1 (n:Int)=(((sIx n 0 lo:Nat):Int),((sIx n n hi:Nat):Int)):=by
 have h1: ¬((1:Int)<0):=by omega
 unfold ac8;simp only [h1,if_false];refine Prod.ext ?_ ?_
 · cases lo with
   |none=>rfl
   |some v=>exact uR v n 0
 · cases hi with
   |none=>rfl
   |some v=>exact uR v n n
def Ug (i j:Nat):acw (i:Int) (j:Int) 1=j-i:=by
 unfold acw;have h1:(1:Int)>0:=by omega
 simp only [h1,if_true,Int.ediv_one]
 split<;>omega
def Zq {v:Value} {o:Option Int} {Q:Option Int->aaf->Prop} (p:IsPart v o) (h:Q o s):wpAny (model prog w) A (Builtin.Slice.slicePartIndex v) Q E s:=by
 cases p with
 |none=>exact slicePart_none h
 |int i t=>exact slicePart_int h
def sliceApplied_gen {lo:Option Int} {n:Nat} {Q:Int×Int×Nat->aaf->Prop} (hs:s.heap.IsSliceOf sl vl vu .none) (pl:IsPart vl lo) (pu:IsPart vu hi)
  (h:Q (((sIx n 0 lo:Nat):Int),1,sIx n n hi-sIx n 0 lo) s):wpAny (model prog w) A (aeq (.ref sl) (pure (n:Int))) Q E s:=by
 obtain ⟨os,hos,hcs,hds⟩:=id hs;unfold aeq Builtin.Slice.sliceFields;refine aaa (aaa (abL hos hds (x:=vl) rfl (aaa (abL hos hds (x:=vu) rfl (aaa (abL hos hds (x:= .none) rfl (aae ?_)))))));refine aaa (slicePart_none ?_);show wpAny _ _ (if ((1:Int)==0)=true then _ else _) _ _ s;rw [if_neg (by decide)];refine aaa (Zq pl (aaa (Zq pu (aaa (aae ?_)))));show wpAny _ _ (match ac8 lo hi 1 (n:Int) with| (lo,hi)=>pure (lo,(1:Int),acw lo hi 1)) _ _ s;rw [UI lo hi n];show wpAny _ _ (pure (((sIx n 0 lo:Nat):Int),(1:Int),acw ((sIx n 0 lo:Nat):Int) ((sIx n n hi:Nat):Int) 1)) _ _ s;rw [Ug];exact aae h
def jaM (xs:Array Value) (i k:Nat):((aa5 k).filterMap fun (m:Nat)=>xs[((i:Int)+(m:Int)*1).toNat]?).toArray=((xs.toList.drop i).take k).toArray:=by
 have e:(fun (m:Nat)=>xs[((i:Int)+(m:Int)*1).toNat]?)=fun m=>xs[i+m]?:=by
  funext m;have:((i:Int)+(m:Int)*1).toNat=i+m:=by omega
  rw [this]
 rw [e];have:=pick_run xs i k;rw [List.filterMap_map] at this;have e2:((fun x=>xs[x]?) ∘ fun x=>i+x)=fun m=>xs[i+m]?:=rfl
 rw [e2] at this;rw [this]
def getItem_tuple_cut {t:Addr} {lo:Option Int} {Q:Ud} (ht:IsTup s.heap t items) (hs:s.heap.IsSliceOf sl vl vu .none) (pl:IsPart vl lo) (pu:IsPart vu hi)
  (hw: ¬(sIx items.size 0 lo=0/\sIx items.size items.size hi=items.size))
  (h:Q (.ref s.heap.objs.size) {s with heap:=s.heap.push {cls:= .type "tuple",data:= .seq ((items.toList.drop (sIx items.size 0 lo)).take (sIx items.size items.size hi-sIx items.size 0 lo)).toArray}})
  (hsz:items.size<=aak):wpAny (model prog w) A (getItem (.ref t) (.ref sl)) Q E s:=by
 have htake:sizeOk (.seq ((items.toList.drop (sIx items.size 0 lo)).take (sIx items.size items.size hi-sIx items.size 0 lo)).toArray):=by
  show ((items.toList.drop (sIx items.size 0 lo)).take (sIx items.size items.size hi-sIx items.size 0 lo)).toArray.size<=aak;rw [aah,adY,aeX,aaI];omega
 have hj:sIx items.size items.size hi<=items.size:=jfd _ _ (aag _) hi;obtain ⟨os,hos,hcs,hds⟩:=id hs;have hTs:s.TypeIs (.ref sl) "slice" :=⟨os,hos,hcs⟩
 unfold getItem
 try with_reducible refine aa4 ?_
 first|refine aaa (aae ?_)|skip
 refine aaa (wpAny_sequenceKey ht.typeIs (by decide) ?_)
 refine aaa (abl (name:=Str.ofString "__getitem__") ht.typeIs aa7
  (abD aa7 ht.typeIs entry_tuple_getitem ?_ (args_tuple_getitem _ _)))
 show wpAny _ _ (aer (.ref t)>>=_) _ _ s;refine aaa (aeI ht ?_);refine aaa (adP hTs ?_);rw [if_pos (by decide)];refine aaa (sliceApplied_gen hs pl pu ?_)
 have hno: ¬((((sIx items.size 0 lo:Nat):Int)==0&&(1:Int)==1&&(sIx items.size items.size hi-sIx items.size 0 lo)==items.size)=true):=by
  intro q;rw [aaD,aaD] at q;have q1:((sIx items.size 0 lo:Nat):Int)=0:=eq_of_beq q.1.1;have q2:sIx items.size items.size hi-sIx items.size 0 lo=items.size:=eq_of_beq q.2;exact hw ⟨by omega,by omega⟩
 show wpAny _ _ (if (((sIx items.size 0 lo:Nat):Int)==0&&(1:Int)==1&&(sIx items.size items.size hi-sIx items.size 0 lo)==items.size)=true then _ else _) _ _ s;rw [if_neg hno,jaM]
 first
  |exact aaa (m:=acD _) (aa8 (aae ⟨_,rfl,aae h⟩) htake)
  |exact aaa (m:=acD _) (aa8 (aaa (aae (aae ⟨_,rfl,aae h⟩))) htake)
  |exact aaa (aaa (m:=acD _) (aa8 (aae (aae ⟨_,rfl,aae h⟩)) htake))
  |exact aaa (aaa (m:=acD _) (aa8 (aae ⟨_,rfl,aae h⟩) htake))
end
end HT
namespace L2
open PySem PySem.Spec PyProof.Rows
abbrev TO:=St->Hp->(Option Int->Hp->Prop)->Prop
def PO (X:Cx) (e:Option Expr) (t:TO):Prop:=
 ∀(pins:List (Addr×Obj)) (s:aaf) (σ:St) (H:Hp) (Q:Option Int->Hp->Prop),Inv X pins σ H s->t σ H Q->
  wpAny (model X.prog X.w) X.A (evalPart e X.env) (fun u s'=> ∃o H',Inv X pins σ H' s'/\IsPart u o/\Q o H') X.xe s
def jcW:TO:=fun _ H Q=>Q none H
def jgK (t:TE):TO:=fun σ H Q=>t σ H fun x H1=> ∃i,x= .int i/\Q (some i) H1
section
variable {X:Cx} {e:Expr} {te:TE} {lo hi:Option Expr} {tl th:TO} {pos p2:Pos}
def jdi:PO X none jcW:=by
 intro pins s σ H Q I h;rw [evalPart_none];exact aae ⟨none,H,I,.none,h⟩
def jdh (h:PE X e te):PO X (some e) (jgK te):=by
 intro pins s σ H Q I hw;rw [evalPart_some];refine thn (h pins s σ H _ I hw) fun u s1 ⟨x,H1,I1,r1,q1⟩=>?_
 obtain ⟨i,rfl,q⟩:=q1;obtain ⟨t,rfl⟩:=r1;exact ⟨some i,H1,I1,.int i t,q⟩
def SlR (X:Cx) (r:V->Option Int->Option Int->Hp->VK->Prop):Prop:=
 ∀(pins:List (Addr×Obj)) (s:aaf) (σ:St) (H:Hp) (x:V) (v vl vu:Value) (lo hi:Option Int) (sl:Addr) (Q:VK),Inv X pins σ H s->RelV x v->s.heap.IsSliceOf sl vl vu .none->IsPart vl lo->IsPart vu hi->r x lo hi H Q->
  ∃T id,typeLookup (.type T) "__getitem__" =pure (some (.builtin id))/\s.TypeIs v T/\wpAny (model X.prog X.w) X.A (getItem v (.ref sl)) (EP X pins σ Q) X.xe s
def SlR.or {r r':V->Option Int->Option Int->Hp->VK->Prop} (h:SlR X r) (h':SlR X r'):SlR X (fun x lo hi H Q=>r x lo hi H Q\/r' x lo hi H Q):=by
 intro pins s σ H x v vl vu lo hi sl Q I rx hs pl pu q;rcases q with q|q
 · exact h pins s σ H x v vl vu lo hi sl Q I rx hs pl pu q
 · exact h' pins s σ H x v vl vu lo hi sl Q I rx hs pl pu q
def tSl (r:V->Option Int->Option Int->Hp->VK->Prop) (te:TE) (tl th:TO):TE:=fun σ H Q=>te σ H fun x H1=>tl σ H1 fun l H2=>th σ H2 fun u H3=>r x l u H3 Q
def KN {r:V->Option Int->Option Int->Hp->VK->Prop} (hr:SlR X r) (he:PE X e te) (hl:PO X lo tl) (hu:PO X hi th):PE X (.Subscript e (.Slice lo hi none p2) pos) (tSl r te tl th):=by
 intro pins s σ H Q I h;refine Subscript_ (thn (he pins s σ H _ I h) fun v s1 ⟨x,H1,I1,r1,q1⟩=>?_);refine wpAny_Slice (thn (hl pins s1 σ H1 _ I1 q1) fun vl s2 ⟨l,H2,I2,pl,q2⟩=>thn (hu pins s2 σ H2 _ I2 q2) fun vu s3 ⟨u,H3,I3,pu,q3⟩=>?_);rw [evalPart_none];refine aae ?_;have I4:Inv X pins σ H3 {s3 with heap:=s3.heap.push {cls:= .type "slice",data:= .fields #[vl,vu,.none]}}:=I3.kept (t':=s3.toks) fun b ob q=>aac _ q
 obtain ⟨T,id,hT,ht,hg⟩:=hr pins {s3 with heap:=s3.heap.push {cls:= .type "slice",data:= .fields #[vl,vu,.none]}} σ H3 x v vl vu l u s3.heap.objs.size Q I4 r1 (Heap.IsSliceOf.new ..) pl pu q3;show wpAny (model X.prog X.w) X.A (subscriptTail e (.Slice lo hi none p2) v (.ref s3.heap.objs.size)) (EP X pins σ Q) X.xe {s3 with heap:=s3.heap.push {cls:= .type "slice",data:= .fields #[vl,vu,.none]}};exact tail_any (ops:=[.ref s3.heap.objs.size,v]) ht hT hg (by with_unfolding_all rfl)
def cutV (xs:List V) (lo hi:Option Int):List V:=(xs.drop (HT.sIx xs.length 0 lo)).take (HT.sIx xs.length xs.length hi-HT.sIx xs.length 0 lo)
def Q7 (xs:List V) (lo hi:Option Int):(cutV xs lo hi).length<=xs.length:=by
 unfold cutV;rw [adY,aeX];omega
def rSlT (K:aab):V->Option Int->Option Int->Hp->VK->Prop:=fun x lo hi H Q=> ∃a xs,x= .ref a/\SqT K H a xs/\
 ¬(HT.sIx xs.length 0 lo=0/\HT.sIx xs.length xs.length hi=xs.length)/\ ∀p,H p=none->Q (.ref p) (upd H p (.tup (cutV xs lo hi)))
def sl_tup:SlR X (rSlT X.K):=by
 intro pins s σ H x v vl vu lo hi sl Q I rx hs pl pu h;obtain ⟨a,xs,rfl,hx,hw,q⟩:=h;cases rx;obtain ⟨its,r,ht,hz⟩:=I.tuple hx;have hlen:its.toArray.size=xs.length:=by rw [aah];exact r.length.symm
 refine ⟨"tuple",_,aa7.lookup,ht.typeIs,?_⟩;refine HT.getItem_tuple_cut ht hs pl pu (by rw [hlen];exact hw) ?_ (by rw [hlen];exact hz);rw [hlen];refine ⟨.ref s.heap.objs.size,_,I.laid (t':=s.toks) (o:= .tup (cutV xs lo hi)) (fun b ob q=>aac _ q) (aag _) ?_,rfl,q _ (I.hok.fresh (aag _))⟩;exact ⟨aaw (Q7 xs lo hi) hz,_,(r.drop (HT.sIx xs.length 0 lo)).take (HT.sIx xs.length xs.length hi-HT.sIx xs.length 0 lo),IsTup.new _ _⟩
def jc8 (K:aab):R2:=fun x y H Q=> ∃a b xs ys,x= .ref a/\y= .ref b/\SqT K H a xs/\SqT K H b ys/\xs≠[]/\xs.length+ys.length<=aak/\
 (ys=[]->Q (.ref a) H)/\(ys≠[]-> ∀p,H p=none->Q (.ref p) (upd H p (.tup (xs++ys))))
def Vals.nil_iff {xs:List V} (r:Vals xs us):us=[]↔xs=[]:=by
 cases r with
 |nil=>simp
 |cons _ _=>simp
def jdy:OpR X (abP .Add) (jc8 X.K):=by
 intro pins s σ H x y v u Q I rx ry h;obtain ⟨a,b,xs,ys,rfl,rfl,ha,hb,hx,hz,q1,q2⟩:=h;cases rx;cases ry;obtain ⟨its,r1,p1,_⟩:=I.tuple ha;obtain ⟨its2,r2,p2,_⟩:=I.tuple hb;refine HT.cat_tup p1 p2 (fun z=>hx (r1.nil_iff.mp z)) (fun z=>⟨.ref a,H,I,rfl,q1 (r2.nil_iff.mp z)⟩) (fun z=>?_) (by rw [←r1.length,←r2.length];exact hz);refine ⟨.ref s.heap.objs.size,_,I.laid (t':=s.toks) (o:= .tup (xs++ys)) (fun b ob q=>aac _ q) (aag _) ?_,rfl,q2 (fun w=>z (r2.nil_iff.mpr w)) _ (I.hok.fresh (aag _))⟩;exact ⟨by rw [aaC];exact hz,_,r1.append r2,IsTup.new _ _⟩
end
def ixN (n:Nat) (i:Int):Option Nat:=if 0<=i then (if i<n then some i.toNat else none) else if-(n:Int)<=i then some (i+n).toNat else none
def atI (xs:List α) (i:Int):Option α:=(ixN xs.length i).bind fun j=>xs[j]?
def vF {i:Int} (h:ixN n i=some j):seqIndex? i n=some j/\j<n/\ -(n:Int)<=i/\i<n:=by
 unfold ixN at h
 by_cases h0:0<=i
 · rw [if_pos h0] at h
   by_cases h1:i<n
   · rw [if_pos h1] at h;have e:i.toNat=j:=aaH h;exact ⟨by rw [seqIndex_of h0 h1,e],by omega,by omega,h1⟩
   · rw [if_neg h1] at h;cases h
 · rw [if_neg h0] at h
   by_cases h1: -(n:Int)<=i
   · rw [if_pos h1] at h;have e:(i+n).toNat=j:=aaH h;exact ⟨by rw [seqIndex_neg (by omega) h1,e],by omega,h1,by omega⟩
   · rw [if_neg h1] at h;cases h
def Ki {xs:List α} {i:Int} {v:α} (h:atI xs i=some v): ∃j,seqIndex? i xs.length=some j/\xs[j]?=some v/\j<xs.length/\ -(xs.length:Int)<=i/\i<xs.length:=by
 unfold atI at h
 cases e:ixN xs.length i with
 |none=>rw [e] at h;cases h
 |some j=>
  rw [e] at h;obtain ⟨h1,h2,h3,h4⟩:=vF e;exact ⟨j,h1,h,h2,h3,h4⟩
def atI_nat {xs:List α} {v:α} (h:xs[j]?=some v):atI xs (j:Int)=some v:=by
 have hj:j<xs.length:=(aav.mp h).1
 have e:ixN xs.length (j:Int)=some j:=by
  unfold ixN;rw [if_pos (by omega),if_pos (by omega)];simp
 unfold atI;rw [e];exact h
def WW (b:Expr):Prop:= ∀o i,subscripted b false o i=operate [o,i] (getItem o i)
def IxR (X:Cx) (r:R2):Prop:=
 ∀(value slice:Expr) (pins:List (Addr×Obj)) (s:aaf) (σ:St) (H:Hp) (x y:V) (v u:Value) (Q:VK),Inv X pins σ H s->RelV x v->RelV y u->r x y H Q->
  subscripted slice false v u=operate [v,u] (getItem v u)->wpAny (model X.prog X.w) X.A (subscriptTail value slice v u) (EP X pins σ Q) X.xe s
def MtR (X:Cx) (id:String) (r:V->List V->Hp->VK->Prop):Prop:=
 ∀(pins:List (Addr×Obj)) (s:aaf) (σ:St) (H:Hp) (x:V) (xs:List V) (v:Value) (us:List Value) (Q:VK),Inv X pins σ H s->RelV x v->Vals xs us->r x xs H Q->
  wpAny (model X.prog X.w) X.A (call (.builtin id) (v::us)) (EP X pins σ Q) X.xe s
section
variable {X:Cx} {a b:Expr} {ta tb:TE} {pos:Pos}
def IxR.or (h:IxR X r) (h':IxR X r'):IxR X (fun x y H Q=>r x y H Q\/r' x y H Q):=by
 intro value slice pins s σ H x y v u Q I rx ry q hs;rcases q with q|q
 · exact h value slice pins s σ H x y v u Q I rx ry q hs
 · exact h' value slice pins s σ H x y v u Q I rx ry q hs
def MtR.or {id:String} {r r':V->List V->Hp->VK->Prop} (h:MtR X id r) (h':MtR X id r'):MtR X id (fun x xs H Q=>r x xs H Q\/r' x xs H Q):=by
 intro pins s σ H x xs v us Q I rx rs q;rcases q with q|q
 · exact h pins s σ H x xs v us Q I rx rs q
 · exact h' pins s σ H x xs v us Q I rx rs q
def jdo (hr:IxR X r) (ha:PE X a ta) (hb:PE X b tb) (hs:WW b):PE X (.Subscript a b pos) (tOp r ta tb):=by
 intro pins s σ H Q I h;exact Subscript_ (binT ha hb I h fun v u s2 x y H2 I2 rx ry q=>hr a b pins s2 σ H2 x y v u Q I2 rx ry q (hs _ _))
def rIxL (K:aab):R2:=fun x y H Q=> ∃p xs i v,x= .ref p/\y= .int i/\SqL K H p xs/\atI xs i=some v/\Q v H
def rIxT (K:aab):R2:=fun x y H Q=> ∃p xs i v,x= .ref p/\y= .int i/\SqT K H p xs/\atI xs i=some v/\Q v H
def rIxS:R2:=fun x y H Q=> ∃z i c,x= .str z/\y= .int i/\z.length<=aak/\atI z.cps.toList i=some c/\Q (.str ⟨#[c]⟩) H
def ix_list:IxR X (rIxL X.K):=by
 intro value slice pins s σ H x y v u Q I rx ry h hs;obtain ⟨p,xs,i,z,rfl,rfl,hq,he,q⟩:=h;cases rx;obtain ⟨t,rfl⟩:=ry;obtain ⟨its,r,pl,hz⟩:=I.list hq;obtain ⟨j,h1,h2,h3,h4,h5⟩:=Ki he;obtain ⟨w,ew,rw'⟩:=r.get h2;have hl:=r.length;have hn:=ZA;have fin:EP X pins σ Q w s:=⟨z,H,I,rw',q⟩
 by_cases h0:0<=i
 · have hj:i.toNat=j:=by
    rw [seqIndex_of h0 h5] at h1;exact aaH h1
   exact item_listR pl.isList h0 (by omega) (by rw [hj];simpa using ew) fin hs
 · have hj:(i+(its.toArray.size:Int)).toNat=j:=by
    rw [seqIndex_neg (by omega) h4] at h1;rw [aah,←hl];exact aaH h1
   exact subscriptTail_builtinR (x:=w) pl.isList.typeIs slot_list_getitem.lookup
    (wpAny_getItem_list_neg (Q:=fun r s'=>r=w/\EP X pins σ Q r s') pl.isList (by omega) (by rw [aah]<;>omega) (by omega) (by rw [hj];simpa using ew) ⟨rfl,fin⟩) hs
def ix_tup:IxR X (rIxT X.K):=by
 intro value slice pins s σ H x y v u Q I rx ry h hs;obtain ⟨p,xs,i,z,rfl,rfl,hq,he,q⟩:=h;cases rx;obtain ⟨t,rfl⟩:=ry;obtain ⟨its,r,pl,hz⟩:=I.tuple hq;obtain ⟨j,h1,h2,h3,h4,h5⟩:=Ki he;obtain ⟨w,ew,rw'⟩:=r.get h2;have hl:=r.length;have hn:=ZA;have fin:EP X pins σ Q w s:=⟨z,H,I,rw',q⟩
 exact subscriptTail_builtinR (x:=w) pl.typeIs aa7.lookup
  (getItem_tuple (j:=j) (Q:=fun r s'=>r=w/\EP X pins σ Q r s') pl (by omega) (by omega) (by rw [aah,←hl];exact h1) (by simpa using ew) ⟨rfl,fin⟩) hs
def jf0:IxR X rIxS:=by
 intro value slice pins s σ H x y v u Q I rx ry h hs;obtain ⟨z,i,c,rfl,rfl,hz,he,q⟩:=h;obtain ⟨t,rfl⟩:=rx;obtain ⟨t',rfl⟩:=ry;obtain ⟨j,h1,h2,h3,h4,h5⟩:=Ki he;have hl:z.cps.toList.length=z.length:=by simp [Str.length]
 rw [hl] at h1 h4 h5;have hn:=ZA
 exact tail_any (typeIs_str s z t) slot_str_getitem.lookup (getItem_str (c:=c) (by
  have e1:decide (i< -(2^63:Int))=false:=decide_eq_false (by omega);have e2:decide (i>=2^63)=false:=decide_eq_false (by omega)
  rw [e1,e2,Bool.or_false]) (by rw [h1];simpa using h2) ⟨.str ⟨#[c]⟩,H,I.tok _,⟨_,rfl⟩,q⟩) hs
def rIx (K:aab):R2:=fun x y H Q=>rIxL K x y H Q\/rIxT K x y H Q\/rIxS x y H Q
def jcp:IxR X (rIx X.K):=ix_list.or (ix_tup.or jf0)
def Ur (its:List Value) (n j:Nat) (u:Value):acN (·.setIfInBounds j u) {cls:= .type "list",data:= .seq its.toArray n}={cls:= .type "list",data:= .seq (its.set j u).toArray n}:=by
 simp [acN]
def Inv.lst {pins:List (Addr×Obj)} {σ:St} {H:Hp} {s:aaf} {p:Addr} {xs:List V} (I:Inv X pins σ H s) (h:H p=some (.lst xs)):
  ∃(its:List Value) (n:Nat),Vals xs its/\s.heap.get? p=some {cls:= .type "list",data:= .seq its.toArray n}/\xs.length<=aak:=by
 obtain ⟨z,its,n,r,e⟩:=I.hok p _ h;exact ⟨its,n,r,e,z⟩
def Inv.lstUpd {σ:St} {s:aaf} {p:Addr} {xs ys:List V} {its its':List Value} {n n':Nat} {f:Obj->Obj} (I:Inv X pins σ H s) (h:H p=some (.lst xs))
  (ho:s.heap.get? p=some {cls:= .type "list",data:= .seq its.toArray n}) (hf:f {cls:= .type "list",data:= .seq its.toArray n}={cls:= .type "list",data:= .seq its'.toArray n'}) (r:Vals ys its') (hz:ys.length<=aak) (t:Nat):
  Inv X pins σ (upd H p (.lst ys)) {s with heap:=s.heap.update p f,toks:=t}:=by
 have e:(s.heap.update p f).get? p=some {cls:= .type "list",data:= .seq its'.toArray n'}:=by
  rw [acU f ho (by rw [hf]<;>rfl),hf]
 refine I.write (x:=p) (e:=p) (by rw [h];trivial) (.inl rfl) (fun b u hb q=>(acj _ _ (adh hb)).trans q) ⟨_,e⟩ ?_;exact ⟨hz,its',n',r,e⟩
def jg1:V->V->V->Hp->(Hp->Prop)->Prop:=fun o i v H Q=> ∃p xs k j,o= .ref p/\i= .int k/\H p=some (.lst xs)/\ixN xs.length k=some j/\Q (upd H p (.lst (xs.set j v)))
def jaC:PSet X jg1:=by
 intro pins s σ H o i v ov iv u Q I ro ri rv h;obtain ⟨p,xs,k,j,rfl,rfl,hp,hj,q⟩:=h;cases ro;obtain ⟨t,rfl⟩:=ri;obtain ⟨its,n,r,ho,hz⟩:=I.lst hp;obtain ⟨h1,h2,h3,h4⟩:=vF hj;have hl:=r.length;have hn:=ZA
 have I':Inv X pins σ (upd H p (.lst (xs.set j v))) {s with heap:=s.heap.update p (acN (·.setIfInBounds j u))}:=
   I.lstUpd hp ho (Ur its n j u) (r.set rv j) (by rw [List.length_set];exact hz) s.toks
 by_cases h0:0<=k
 · have hk:k.toNat=j:=by
    rw [seqIndex_of h0 h4] at h1;exact aaH h1
   exact PySem.W.ki_setAt ho h0 (by omega) (by rw [aah,←hl];exact h4) (by rw [hk];exact ⟨_,I',q⟩)
 · have hk:(k+(its.toArray.size:Int)).toNat=j:=by
    rw [seqIndex_neg (by omega) h3] at h1;rw [aah,←hl];exact aaH h1
   exact PySem.W.ki_setBack ho (by omega) (by rw [aah,←hl];exact h3) (by omega) (by rw [hk];exact ⟨_,I',q⟩)
def Xd (lo hi:Option Int) (n:Nat):(adJ lo hi none n).1=((HT.sIx n 0 lo:Nat):Int)/\(adJ lo hi none n).2.1=((HT.sIx n n hi:Nat):Int)/\(adJ lo hi none n).2.2=1:=by
 refine ⟨?_,?_,rfl⟩
 · cases lo with
   |none=>simp [adJ,HT.sIx]
   |some i=>
    simp only [adJ,HT.sIx,aeY,show (1:Int)>0 by decide,if_true]
    by_cases h:i<0
    · simp only [h,if_true]<;>omega
    · simp only [h,if_false]<;>omega
 · cases hi with
   |none=>simp [adJ,HT.sIx]
   |some i=>
    simp only [adJ,HT.sIx,aeY,show (1:Int)>0 by decide,if_true]
    by_cases h:i<0
    · simp only [h,if_true]<;>omega
    · simp only [h,if_false]<;>omega
def ZY (its:List Value) (lo hi:Option Int):slicePick its.toArray lo hi none=((its.drop (HT.sIx its.length 0 lo)).take (HT.sIx its.length its.length hi-HT.sIx its.length 0 lo)).toArray:=by
 obtain ⟨h1,h2,h3⟩:=Xd lo hi its.toArray.size;unfold slicePick;rw [h1,h2,h3];simp only [sliceRange_one,pick_run,aah]<;>rfl
def rSlL (K:aab):V->Option Int->Option Int->Hp->VK->Prop:=fun x lo hi H Q=> ∃a xs,x= .ref a/\SqL K H a xs/\ ∀p,H p=none->Q (.ref p) (upd H p (.lst (cutV xs lo hi)))
def sl_list:SlR X (rSlL X.K):=by
 intro pins s σ H x v vl vu lo hi sl Q I rx hs pl pu h;obtain ⟨a,xs,rfl,hx,q⟩:=h;cases rx;obtain ⟨its,r,ht,hz⟩:=I.list hx;have hlen:=r.length;refine ⟨"list",_,slot_list_getitem.lookup,ht.isList.typeIs,?_⟩;refine wpAny_getItem_list_slice ht.isList hs pl pu .none (by simp) ?_ (by rw [aah]<;>omega);rw [ZY,←hlen];refine ⟨.ref s.heap.objs.size,_,I.laid (t':=s.toks) (o:= .lst (cutV xs lo hi)) (fun b ob q=>aac _ q) (aag _) ?_,rfl,q _ (I.hok.fresh (aag _))⟩;exact ⟨aaw (Q7 xs lo hi) hz,_,0,(r.drop (HT.sIx xs.length 0 lo)).take (HT.sIx xs.length xs.length hi-HT.sIx xs.length 0 lo),aao _ rfl⟩
def call_len_seq:CallR X (.builtin "len") (fun xs H Q=> ∃p ys,xs=[.ref p]/\(SqL X.K H p ys\/SqT X.K H p ys)/\Q (.int ys.length) H):=by
 intro pins s σ H xs us Q I r h;obtain ⟨p,ys,rfl,hq,q⟩:=h;obtain ⟨u,rfl,rx⟩:=Jj r;cases rx;have hn:=ZA;rcases hq with hq|hq
 · obtain ⟨its,r',pl,hz⟩:=I.list hq;have hlen:=r'.length;exact Calls.call_len_list pl.isList (by simp only [aah]<;>omega) ⟨.int ys.length,H,I.tok _,⟨s.toks+1,by rw [aah,hlen]⟩,q⟩
 · obtain ⟨its,r',pl,hz⟩:=I.tuple hq;have hlen:=r'.length;exact len_tuple pl (by simp only [aah]<;>omega) ⟨.int ys.length,H,I.tok _,⟨s.toks+1,by rw [aah,hlen]⟩,q⟩
def X8:CallR X (.builtin "len") (fun xs H Q=> ∃z,xs=[.str z]/\z.length<=aak/\Q (.int z.length) H):=by
 intro pins s σ H xs us Q I r h;obtain ⟨z,rfl,hz,q⟩:=h;obtain ⟨u,rfl,t,rfl⟩:=Jj r;have hn:=ZA;exact len_str (by omega) ⟨.int z.length,H,I.tok _,⟨_,rfl⟩,q⟩
def CallR.or {f:Value} {r r':List V->Hp->VK->Prop} (h:CallR X f r) (h':CallR X f r'):CallR X f (fun xs H Q=>r xs H Q\/r' xs H Q):=by
 intro pins s σ H xs us Q I rs q;rcases q with q|q
 · exact h pins s σ H xs us Q I rs q
 · exact h' pins s σ H xs us Q I rs q
def X7:CallR X (.type "list") (fun xs H Q=> ∃p ys,xs=[.ref p]/\(SqL X.K H p ys\/SqT X.K H p ys)/\ ∀l,H l=none->Q (.ref l) (upd H l (.lst ys))):=by
 intro pins s σ H xs us Q I r h;obtain ⟨p,ys,rfl,hq,q⟩:=h;obtain ⟨u,rfl,rx⟩:=Jj r;cases rx
 have fin: ∀(its:List Value),Vals ys its->ys.length<=aak-> ∀(h':Heap) (c':Nat),(∀b o',s.heap.get? b=some o'->h'.get? b=some o')->
    h'.get? s.heap.objs.size=some {cls:= .type "list",dict:=none,data:= .seq its.toArray c',slots:= #[]}->EP X pins σ Q (.ref s.heap.objs.size) {s with heap:=h'}:=fun its r' hz h' c' kp e=>
   ⟨.ref s.heap.objs.size,_,I.laid (t':=s.toks) kp (aag _) (show ObjOk X.prog X.w _ h' _ (.lst ys) from ⟨hz,its,c',r',e⟩),rfl,q _ (I.hok.fresh (aag _))⟩
 rcases hq with hq|hq
 · obtain ⟨its,r',pl,hz⟩:=I.list hq;have hlen:=r'.length;obtain ⟨o,ho,hc,n,hd⟩:=pl.isList;exact call_list_seq p (.inl rfl) ho hc hd (fun h' c' kp e=>fin its r' hz h' c' kp e) (by simp only [aah]<;>omega)
 · obtain ⟨its,r',pl,hz⟩:=I.tuple hq;have hlen:=r'.length;obtain ⟨o,ho,hc,n,hd⟩:=pl;exact call_list_seq p (.inr rfl) ho hc hd (fun h' c' kp e=>fin its r' hz h' c' kp e) (by simp only [aah]<;>omega)
def zI:CallR X (.type "tuple") (fun xs H Q=> ∃p ys,xs=[.ref p]/\((SqL X.K H p ys/\ ∀l,H l=none->Q (.ref l) (upd H l (.tup ys)))\/(SqT X.K H p ys/\Q (.ref p) H))):=by
 intro pins s σ H xs us Q I r h;obtain ⟨p,ys,rfl,h⟩:=h;obtain ⟨u,rfl,rx⟩:=Jj r;cases rx;rcases h with ⟨hq,q⟩| ⟨hq,q⟩
 · obtain ⟨its,r',pl,hz⟩:=I.list hq;have hlen:=r'.length;refine call_tuple_list pl.isList (fun h' kp=>?_) (by simp only [aah]<;>omega);have I1:Inv X pins σ H {s with heap:=h'}:=I.kept (t':=s.toks) kp
   have I2:Inv X pins σ (upd H h'.objs.size (.tup ys)) {s with heap:=h'.push {cls:= .type "tuple",data:= .seq its.toArray}}:=
    I1.laid (t':=s.toks) (fun b o e=>aac _ e) (aag _) (show ObjOk X.prog X.w _ _ _ (.tup ys) from ⟨hz,its,r',IsTup.new _ _⟩)
   exact ⟨.ref h'.objs.size,_,I2,rfl,q _ (I1.hok.fresh (aag _))⟩
 · obtain ⟨its,r',pl,hz⟩:=I.tuple hq;exact call_tuple_same pl ⟨.ref p,H,I,rfl,q⟩
def tyV (K:aab) (T:String) (x:V) (H:Hp):Prop:=match x with
 | .str _=>T= "str"
 | .int _=>T= "int"
 | .ref p=>(T= "list" /\ ∃xs,SqL K H p xs)\/(T= "tuple" /\ ∃o,K.lookup p=some o/\o.cls= .type "tuple" /\o.dict=none)\/
  (T= "dict" /\((∃kvs,H p=some (.dK kvs))\/ ∃kvs,H p=some (.dT kvs)))\/(T= "set" /\ ∃S n,H p=some (.set S n))
 |_=>False
def jeW {σ:St} {s:aaf} {T:String} {x:V} {v:Value} (I:Inv X pins σ H s) (r:RelV x v) (ty:tyV X.K T x H):
  s.TypeIs v T/\ ∀a,v= .ref a-> ∃ob,s.heap.get? a=some ob/\ob.dict=none:=by
 cases x with
 |str z=>
  obtain ⟨t,rfl⟩:=r;cases (show T= "str" from ty);exact ⟨typeIs_str s z t,fun _ e=>nomatch e⟩
 |int i=>
  obtain ⟨t,rfl⟩:=r;cases (show T= "int" from ty);exact ⟨typeIs_int s i t,fun _ e=>nomatch e⟩
 |ref p=>
  cases r;rcases ty with ⟨rfl,xs,hq⟩| ⟨rfl,o,hk,hc,hd⟩| ⟨rfl,hk⟩| ⟨rfl,S,n,hk⟩
  · obtain ⟨its,_,pl,_⟩:=I.list hq;refine ⟨pl.isList.typeIs,fun a e=>?_⟩;cases e;obtain ⟨o,n,e,c,hd,_⟩:=pl;exact ⟨o,e,hd⟩
  · refine ⟨⟨o,I.kIn p o hk,hc⟩,fun a e=>?_⟩;cases e;exact ⟨o,I.kIn _ o hk,hd⟩
  · have z: ∃o,s.heap.get? p=some o/\o.ExactDict:=by
     rcases hk with ⟨kvs,hk⟩| ⟨kvs,hk⟩
     · obtain ⟨_,_,_,_,o,_,_,e,ex,_⟩:=I.hok p _ hk;exact ⟨o,e,ex⟩
     · obtain ⟨_,_,_,_,o,_,_,e,ex,_⟩:=I.hok p _ hk;exact ⟨o,e,ex⟩
    obtain ⟨o,e,ex⟩:=z;refine ⟨⟨o,e,ex.1⟩,fun a e2=>?_⟩;cases e2;exact ⟨o,e,ex.2.1⟩
  · obtain ⟨o,_,_,_,e,ex,_⟩:=I.hok p _ hk;refine ⟨⟨o,e,ex.1⟩,fun a e2=>?_⟩;cases e2;exact ⟨o,e,ex.2.1⟩
 |_=>exact abj ty
def tBM (K:aab) (T:String) (r:V->List V->Hp->VK->Prop) (to:TE) (t:TA):TE:=fun σ H Q=>to σ H fun x H1=>tyV K T x H1/\t σ H1 fun xs H2=>r x xs H2 Q
variable {o e:Expr} {es:List Expr} {to:TE} {t:TA} {name:Str} {apos cpos:Pos} {T id:String} {r:V->List V->Hp->VK->Prop}
def jaU (pa:PlainAttrs T) (slot:Slot T name id) (hty:typeOf (.builtin id)=pure (.type "method_descriptor")) (hm:MtR X id r) (ho:PE X o to) (ha:PA X (e::es) t)
  (hbase:ab7 o name X.env (eval o X.env)=eval o X.env:=by rfl)
  (hfew:((abo cpos (aai (e::es) X.env)).all (fun x=>!x.1)&&(acs cpos (abt [] X.env)).all (fun x=>x.1.isSome)
   &&decide ((e::es).length+([]:List acS).length+(if ([]:List acS).isEmpty then 0 else 1)<30))=true:=by rfl)
  (hline:(apos.endLine==cpos.line)=true:=by rfl) (hs:T9 X e es:=by rfl) (hplain:T8 X cpos es:=by rfl):
  PE X (.Call (.Attribute o name apos) (e::es) [] cpos) (tBM X.K T r to t):=by
 intro pins s σ H Q I h;refine wpAny_Call_method_late hbase hfew hline rfl (thn (ho pins s σ H _ I h) fun v s1 ⟨x,H1,I1,r1,ty,q1⟩=>?_);obtain ⟨h1,h2⟩:=jeW I1 r1 ty;refine ⟨T,id,pa,slot,hty,h1,h2,?_⟩;have hA:=ha cpos pins s1 σ H1 _ I1 q1;rw [hs] at hA ⊢;refine Calls.callWith_builtin (by show (false|| (abo cpos (aai es X.env)).any (·.1))=false;rw [hplain]<;>rfl) (Calls.evalArgs_plain ?_);exact thn hA fun us s2 ⟨vs,H2,I2,r2,q2⟩=>hm pins s2 σ H2 x vs v us Q I2 r1 r2 q2
/-xs.append(e),list.index on a module's tuple .. are MtR facts of 06m-/
end
def MtM (X:Cx) (id:String) (r:V->List V->Hp->VK->Prop):Prop:=
 ∀(pins:List (Addr×Obj)) (s:aaf) (σ:St) (H:Hp) (x:V) (xs:List V) (v:Value) (us:List Value) (Q:VK),Inv X pins σ H s->RelV x v->Vals xs us->r x xs H Q->
  wpAny (model X.prog X.w) X.A (call (.builtin id) (v::us)) (EP X pins σ Q) X.xe s
theorem Vals.one: ∀ {x:V} {us:List Value},Vals [x] us-> ∃u,us=[u]/\RelV x u
 |_,_,.cons r .nil=>⟨_,rfl,r⟩
theorem Vals.rep {xs:List V} (h:Vals xs us): ∀k:Nat,Vals (aaP k xs).flatten (aaP k us).flatten
 |0=> .nil
 |k+1=>by
  rw [abT,abT,acE,acE];exact Vals.append h (Vals.rep h k)
theorem XR (its:List Value): ∀(k:Nat) (acc:List Value),
  List.foldl (fun x1 x2=>x1++x2) acc.toArray (aaP k its.toArray)=(acc++(aaP k its).flatten).toArray
 |0,acc=>by simp
 |k+1,acc=>by
  have e:acc.toArray++its.toArray=(acc++its).toArray:=by simp
  have e2:(acc++its)++(aaP k its).flatten=acc++(aaP (k+1) its).flatten:=by
   rw [abT,acE,aaY]
  rw [←e2,←XR its k (acc++its),←e,abT,aef]
section
variable {X:Cx} {pins:List (Addr×Obj)} {σ:St} {H:Hp} {s:aaf} {l b:Addr} {xs ys zs:List V}
def Inv.lset {its its':List Value} {n:Nat} {f:Array Value->Array Value} {t':Nat} (I:Inv X pins σ H s) (hH:H l=some (.lst xs))
  (e:s.heap.get? l=some {cls:= .type "list",data:= .seq its.toArray n}) (hf:f its.toArray=its'.toArray) (hv:Vals ys its') (hz:ys.length<=aak):
  Inv X pins σ (upd H l (.lst ys)) {s with heap:=s.heap.update l (acN f),toks:=t'}:=by
 have q:=PySem.IsL.update e f;rw [hf] at q;refine I.write (x:=l) (e:=l) (by rw [hH];exact trivial) (.inl rfl) (fun b' u hb hu=>(acj s.heap (acN f) (adh hb)).trans hu) ⟨_,q⟩ ?_;exact ⟨hz,its',_,hv,q⟩
def Inv.lnew {t':Nat} (I:Inv X pins σ H s) (hv:Vals ys its) (hz:ys.length<=aak):
  Inv X pins σ (upd H s.heap.objs.size (.lst ys)) {s with heap:=s.heap.push {cls:= .type "list",data:= .seq its.toArray},toks:=t'}:=
 I.laid (fun _ _ q=>aac _ q) (aag _) ⟨hz,its,0,hv,aao _ rfl⟩
def Inv.fresh (I:Inv X pins σ H s):H s.heap.objs.size=none:=I.hok.fresh (aag _)
def Inv.lstM (I:Inv X pins σ H s) (hH:H l=some (.lst xs)):xs.length<=aak/\ ∃(its:List Value) (n:Nat),Vals xs its/\xs.length=its.length/\s.heap.get? l=some {cls:= .type "list",data:= .seq its.toArray n}:=by
 obtain ⟨z,its,n,r,e⟩:=I.hok l _ hH;exact ⟨z,its,n,r,r.length,e⟩
def KS (h:n<=aak):ab2 n=false:=by
 unfold ab2;exact decide_eq_false (by omega)
end
section
variable {X:Cx}
def jc9:V->List V->Hp->VK->Prop:=fun x vs H Q=> ∃l xs y,x= .ref l/\vs=[y]/\H l=some (.lst xs)/\xs.length<aak/\Q .non (upd H l (.lst (xs++[y])))
def Xt:MtM X "list.append" jc9:=by
 intro pins s σ H x vs v us Q I rx rv h;obtain ⟨l,xs,y,rfl,rfl,hH,hz,q⟩:=h;cases rx;obtain ⟨u,rfl,ru⟩:=rv.one;obtain ⟨z,its,n,r,hl,e⟩:=I.lstM hH;refine adK F.slot_list_append ⟨_,e,rfl⟩ F.entry_list_append (F.args_list_append_2 _ _) (PySem.list_append l its.toArray n u (by rw [aah];omega)) ⟨e,?_⟩;refine ⟨.non,_,I.lset (its':=its++[u]) hH e (by simp) (r.append (.cons ru .nil)) ?_,rfl,q⟩;rw [aaC,List.length_singleton];omega
def jc7:V->List V->Hp->VK->Prop:=fun x vs H Q=> ∃l b xs zs,x= .ref l/\vs=[.ref b]/\H l=some (.lst xs)/\H b=some (.lst zs)/\xs.length+zs.length<=aak/\Q .non (upd H l (.lst (xs++zs)))
def vf:MtM X "list.extend" jc7:=by
 intro pins s σ H x vs v us Q I rx rv h;obtain ⟨l,b,xs,zs,rfl,rfl,hH,hB,hz,q⟩:=h;cases rx;obtain ⟨u,rfl,ru⟩:=rv.one;cases ru;obtain ⟨z,its,n,r,hl,e⟩:=I.lstM hH;obtain ⟨z2,its2,n2,r2,hl2,e2⟩:=I.lstM hB;have hsz:its.toArray.size+its2.toArray.size<=aak:=by rw [aah,aah];omega
 have hlong: ¬(!its.toArray.isEmpty&&ab2 (its.toArray.size+its2.toArray.size))=true:=by
  rw [KS hsz,Bool.and_false];exact aaN
 refine adK ad1 ⟨_,e,rfl⟩ F.entry_list_extend (F.args_list_extend_2 _ _)
  (AutoSeq1.list_extend_list_list_0 l its.toArray n b its2.toArray n2 hlong (by rw [aah];omega) (by omega)) ⟨e,e2,?_⟩
 refine ⟨.non,_,I.lset (its':=its++its2) hH e (by simp) (r.append r2) ?_,rfl,q⟩;rw [aaC];omega
def rCat:R2:=fun x y H Q=> ∃l b xs zs,x= .ref l/\y= .ref b/\H l=some (.lst xs)/\H b=some (.lst zs)/\xs.length+zs.length<=aak/\ ∀p,H p=none->Q (.ref p) (upd H p (.lst (xs++zs)))
def op_cat:OpR X (abP .Add) rCat:=by
 intro pins s σ H x y v u Q I rx ry h;obtain ⟨l,b,xs,zs,rfl,rfl,hH,hB,hz,q⟩:=h;cases rx;cases ry;obtain ⟨z,its,n,r,hl,e⟩:=I.lstM hH;obtain ⟨z2,its2,n2,r2,hl2,e2⟩:=I.lstM hB;refine PySem.P.add_list e e2 ?_ (by rw [aah,aah];omega);have ea:its.toArray++its2.toArray=(its++its2).toArray:=by simp
 rw [ea];exact ⟨.ref _,_,I.lnew (t':=s.toks) (r.append r2) (by rw [aaC];omega),rfl,q _ I.fresh⟩
def vt (xs:List α) (k:Nat):(aaP k xs).flatten.length=k*xs.length:=by
 induction k with
 |zero=>simp
 |succ k ih=>rw [abT,acE,aaC,ih,adQ,Nat.add_comm]
end
section
variable {κ:Type} [DecidableEq κ]
def valV (kvs:List (κ×V)) (k:κ):Option V:=(kvs.find? fun kv=>decide (kv.1=k)).map (·.2)
def putK (kvs:List (κ×V)) (k:κ) (v:V):List (κ×V):=
 if (kvs.any fun kv=>decide (kv.1=k))=true then kvs.map (fun kv=>if kv.1=k then (kv.1,v) else kv) else kvs++[(k,v)]
def ZT {p:κ×V} {r:List (κ×V)} {k:κ} (e:p.1=k):valV (p::r) k=some p.2:=by simp [valV,acV,e]
def ZU {p:κ×V} {r:List (κ×V)} {k:κ} (e: ¬p.1=k):valV (p::r) k=valV r k:=by simp [valV,acV,e]
theorem ZV (k:κ): ∀kvs:List (κ×V),(kvs.any fun kv=>decide (kv.1=k))=(valV kvs k).isSome
 | []=>rfl
 |p::r=>by
  rw [ad8]
  by_cases e:p.1=k
  · simp only [ZT e,decide_eq_true e,Bool.true_or,Option.isSome_some]
  · rw [ZU e,decide_eq_false e,Bool.false_or];exact ZV k r
def yV (kvs:List (κ×V)) (k:κ) (v:V):(putK kvs k v).length<=kvs.length+1:=by
 unfold putK
 split
 · rw [aaj];omega
 · rw [aaC,aaL,acA];omega
def RelO.isSome_eq {o:Option V} {u:Option Value} (r:RelO o u):o.isSome=u.isSome:=by
 cases o with
 |none=>cases u with
  |none=>rfl
  |some _=>exact (show False from r).elim
 |some _=>cases u with
  |none=>exact (show False from r).elim
  |some _=>rfl
def RelO.getD {o:Option V} {u:Option Value} {d:V} (r:RelO o u) (rd:RelV d d'):RelV (o.getD d) (u.getD d'):=by
 cases o with
 |none=>cases u with
  |none=>exact rd
  |some _=>exact (show False from r).elim
 |some _=>cases u with
  |none=>exact (show False from r).elim
  |some _=>exact r
def KV.val {kvs:List (κ×V)} {vs:List (κ×Value)} (r:KV kvs vs) (k:κ):RelO (valV kvs k) (aeT vs k):=by
 unfold KV at r
 induction r with
 |nil=>exact aco
 | @cons p q ps qs h t ih=>
  obtain ⟨h1,h2⟩:=h
  by_cases e:p.1=k
  · have e':q.1=k:=h1.symm.trans e;have b:aeT (q::qs) k=some q.2:=by simp [aeT,acV,e']
    rw [ZT e,b];exact h2
  · have e': ¬q.1=k:=fun z=>e (h1.trans z)
    have b:aeT (q::qs) k=aeT qs k:=by simp [aeT,acV,e']
    rw [ZU e,b];exact ih
def KV.any {kvs:List (κ×V)} {vs:List (κ×Value)} (r:KV kvs vs) (k:κ):(kvs.any fun kv=>decide (kv.1=k))=vs.any fun kv=>decide (kv.1=k):=by
 unfold KV at r
 induction r with
 |nil=>rfl
 |cons h t ih=>rw [ad8,ad8,ih,h.1]
def KV.repl {kvs:List (κ×V)} {vs:List (κ×Value)} (r:KV kvs vs) (k:κ) (ry:RelV y u):
  KV (kvs.map fun kv=>if kv.1=k then (kv.1,y) else kv) (vs.map fun kv=>if kv.1=k then (kv.1,u) else kv):=by
 unfold KV at r ⊢
 induction r with
 |nil=>exact .nil
 | @cons p q ps qs h t ih=>
  rw [aaB,aaB];refine .cons ?_ ih;obtain ⟨h1,h2⟩:=h
  by_cases e:p.1=k
  · rw [if_pos e,if_pos (h1.symm.trans e)];exact ⟨h1,ry⟩
  · rw [if_neg e,if_neg (fun z=>e (h1.trans z))];exact ⟨h1,h2⟩
def KV.put {kvs:List (κ×V)} {vs:List (κ×Value)} (r:KV kvs vs) (k:κ) (ry:RelV y u):KV (putK kvs k y) (stored vs k u):=by
 unfold putK stored;rw [r.any k]
 by_cases e:(vs.any fun kv=>decide (kv.1=k))=true
 · rw [if_pos e,if_pos e];exact r.repl k ry
 · rw [if_neg e,if_neg e];exact Paired.snoc r ⟨rfl,ry⟩
def KV.length {kvs:List (κ×V)} {vs:List (κ×Value)} (r:KV kvs vs):kvs.length=vs.length:=ad7 r
end
def Ux {k:Key} (r:RelV (kV k) u):(jM P w).is k u=true:=by
 cases k with
 |inl i=>obtain ⟨t,e⟩:=(show∃t,u=ae3 i t from r);subst e;exact YT P w i t
 |inr x=>obtain ⟨t,e⟩:=(show∃t,u=Value.str x t from r);subst e;exact YS P w x t
theorem XF: ∀ {ks:List Key} {us:List Value},Vals (ks.map kV) us->ItemsAre (jM P w) ks us
 | [],_,r=>by rw [ae7] at r;cases r;exact .nil
 |k::ks,_,r=>by
  rw [aaB] at r
  cases r with
  |cons h t=>exact .cons (Ux h) (XF t)
abbrev KT (H:Hp):List (List Key×V)->List (List Key×Addr×Value)->Prop:=aeJ fun p q=>p.1=q.1/\H q.2.1=some (.tup (p.1.map kV))/\RelV p.2 q.2.2
def KT.val (r:KT H kvs xs) (k:List Key):RelO (valV kvs k) ((atKey xs k).map (·.2)):=by
 induction r with
 |nil=>exact aco
 | @cons p q ps qs h t ih=>
  obtain ⟨h1,_,h2⟩:=h
  by_cases e:p.1=k
  · have e':q.1=k:=h1.symm.trans e;have b:atKey (q::qs) k=some q.2:=by simp [atKey,acV,e']
    rw [ZT e,b];exact h2
  · have e': ¬q.1=k:=fun z=>e (h1.trans z)
    have b:atKey (q::qs) k=atKey qs k:=by simp [atKey,acV,e']
    rw [ZU e,b];exact ih
def KT.repl (r:KT H kvs xs) (k:List Key) (ry:RelV y u):
  KT H (kvs.map fun kv=>if kv.1=k then (kv.1,y) else kv) (xs.map (putAt k u)):=by
 induction r with
 |nil=>exact .nil
 | @cons p q ps qs h t ih=>
  rw [aaB,aaB];refine .cons ?_ ih;obtain ⟨h1,h2,h3⟩:=h;unfold putAt
  by_cases e:p.1=k
  · rw [if_pos e,if_pos (h1.symm.trans e)];exact ⟨h1,h2,ry⟩
  · rw [if_neg e,if_neg (fun z=>e (h1.trans z))];exact ⟨h1,h2,h3⟩
def KT.put (r:KT H kvs xs) (k:List Key) {b:Addr} (hb:H b=some (.tup (k.map kV))) (ry:RelV y u):
   KT H (putK kvs k y) (storedH xs k b u):=by
 have e:(kvs.any fun kv=>decide (kv.1=k))=(atKey xs k).isSome:=by
   rw [ZV,(r.val k).isSome_eq,Option.isSome_map]
 unfold putK storedH;rw [e]
 by_cases q:(atKey xs k).isSome=true
 · rw [if_pos q,if_pos q];exact r.repl k ry
 · rw [if_neg q,if_neg q];exact Paired.snoc r ⟨rfl,hb,ry⟩
def KT.keeps (r:KT H kvs xs) (ht: ∀b ys,H b=some (.tup ys)->H' b=some (.tup ys)):KT H' kvs xs:=
 aeJ.mapP r fun _ _ z=>⟨z.1,ht _ _ z.2.1,z.2.2⟩
section
variable {P:aay} {w:World} {H:Hp} {h:Heap} {a:Addr}
def jfi {u:HO} (ok:HOk P w H h) (e:Rd H a u):ObjOk P w H h a u:=e.ok ok
def Y9 {kvs:List (Key×V)} (ok:HOk P w H h) (e:Rd H a (.dK kvs)):kvs.length<=aak/\(a==acz)=false/\ ∃vs,KV kvs vs/\h.DictOf (jM P w) a vs:=
 show ObjOk P w H h a (.dK kvs) from jfi ok e
def jbF {kvs:List (Key×V)} (ok:HOk P w H h) (e:H a=some (.dK kvs)):kvs.length<=aak/\(a==acz)=false/\ ∃vs,KV kvs vs/\h.DictOf (jM P w) a vs:=Y9 ok (.inl e)
def QR (ok:HOk P w H h) (e:H a=some (.tup (ks.map kV))):(acL (jM P w)).is h ks a:=by
 obtain ⟨_,its,r,o,h1,h2,n,h3⟩:=(show ObjOk P w H h a (.tup (ks.map kV)) from ok a _ e)
 exact ⟨o,its.toArray,n,h1,h2,h3,by simpa using XF r⟩
def uz (ok:HOk P w H h) (e:Rd H a (.dT kvs)):kvs.length<=aak/\(a==acz)=false/\
  ∃xs,KT H kvs xs/\h.DictOfH (acL (jM P w)) a xs:=by
 obtain ⟨z,y,xs,r,o,es,ep,h1,h2,h3,h4,h5⟩:=(show ObjOk P w H h a (.dT kvs) from jfi ok e)
 refine ⟨z,y,xs,r,o,es,ep,h1,h2,h3,h4,fun x hx=>?_,h5⟩
 have all: ∀ {l:List (List Key×V)} {m:List (List Key×Addr×Value)},KT H l m-> ∀x∈m,(acL (jM P w)).is h x.1 x.2.1:=by
  intro l m q
  induction q with
  |nil=>intro x hx;exact nomatch hx
  | @cons p q ps qs hq t ih=>
   intro x hx;rcases aaG.mp hx with e|hx
   · subst e;exact QR ok (by rw [←hq.1];exact hq.2.1)
   · exact ih x hx
 exact all r x hx
def jhi (ok:HOk P w H h) (e:H a=some (.dT kvs)):kvs.length<=aak/\(a==acz)=false/\
 ∃xs,KT H kvs xs/\h.DictOfH (acL (jM P w)) a xs:=uz ok (.inl e)
end
def DGet (H:Hp) (a:Addr) (y:V) (r:Option V):Prop:=
 (∃kvs k,Rd H a (.dK kvs)/\y=kV k/\r=valV kvs k)\/ ∃kvs k b,Rd H a (.dT kvs)/\y= .ref b/\H b=some (.tup (k.map kV))/\r=valV kvs k
def DPut (H:Hp) (a:Addr) (y v:V) (H':Hp):Prop:=
 (∃kvs k,H a=some (.dK kvs)/\y=kV k/\kvs.length<aak/\H'=upd H a (.dK (putK kvs k v)))\/
 ∃kvs k b,H a=some (.dT kvs)/\y= .ref b/\H b=some (.tup (k.map kV))/\kvs.length<aak/\H'=upd H a (.dT (putK kvs k v))
def DGet.k {kvs:List (Key×V)} {k:Key} (e:H a=some (.dK kvs)):DGet H a (kV k) (valV kvs k):= .inl ⟨kvs,k,.inl e,rfl,rfl⟩
def DGet.t {b:Addr} {k:List Key} (e:H a=some (.dT kvs)) (eb:H b=some (.tup (k.map kV))):DGet H a (.ref b) (valV kvs k):= .inr ⟨kvs,k,b,.inl e,rfl,eb,rfl⟩
def DPut.k {kvs:List (Key×V)} {k:Key} (e:H a=some (.dK kvs)) (hl:kvs.length<aak):DPut H a (kV k) v (upd H a (.dK (putK kvs k v))):= .inl ⟨kvs,k,e,rfl,hl,rfl⟩
def DPut.t {b:Addr} {k:List Key} {v:V} (e:H a=some (.dT kvs)) (eb:H b=some (.tup (k.map kV))) (hl:kvs.length<aak):
 DPut H a (.ref b) v (upd H a (.dT (putK kvs k v))):= .inr ⟨kvs,k,b,e,rfl,eb,hl,rfl⟩
section
variable {X:Cx} {pins:List (Addr×Obj)} {σ:St} {H:Hp} {s:aaf} {a:Addr} {y v:V} {u r:Value} {o:Option V} {A:aaV} {E:Ud}
def Inv.big (I:Inv X pins σ H s):acz<s.heap.objs.size:=by
 have h:aam<s.heap.objs.size:=(I.mod.glob.keeps I.bk).lt;exact ae8 (by decide) h
def uN {Q:Ud} (hu:A.units+1<cLine) (I:Inv X pins σ H s) (g:DGet H a y (some v)) (ry:RelV y u) (h: ∀w' s',Inv X pins σ H s'->RelV v w'->Q w' s'):
   wpAny (model X.prog X.w) A (getItem (.ref a) u) Q E s:=by
 rcases g with ⟨kvs,k,e,ey,l⟩| ⟨kvs,k,b,e,ey,eb,l⟩
 · subst ey;obtain ⟨z,hd,vs,rel,dd⟩:=Y9 I.hok e;obtain ⟨w',hw,rw'⟩:=RelO.some_of (v:=v) (o:=aeT vs k) (by rw [l];exact rel.val k);exact wpAny_getItem_of (Ux ry) dd.mapOf hw (h w' _ (I.tok _) rw')
 · subst ey;cases (show u=aau b from ry);obtain ⟨z,hd,xs,rel,dd⟩:=uz I.hok e;obtain ⟨w',hw,rw'⟩:=RelO.some_of (v:=v) (o:=(atKey xs k).map (·.2)) (by rw [l];exact rel.val k);obtain ⟨p,hp,hp2⟩:=abR.mp hw;refine wpAny_getItem_heap (adw hu) (QR I.hok eb) dd hp ?_;rw [hp2];exact h w' _ (I.tok _) rw'
def jev {Q:Ud} (hu:A.units+1<cLine) (I:Inv X pins σ H s) (g:DGet H a y o) (ry:RelV y u) (h: ∀s',Inv X pins σ H s'->Q (.bool (!o.isSome)) s'):
   wpAny (model X.prog X.w) A (abr .NotIn u (.ref a)) Q E s:=by
 rcases g with ⟨kvs,k,e,ey,l⟩| ⟨kvs,k,b,e,ey,eb,l⟩
 · subst ey;obtain ⟨z,hd,vs,rel,dd⟩:=Y9 I.hok e;refine wpAny_notIn_of (Ux ry) hd dd.mapOf ?_;rw [←(rel.val k).isSome_eq,←l];exact h _ (I.tok _)
 · subst ey;cases (show u=aau b from ry);obtain ⟨z,hd,xs,rel,dd⟩:=uz I.hok e;refine wpAny_notIn_heap (adw hu) (QR I.hok eb) hd dd ?_;have q:=(rel.val k).isSome_eq;rw [Option.isSome_map] at q;rw [←q,←l];exact h _ (I.tok _)
def Ke {t':Nat} {ob:HO} (I:Inv X pins σ H s) (mu:Mut (H a)) (hs:ab8 a s.heap h') (he: ∃q,h'.get? a=some q) (new:ObjOk X.prog X.w (upd H a ob) h' a ob):
  Inv X pins σ (upd H a ob) {s with heap:=h',toks:=t'}:=
 I.write (x:=a) (e:=a) mu (.inl rfl) (fun b q hb z=>(hs.2 b hb).trans z) he new
def uF {H':Hp} {kvs:List (Key×V)} {vs:List (Key×Value)} (z:kvs.length<=aak) (hd:(a==acz)=false) (rel:KV kvs vs) (dd:h'.DictOf (jM P w) a vs):
 ObjOk P w H' h' a (.dK kvs):=⟨z,hd,vs,rel,dd⟩
def uM {Q:Unit->aaf->Prop} (hu:A.units+1<cLine) (I:Inv X pins σ H s) (g:DPut H a y v H') (ry:RelV y u) (rv:RelV v r) (h: ∀s',Inv X pins σ H' s'->Q () s'):
   wpAny (model X.prog X.w) A (setItem (.ref a) u r) Q E s:=by
 rcases g with ⟨kvs,k,e,ey,l,eH⟩| ⟨kvs,k,b,e,ey,eb,l,eH⟩
 · subst ey eH;obtain ⟨z,hd,vs,rel,dd⟩:=jbF I.hok e;have hz:vs.length<=aak:=by rw [←rel.length];exact z
   have hl:(putK kvs k v).length<=aak:=by have:=yV kvs k v;omega
   refine wpAny_setItem_pairs (hsz:=hz) (Ux ry) dd fun h' dd' hs=>h _ ?_
   have he: ∃q,h'.get? a=some q:=let ⟨q,_,_,hq,_⟩:=dd';⟨q,hq⟩
   exact Ke I (by rw [e];exact aco) hs he (uF hl hd (rel.put k rv) dd')
 · subst ey eH;cases (show u=aau b from ry);obtain ⟨z,hd,xs,rel,dd⟩:=jhi I.hok e;have hz:xs.length<=aak:=by rw [←ad7 rel];exact z
   have hl:(putK kvs k v).length<=aak:=by have:=yV kvs k v;omega
   refine wpAny_setItem_heap (hsz:=hz) (adw hu) (QR I.hok eb) dd fun h' dd' hs=>h _ ?_
   obtain ⟨q,es,ep,hq,h2,h3,h4,_,h5⟩:=dd';refine Ke I (by rw [e];exact aco) hs ⟨q,hq⟩ ⟨hl,hd,_,(rel.put k eb rv).keeps fun c ys ec=>?_,q,es,ep,hq,h2,h3,h4,h5⟩;rw [jL (jg7 ec e (fun z=>nomatch z))];exact ec
end
section
variable {X:Cx} {pins:List (Addr×Obj)} {σ:St} {H:Hp} {s:aaf} {a:Addr} {kvs:List (Key×V)} {k:Key} {u:Value} {A:aaV} {E:Ud}
def jhk {Q:Ud} (I:Inv X pins σ H s) (e:Rd H a (.dK kvs)) (h: ∀t s',Inv X pins σ H s'->Q (.int kvs.length t) s'):wpAny (model X.prog X.w) A (call (.builtin "len") [.ref a]) Q E s:=by
 obtain ⟨z,hd,vs,rel,dd⟩:=Y9 I.hok e;refine call_len_dict hd dd (by rw [←rel.length];rw [ab4] at z;omega) ?_;rw [←rel.length];exact h _ _ (I.tok _)
end
def Ka {σ:St} {s:aaf} {o:Option V} (I:Inv X pins σ H s) (g:DGet H a y o):s.TypeIs (.ref a) "dict" :=by
 rcases g with ⟨kvs,k,e,_,_⟩| ⟨kvs,k,b,e,_,_,_⟩
 · obtain ⟨_,_,vs,_,dd⟩:=Y9 I.hok e;exact dd.typeIs
 · obtain ⟨_,_,xs,_,dd⟩:=uz I.hok e;exact dd.typeIs
def jgZ (td ty tv:TE):TS:=fun D σ H=>tv σ H fun v H1=>td σ H1 fun x H2=>ty σ H2 fun y H3=> ∃a H4,x= .ref a/\DPut H3 a y v H4/\D.nx σ H4
section
variable {X:Cx} {o i e value:Expr} {pos pos' tpos:Pos} {td ty tv:TE}
def kB (hu:X.A.units+1<cLine) (ho:PE X o td) (hi:PE X i ty) (hv:PE X value tv) (hs:acq value (some (.Subscript o i pos')) pos.line X.env=pure false):
  PS X (.Assign [.Subscript o i pos'] value pos) (jgZ td ty tv):=by
 intro pins s σ H D I h;refine wpAny_Assign_Subscript (thn (hv pins s σ H _ I h) fun r s1 ⟨v,H1,I1,rv,q1⟩=>thn (ho pins s1 σ H1 _ I1 q1) fun u s2 ⟨x,H2,I2,rx,q2⟩=>thn (hi pins s2 σ H2 _ I2 q2) fun iv s3 ⟨y,H3,I3,ry,a,H4,ex,g,q3⟩=>?_) hs;subst ex;obtain rfl:u=aau a:=rx;exact uM hu I3 g ry rv fun s4 I4=>⟨σ,H4,I4,q3⟩
end
def Vv (h:Heap) (hb:acz<h.objs.size):ObjOk P w H (h.push {cls:= .type "dict",data:= .dict #[]}) h.objs.size (.dK []):=
 ⟨abe _,beq_eq_false_iff_ne.mpr (adh (aaF hb)),[],.nil,Heap.DictOf.new h⟩
def jbx (h:Heap) (hb:acz<h.objs.size):ObjOk P w H (h.push {cls:= .type "dict",data:= .dict #[]}) h.objs.size (.dT []):=
 ⟨abe _,beq_eq_false_iff_ne.mpr (adh (aaF hb)),[],.nil,_, #[],0,aao _ rfl,⟨rfl,rfl,rfl⟩,rfl,rfl,List.nodup_nil⟩
def je1:TE:=fun _ H Q=> ∀p,H p=none->Q (.ref p) (upd H p (.dK []))
def je0:TE:=fun _ H Q=> ∀p,H p=none->Q (.ref p) (upd H p (.dT []))
section
variable {X:Cx} {pos:Pos}
def jaR:PE X (.Dict [] [] pos) je1:=fun pins s σ H Q I h=>
 wpAny_Dict_empty ⟨.ref s.heap.objs.size,_,I.laid (a:=s.heap.objs.size) (o:= .dK []) (t':=s.toks) (fun _ _ q=>aac _ q) (aag _) (Vv s.heap I.big),rfl,h _ (I.hok.fresh (aag _))⟩
def jaQ:PE X (.Dict [] [] pos) je0:=fun pins s σ H Q I h=>
 wpAny_Dict_empty ⟨.ref s.heap.objs.size,_,I.laid (a:=s.heap.objs.size) (o:= .dT []) (t':=s.toks) (fun _ _ q=>aac _ q) (aag _) (jbx s.heap I.big),rfl,h _ (I.hok.fresh (aag _))⟩
end
def UT:List (TE×TE)->St->Hp->(List (V×V)->Hp->Prop)->Prop
 | [],_,H,Q=>Q [] H
 | (tk,tv)::r,σ,H,Q=>tk σ H fun x H1=>tv σ H1 fun y H2=>UT r σ H2 fun ps H3=>Q ((x,y)::ps) H3
abbrev VV:List (V×V)->List (Value×Value)->Prop:=aeJ fun p q=>RelV p.1 q.1/\RelV p.2 q.2
def PPs (X:Cx) (pos:Pos) (keys:List (Option Expr)) (values:List Expr) (trs:List (TE×TE)):Prop:=
 ∀(pins:List (Addr×Obj)) (s:aaf) (σ:St) (H:Hp) (Q:List (V×V)->Hp->Prop),Inv X pins σ H s->UT trs σ H Q->
  wpAny (model X.prog X.w) X.A (evalPairs (pairTrees keys values X.env pos)) (fun vs s'=> ∃ps H',Inv X pins σ H' s'/\VV ps vs/\Q ps H') X.xe s
def jdg:PPs X pos [] [] []:=fun pins s σ H Q I h=>pairTrees_nil_walk ⟨[],H,I,.nil,h⟩
def jaL {k v:Expr} {ks:List (Option Expr)} {vs:List Expr} {tk tv:TE} (hk:PE X k tk) (hv:PE X v tv) (hr:PPs X pos ks vs trs):
  PPs X pos (some k::ks) (v::vs) ((tk,tv)::trs):=fun pins s σ H Q I h=>
 pairTrees_cons_walk (thn (hk pins s σ H _ I h) fun u s1 ⟨x,H1,I1,rx,q1⟩=>thn (hv pins s1 σ H1 _ I1 q1) fun w2 s2 ⟨y,H2,I2,ry,q2⟩=>
  thn (hr pins s2 σ H2 _ I2 q2) fun ws s3 ⟨ps,H3,I3,rel,q3⟩=>⟨(x,y)::ps,H3,I3,.cons ⟨rx,ry⟩ rel,q3⟩)
def Qd (kvs more:List (Key×V)):List (Key×V):=more.foldl (fun acc kv=>putK acc kv.1 kv.2) kvs
def KV.merge: ∀ {more:List (Key×V)} {rs:List (Key×Value)} {kvs:List (Key×V)} {vs:List (Key×Value)},KV more rs->KV kvs vs->KV (Qd kvs more) (merged vs rs):=by
 intro more rs kvs vs r;unfold KV at r
 induction r generalizing kvs vs with
 |nil=>intro q;exact q
 | @cons p q ps qs h t ih=>
  intro r0
  have e:KV (putK kvs p.1 p.2) (stored vs q.1 q.2):=by
   have:=r0.put p.1 h.2;rw [←h.1];exact this
  exact ih e
theorem JA: ∀(more kvs:List (Key×V)),(Qd kvs more).length<=kvs.length+more.length
 | [],kvs=>by show kvs.length<=kvs.length+0;omega
 |p::r,kvs=>by
  have h1:=JA r (putK kvs p.1 p.2);have h2:=yV kvs p.1 p.2;show (Qd (putK kvs p.1 p.2) r).length<=_;rw [aaL];omega
theorem ZO {P:aay} {w:World}: ∀ {kvs:List (Key×V)} {ws:List (Value×Value)},VV (kvs.map fun kv=>(kV kv.1,kv.2)) ws-> ∃rs,Carries (jM P w) ws rs/\KV kvs rs
 | [],_,r=>by rw [ae7] at r;cases r;exact ⟨[],aco,.nil⟩
 |p::kvs,_,r=>by
  rw [aaB] at r
  cases r with
  | @cons a b as bs h t=>
   obtain ⟨rs,c,q⟩:=ZO (P:=P) (w:=w) t;obtain ⟨b1,b2⟩:=b;exact ⟨(p.1,b2)::rs,⟨Ux h.1,rfl,c⟩,.cons ⟨rfl,h.2⟩ q⟩
def jgS (trs:List (TE×TE)):TE:=fun σ H Q=> ∀p,H p=none->UT trs σ (upd H p (.dK [])) fun ps H2=>H2 p=some (.dK [])/\ ∃kvs:List (Key×V),ps=kvs.map (fun kv=>(kV kv.1,kv.2))/\kvs.length<=15/\Q (.ref p) (upd H2 p (.dK (Qd [] kvs)))
def jdp {keys:List (Option Expr)} {values:List Expr} (h:PPs X pos keys values trs) (hall:keys.all (·.isSome)=true) (hl:keys.length=values.length) (h0:keys≠[])
  (h15:keys.length<=15):PE X (.Dict keys values pos) (jgS trs):=by
 intro pins s σ H Q I q;have hn:=I.hok.fresh (aag s.heap.objs.size);have I1:=I.laid (a:=s.heap.objs.size) (o:= .dK []) (h':=s.heap.push {cls:= .type "dict",data:= .dict #[]}) (t':=s.toks) (fun _ _ q=>aac _ q) (aag _) (Vv s.heap I.big);refine wpAny_Dict_walk (knd:=jM X.prog X.w) hall hl h0 h15 (thn (h pins _ σ _ _ I1 (q _ hn)) fun ws s2 ⟨ps,H2,I2,rel,e,kvs,ep,lk,q2⟩=>?_);subst ep;obtain ⟨rs,c,rk⟩:=ZO (P:=X.prog) (w:=X.w) rel;obtain ⟨z,hd,vs0,r0,dd⟩:=jbF I2.hok e;cases r0;refine ⟨rs,c,dd,fun h' dd' hs=>⟨.ref s.heap.objs.size,_,?_,rfl,q2⟩⟩
 have hz:(Qd [] kvs).length<=aak:=by
  have h1:=JA kvs [];rw [acA] at h1;rw [ab4];omega
 have he: ∃q,h'.get? s.heap.objs.size=some q:=let ⟨q,_,_,hq,_⟩:=dd';⟨q,hq⟩
 exact Ke I2 (by rw [e];exact aco) hs he (uF hz hd (rk.merge .nil) dd')
structure M1 (X:Cx) (o:Expr) (m:Str) (apos:Pos) (e:Expr) (cpos:Pos):Prop where
 base:ab7 o m X.env (eval o X.env)=eval o X.env
 few:((abo cpos (aai [e] X.env)).all (fun x=>!x.1)&&(acs cpos (abt [] X.env)).all (fun x=>x.1.isSome)
  &&decide (([e]:List Expr).length+([]:List acS).length+(if ([]:List acS).isEmpty then 0 else 1)<30))=true
 line:(apos.endLine==cpos.line)=true
 trees:abo cpos (aai [e] X.env)=[(false,eval e X.env)]
structure M2 (X:Cx) (o:Expr) (m:Str) (apos:Pos) (e f:Expr) (cpos:Pos):Prop where
 base:ab7 o m X.env (eval o X.env)=eval o X.env
 few:((abo cpos (aai [e,f] X.env)).all (fun x=>!x.1)&&(acs cpos (abt [] X.env)).all (fun x=>x.1.isSome)
  &&decide (([e,f]:List Expr).length+([]:List acS).length+(if ([]:List acS).isEmpty then 0 else 1)<30))=true
 line:(apos.endLine==cpos.line)=true
 trees:abo cpos (aai [e,f] X.env)=[(false,eval e X.env),(false,eval f X.env)]
section
variable {X:Cx} {pins:List (Addr×Obj)} {σ:St} {H:Hp} {s:aaf} {a:Addr} {y d:V} {u r:Value} {o:Option V} {A:aaV} {E:Ud}
def jgp {Q:Ud} (hu:A.units+1<cLine) (I:Inv X pins σ H s) (g:DGet H a y o) (ry:RelV y u) (rd:RelV d r) (h: ∀w' s',Inv X pins σ H s'->RelV (o.getD d) w'->Q w' s'):
   wpAny (model X.prog X.w) A (call (.builtin "dict.get") [.ref a,u,r]) Q E s:=by
 rcases g with ⟨kvs,k,e,ey,l⟩| ⟨kvs,k,b,e,ey,eb,l⟩
 · subst ey;obtain ⟨z,hd,vs,rel,dd⟩:=Y9 I.hok e;refine call_meetsIn adR dd.typeIs PySem.F.entry_dict_get (PySem.F.args_dict_get_3 _ _ _) (meets_dict_get_default (jM X.prog X.w) a (Ux ry) hd r) ⟨_,dd.mapOf,h _ _ (I.tok _) ?_⟩;rw [l];exact (rel.val k).getD rd
 · subst ey;cases (show u=aau b from ry);obtain ⟨z,hd,xs,rel,dd⟩:=uz I.hok e;refine call_meetsIn adR dd.typeIs PySem.F.entry_dict_get (PySem.F.args_dict_get_3 _ _ _) (meetsH_dict_get_default (acL (jM X.prog X.w)) a b hd r) ⟨adw hu,k,xs,QR I.hok eb,dd,h _ _ (I.tok _) ?_⟩;rw [l];exact (rel.val k).getD rd
end
section
variable {X:Cx} {pins:List (Addr×Obj)} {σ:St} {H:Hp} {s:aaf} {a:Addr} {kvs:List (Key×V)} {A:aaV} {E:Ud}
def jbP {Q:Ud} (I:Inv X pins σ H s) (e:Rd H a (.dK kvs)) (h: ∀p s',H p=none->Inv X pins σ (upd H p (.dK kvs)) s'->Q (.ref p) s'):wpAny (model X.prog X.w) A (call (.type "dict") [.ref a]) Q E s:=by
 obtain ⟨z,hd,vs,rel,dd⟩:=Y9 I.hok e;refine kt_call_dict hd dd (by rw [←rel.length];exact z) fun h' dd' hs=>?_
 refine h _ _ (I.hok.fresh (aag _)) (I.laid (a:=s.heap.objs.size) (o:= .dK kvs) (t':=s.toks) (fun b q hq=>?_) (aag _) (uF z (beq_eq_false_iff_ne.mpr (adh (aaF I.big))) rel dd'));exact (hs.2 b (aaF (aar hq))).trans (aac _ hq)
end
end L2
namespace Att
open PySem PySem.W PySem.Calls PyProof.Rows
def QV {P:Params}: ∀(ns:List Int) (vs:List Value),WellAll P h vs (ns.map WData.int)->IntsAre vs ns:=by
 intro ns
 induction ns with
 |nil=>
  intro vs w;rw [ae7] at w;cases w;exact .nil
 |cons n ns ih=>
  intro vs w;rw [aaB] at w
  cases w with
  |cons a b=>
   cases a;exact .cons _ _ (ih _ b)
def U9 {l:ae9} (hn:l.most=some n) {P:Params} {h:Heap} {args:List WData} {vals:List Value}
  (hpre:l.row.toRowW.claim.pre args=true) (hwl:WellAll P h vals args):
  ∃a vs ns,vals=[aau a]/\args=[WData.list (ns.map WData.int)]/\h.get? a=some {cls:= .type "list",data:= .seq vs.toArray}/\IntsAre vs ns/\ns.length<=n:=by
 have hsh:WShape.hasAll [] args [.list .int]=true:=(pre_splitW hpre).1;have hc:l.pre.holds [] {args:=args}=true:=(pre_splitW hpre).2;obtain ⟨d,r,rfl,h1,h2⟩:=hasAllW_cons hsh;obtain rfl:=hasAllW_nil h2;obtain ⟨xs,rfl,h3⟩:=hasW_list h1;obtain ⟨ns,rfl⟩:=items_int h3
 have hlen:ns.length<=n:=by
  unfold OpenLaw.pre at hc
  have h4:(WTm.not (.lt (.lit (.int (n:Int))) (.len (.arg 0)))).holds [] {args:=[.list (ns.map .int)]}=true:=by
   have h4:=(holds_andW hc).1;rw [hn] at h4;exact h4
  have h5:=condW_of h4 (w_not (w_lt w_lit (w_len_list (w_arg rfl))));rw [aaj] at h5;refine acM fun q=>?_
  have q':(n:Int)< ((ns.length:Nat):Int):=by omega
  first
   | (rw [decide_eq_true q'] at h5;exact absurd h5 (by decide))
   | (simp at h5;omega)
 cases hwl with
 |cons w1 w2=>
  cases w2
  cases w1 with
  |list ho hall=>exact ⟨_,_,ns,rfl,rfl,ho,QV ns _ hall,hlen⟩
def kF (l:ae9) (args:List WData):l.row.toRowW.claim.post args (.bool true) args=true:=
 postW_of (r:=l.row.toRowW) (X:=(true==true))
  (show WShape.has [] (.bool true) .bool=true by first|rfl|decide|simp [WShape.has,WShape.arms,WShape.armsAll])
  (show (WTm.eq .res (.lit (.bool true))).value [] {args:=args,res:=some (.bool true),after:=args}=some (.bool (true==true)) from w_eq_bool (w_res rfl) w_lit) rfl
end Att
namespace L2
open PySem PySem.Spec PyProof.Rows
theorem W4: ∀ {vs:List Value} {ns:List Int},IntsAre vs ns->Vals (ns.map V.int) vs
 |_,_,.nil=> .nil
 |_,_,.cons n t h=> .cons ⟨t,rfl⟩ (W4 h)
def Only (H:Hp):Prop:= ∀b,H b=none\/ ∃o xs,H b=some (.frz o (.lst xs))
def jbd {P:aay} {w:World} {K:aab} {mg mb:Yx} {CX:CXT} {k:Nat} {fa a:Addr} {fd:abJ} {x:Str} {sp:Sp} {s₁:aaf} {vs:List Value} {ns:List Int}
  (KX:K.In s₁.heap) (hns:s₁.heap.Ns aam mg) (hb:s₁.heap.Ns builtinsNs mb) (hbb: ∀x:Str,x≠ "__name__" ->mb x=aba x) (hlim:s₁.heap.NoLimit) (hg:s₁.gens= #[])
  (ha:s₁.heap.get? a=some {cls:= .type "list",data:= .seq vs.toArray}) (hi:IntsAre vs ns) (hl:ns.length<=aak) (hr:Room k callerA)
  (F: ∀base:Heap,K.In base->base.Ns aam mg->FnOk P w K mg base CX k fa fd [x] sp) (hbind: ∀(s:aaf) (u:Value),BindsTo s fd ⟨[u],[]⟩ [(x,u)])
  (hsp: ∀H:Hp,Only H->SqL K H a (ns.map V.int)->sp [.ref a] H (fun v _=>v= .bl true) fun _ _ _=>False)
  (hCX: ∀H e s',CX [] H s₁ (fun _ _ _=>False) e s'->False):
  adX (model P w) callerA (.call (.ref fa) ⟨[.ref a],[]⟩) (fun r s'=>r= .ok (.ret (.bool true))/\OldK s₁.heap s'.heap/\s'.os=s₁.os/\aeS s'.gens) s₁:=by
 have rv:=W4 hi;have lenV:=hi.length
 have core: ∀H:Hp,Only H->SqL K H a (ns.map V.int)->HOk P w H s₁.heap->(∀b,H b≠none->b=a)->(H a≠none->K.lookup a=none)->
    adX (model P w) callerA (.call (.ref fa) ⟨[.ref a],[]⟩) (fun r s'=>r= .ok (.ret (.bool true))/\OldK s₁.heap s'.heap/\s'.os=s₁.os/\aeS s'.gens) s₁:=by
  intro H hO hS hok hA hK;have base_of: ∀ {b:Addr} {o:Obj},s₁.heap.get? b=some o->H b=none->(hidT s₁.heap H).get? b=some o:=fun e n=>jbk e n
  have noA: ∀ {b:Addr} {o:Obj} {es:Array DictEntry} {ep:Nat},s₁.heap.get? b=some o->o.data= .dict es ep->H b=none:=fun {b o es ep} e d=>by
    cases q:H b with
    |none=>rfl
    |some u=>
      have e':b=a:=hA b (by rw [q];simp);subst e';rw [ha] at e;cases e;have d':Data.seq vs.toArray _=Data.dict es ep:=d;cases d'
  have nsK: ∀ {b:Addr} {m:Yx},s₁.heap.Ns b m->(hidT s₁.heap H).Ns b m:=fun {b m} ⟨o,es,ep,e,d,r⟩=>⟨o,es,ep,base_of e (noA e d),d,r⟩
  have hKb:K.In (hidT s₁.heap H):=fun b o e=>base_of (KX b o e) (by
    cases q:H b with
    |none=>rfl
    |some u=>
      have e':b=a:=hA b (by rw [q];simp);subst e'
      rw [hK (by rw [q];simp)] at e;cases e)
  have hM:Mod K mg (hidT s₁.heap H):=⟨hKb,nsK hns,⟨mb,nsK hb,hbb⟩,let ⟨mc,h1,h2⟩:=hlim;⟨mc,nsK h1,h2⟩⟩
  have e0:Env0 P w K mg (hidT s₁.heap H) callerA [] s₁ H:=⟨rfl,hM,fun b o e=>jdD e,Nat.le_of_eq (vQ _ _),trivial,fun b hb=>absurd (show b∈([]:List Addr) from hb) (by simp),hok,.of_eq hg⟩
  refine acI ((F _ hKb (nsK hns)).run callerA [] s₁ H ⟨[.ref a],[]⟩ [.ref a] [.ref a] _ _ hr e0 (hbind s₁ (.ref a)) (.cons rfl .nil) (hsp H hO hS)) fun r s' h=>?_
  cases r with
  |error e=>exact (hCX H e s' h).elim
  |ok fl=>
    cases fl with
    |next=>exact abj h
    |brk=>exact abj h
    |cont=>exact abj h
    |ret u=>
      obtain ⟨v,H',os,bare,un,hok',r',q⟩:=h;have q':v= .bl true:=q;subst q';obtain rfl:u=aca true:=r';refine ⟨rfl,OldK.of_keep fun b o e=>?_,os,bare⟩
      cases q:H b with
      |none=>exact un.keep b o e q (by intro z;exact absurd (show b∈([]:List Addr) from z) (by simp)) (by simp)
      |some u=>
       rcases hO b with z| ⟨ob,xs,z⟩
       · rw [q] at z;cases z
       · have z2:=un.frzs b ob _ z;obtain ⟨e1,_⟩:=hok b _ z;obtain ⟨e2,_⟩:=hok' b _ z2;rw [e] at e1;cases e1;exact e2
 cases hk:K.lookup a with
 |some o=>
  have e:=KX a o hk;rw [ha] at e;cases e;refine core (fun _=>none) (fun _=> .inl rfl) (.inr ⟨_,vs.toArray,_,hk,rfl,rfl,rfl,by rw [aah,lenV];exact hl,by simpa using rv⟩) (fun b u z=>by have z':(none:Option HO)=some u:=z;cases z') (fun b z=>absurd rfl z) fun z=>absurd rfl z
 |none=>
  refine core (fun b=>if b=a then some (.frz {cls:= .type "list",data:= .seq vs.toArray} (.lst (ns.map V.int))) else none) (fun b=>?_) (.inl (.inr ⟨{cls:= .type "list",data:= .seq vs.toArray},if_pos rfl⟩)) (fun b u z=>?_) (fun b z=>?_) fun _=>hk
  · by_cases hb:b=a
    · exact .inr ⟨_,_,if_pos hb⟩
    · exact .inl (if_neg hb)
  · by_cases hb:b=a
    · have z':=(if_pos hb).symm.trans z;cases z';subst hb;exact ⟨ha,by rw [aaj];exact hl,vs,_,rv,ha⟩
    · have z':=(if_neg hb).symm.trans z;cases z'
  · by_cases hb:b=a
    · exact hb
    · exact absurd (if_neg hb) z
end L2
/-THE LAST THEOREM (shape;LID,My.*are yours):
 My.Adr:a structure of the addresses that your layer names (classes,functions);My.Txt K t:a structure (Prop) of the equations over K;
 My.txt_mk:{K} {implicit addresses ..} (e1:nsIn K aam "law" =some (some (.ref f))) (e2:K.lookup f=some ⟨oc,od,.func (fnOf "law" "law" params body scope dV kV doc pm an cdv ct),sl⟩) (e3:acp K cdv "law" =true) .. : ∃t,My.Txt K t
set_option maxRecDepth 100000 in
set_option maxHeartbeats 0 in
theorem PySem.Challenge.cw_LID_holds:PySem.Challenge.rw_LID.Holds:=by
 w_on;o_law;k_head;(case hw=>w_witness2)
 k_fill
 refine L2.walk_of (l:=PySem.Challenge.rw_LID) (n:=63) (k:=40) (x:= "script") (CX:=fun w=> ..) (sp:=fun _=>My.sp_law) rfl (by decide) rfl ⟨rfl,by decide,by decide⟩ (fun w h Y=>PySem.W.kIn_of Y) ?F ?S ?C
 case F=>
  intro w mg fa h KX G hmg
  have T: ∃t,My.Txt (L2.KOf KX) t:=by
   dsimp only [L2.KOf]                          --K must stand as «<heap const>w.params» for k_is;refine' My.txt_mk ?e1 ?e2 ?e3 ..
   (case e1=>PySem.W.k_is)                    --in the order:a name->its address->its object->its parts
   (case e2=>PySem.W.k_is)
   ..
  obtain ⟨t,T⟩:=T;have e0:=hmg.symm.trans (aaR KX G T.law);cases e0                                       --fa is the law's own address;exact ⟨_,fun s u=> .of_eq rfl,fun base kb nb=>My.law_fn T kb nb⟩     --if «.of_eq rfl» comes too early:refine' ⟨_,?b,fun base kb nb=>My.law_fn T kb nb⟩;exact fun s u=> .of_eq rfl
 case S=>exact fun w H a ns hl hO hS=> ..
 case C=>exact ..
(the tactic k_is has no namespace:write k_is)-/
namespace L2
open PySem PySem.Spec PyProof.Rows
def WB (s:Stmt) (j:Nat):Stmt:=match s with
 | .ClassDef _ _ _ body _ _ _ _ _ _ _=>body.getD j (.Pass ⟨0,0,0,0⟩)
 |_=> .Pass ⟨0,0,0,0⟩
def qw (s:Stmt):Arguments:=match s with
 | .FunctionDef _ a _ _ _ _ _ _ _ _=>a
 |_=> {posonlyargs:=[],args:=[],vararg:=none,kwonlyargs:=[],kw_defaults:=[],kwarg:=none,defaults:=[]}
def jI (s:Stmt):List Stmt:=match s with
 | .FunctionDef _ _ b _ _ _ _ _ _ _=>b
 |_=>[]
def jh (s:Stmt):Scope:=match s with
 | .FunctionDef _ _ _ _ _ _ sc _ _ _=>sc
 |_=> {kind:= .function,names:=[],isGenerator:=false,isCoroutine:=false}
abbrev CX0:CXT:=fun _ _ _ _ _ _=>False
abbrev E0:XK:=fun _ _ _=>False
def Uh:yN CX0 X E0:=fun _ _ _ _ _ _ _ h=>h.elim
structure Fun (K:aab) (x qual:Str) (st:Stmt) (f:Addr) (fd:abJ):Prop where
 ex: ∃(oc:Value) (od:Option Addr) (kV doc pm:Value) (an:Option Addr) (cdv ct:Value) (osl:Array (Option Value)),
  fd=abh x qual (qw st) (jI st) (jh st) .none kV doc pm an cdv ct/\K.lookup f=some ⟨oc,od,.func fd,osl⟩/\acp K cdv qual=true
 kp:aaZ K (.ref f)=true
section
variable {P:aay} {w:World} {K:aab} {mg:Yx} {base:Heap}
def Fun.ok {x:Str} {st:Stmt} {k:Nat} (F:Fun K x qual st f fd) (S:FnScope N ps (jh st)) (len: ∀vs H Q E,sp vs H Q E->vs.length=ps.length)
  (hbody: ∀(cdv:Value) (A:aaV) (outer:List Env) (s:aaf) (H:Hp) (vs:List V) (Q:VK) (E:XK),Room k (A.deeper (ac4 qual (jh st) s.heap.objs.size f cdv))->sp vs H Q E->
   ∃t,PSs (cxOf CX0 P w K mg base N qual (jh st) f cdv A outer s H E).nox (jI st) t/\t {nx:=fun _ H'=>Q .non H',rt:=Q} (start N vs) H):FnOk P w K mg base CX0 (k+1) f fd ps sp:=by
 obtain ⟨oc,od,kV,doc,pm,an,cdv,ct,osl,rfl,lk,hcd⟩:=F.ex;refine jbn lk hcd S len fun A outer s H vs Q E hr hsp=>?_
 obtain ⟨t,h,q⟩:=hbody cdv A outer s H vs Q E hr hsp;exact ⟨t,h.nox,q⟩
def Fun.binds {x:Str} {st:Stmt} {ps:List Str} (F:Fun K x qual st f fd)
  (h: ∀(kV doc pm:Value) (an:Option Addr) (cdv ct:Value) (us:List Value),us.length=ps.length->bindArgs (abh x qual (qw st) (jI st) (jh st) .none kV doc pm an cdv ct) ⟨us,[]⟩=pure (ps.zip us)):Binds K fd ps []:=by
 obtain ⟨oc,od,kV,doc,pm,an,cdv,ct,osl,rfl,lk,hcd⟩:=F.ex;exact .all (h kV doc pm an cdv ct)
def jcy {x:Str} {st:Stmt} {od an:Option Addr} {osl:Array (Option Value)} {kV doc pm cdv ct:Value} (l:K.lookup f=some ⟨oc,od,.func (abh x qual (qw st) (jI st) (jh st) .none kV doc pm an cdv ct),osl⟩)
 (c:acp K cdv qual=true) (k:aaZ K (.ref f)=true):Fun K x qual st f (abh x qual (qw st) (jI st) (jh st) .none kV doc pm an cdv ct):=⟨⟨oc,od,kV,doc,pm,an,cdv,ct,osl,rfl,l,c⟩,k⟩
end
def XJ {A:aaV} {k:Nat} (hr:Room k A):A.units+1<cLine:=aev (Nat.add_le_add_left (by decide:1<=64) _) hr.units
section
variable {X:Cx}
def X9:CallR X (.builtin "len") (fun xs H Q=> ∃a kvs,xs=[V.ref a]/\H a=some (.dK kvs)/\Q (.int kvs.length) H):=by
 intro pins s σ H xs us Q I r h;obtain ⟨a,kvs,rfl,ha,q⟩:=h;obtain ⟨u,rfl,ru⟩:=Jj r;cases ru;exact jhk I (.inl ha) fun t s' I'=>⟨.int kvs.length,H,I',⟨t,rfl⟩,q⟩
end
def Same (H H':Hp):Prop:= ∀b o,H b=some o->H' b=some o
def Same.refl (H:Hp):Same H H:=fun _ _ h=>h
def Same.trans (a:Same H H1) (b:Same H1 H2):Same H H2:=fun c o h=>b c o (a c o h)
def Same.free (e:Same H H') {l:Addr} (h:H' l=Option.none):H l=Option.none:=by
 cases q:H l with
 |none=>rfl
 |some o=>
  rw [e l o q] at h;cases h
end L2
set_option maxHeartbeats 4000000
namespace M
open PySem PySem.Spec L2
open PyProof.Rows hiding St
inductive D where
 |non|bl (b:Bool)|int (i:Int)|str (x:Str)
 |tup (ds:List D)|lst (ds:List D)|scr (ds:List D)|dic (ks:List Key) (vs:List D)|dit (ks:List (List Key)) (vs:List D)|exn (c:Str)|fdc (ks:List Key) (vs:List D)|hdc (ks:List Key) (vs:List D)|obj (c:Str) (ns:List Str) (vs:List D)
mutual
def D.imm:D->Bool
 | .non=>true
 | .bl _=>true
 | .int _=>true
 | .str _=>true
 | .tup ds=>D.imms ds
 | .lst _=>false
 | .scr _=>false
 | .dic _ _=>false
 | .dit _ _=>false
 | .exn _=>true
 | .fdc _ _=>false
 | .hdc _ _=>false
 | .obj _ _ _=>false
def D.imms:List D->Bool
 | []=>true
 |d::ds=>D.imm d&&D.imms ds
end
inductive Res (α:Type) where
 |ok (a:α)
 |exc (c:Str)
 |stuck
noncomputable def Res.bind {α β:Type} (r:Res α) (f:α->Res β):Res β:=
 match r with
 | .ok a=>f a
 | .exc c=> .exc c
 | .stuck=> .stuck
instance:Monad Res where
 pure:=Res.ok
 bind:=Res.bind
def xZ {β:Type} {a:α} {f:α->Res β}:(Res.ok a>>=f)=f a:=rfl
def jd {β:Type} {r:Res α} {f:α->Res β} {b:β} (h:(r>>=f)= .ok b): ∃a,r= .ok a/\f a= .ok b:=by
 cases r with
 |ok a=>exact ⟨a,rfl,h⟩
 |exc c=>cases h
 |stuck=>cases h
noncomputable def must {α:Type} (c:Prop) [Decidable c] (r:Res α):Res α:=if c then r else .stuck
def jq {c:Prop} [Decidable c] {r:Res α} {a:α} (h:must c r= .ok a):c/\r= .ok a:=by
 unfold must at h
 by_cases hc:c
 · rw [if_pos hc] at h;exact ⟨hc,h⟩
 · rw [if_neg hc] at h;cases h
def jo {c:Prop} [Decidable c] {r:Res α} (h:c):must c r=r:=if_pos h
def LsK (K:aab) (H:Hp) (a:Addr) (xs:List V):Prop:=
 (∃o,H a=some (.frz o (.lst xs)))\/
  ∃(o:Obj) (its:Array Value) (n:Nat),K.lookup a=some o/\o.cls= .type "list" /\o.dict=none/\o.data= .seq its n/\its.size<=aak/\Vals xs its.toList
def LsK.sql {K:aab} {xs:List V} (h:LsK K H a xs):SqL K H a xs:=by
 rcases h with h|h
 · exact .inl (.inr h)
 · exact .inr h
mutual
inductive Rep (K:aab):(Addr->Prop)->Hp->V->D->Prop where
 |non {A H}:Rep K A H .non .non
 |bl {A H} (b:Bool):Rep K A H (.bl b) (.bl b)
 |int {A H} (i:Int):Rep K A H (.int i) (.int i)
 |str {A H} (x:Str):x.length<=aak->Rep K A H (.str x) (.str x)
 |tup {A H} {a:Addr} {xs:List V} {ds:List D}:H a=some (.tup xs)->Reps K A H xs ds->Rep K A H (.ref a) (.tup ds)
 |lst {A H} {a:Addr} {xs:List V} {ds:List D}:H a=some (.lst xs)->A a->Reps K (fun c=>A c/\c≠a) H xs ds->Rep K A H (.ref a) (.lst ds)
 |lsk {A H} {a:Addr} {xs:List V} {ds:List D}:LsK K H a xs->Reps K A H xs ds->Rep K A H (.ref a) (.scr ds)
 |dic {A H} {a:Addr} {kvs:List (Key×V)} {vs:List V} {ks:List Key} {ds:List D}:H a=some (.dK kvs)->A a->kvs.map (·.1)=ks->kvs.map (·.2)=vs->Reps K (fun c=>A c/\c≠a) H vs ds->Rep K A H (.ref a) (.dic ks ds)
 |dit {A H} {a:Addr} {kvs:List ((List Key)×V)} {vs:List V} {ks:List (List Key)} {ds:List D}:H a=some (.dT kvs)->A a->kvs.map (·.1)=ks->kvs.map (·.2)=vs->Reps K (fun c=>A c/\c≠a) H vs ds->Rep K A H (.ref a) (.dit ks ds)
 |exn {A H} {a b C:Addr} {o:Obj} {c:Str}:H a=some (.frz o (.own b))->o.cls= .ref C->aan K aam c=some (some (.ref C))->Rep K A H (.ref a) (.exn c)
 |fdc {A H} {a:Addr} {kvs:List (Key×V)} {vs:List V} {ks:List Key} {ds:List D}:((H a=some (.dK kvs)/\A a)\/ ∃o,H a=some (.frz o (.dK kvs)))->kvs.map (·.1)=ks->kvs.map (·.2)=vs->Reps K (fun c=>A c/\c≠a) H vs ds->Rep K A H (.ref a) (.fdc ks ds)
 |hdc {A H} {a:Addr} {kvs:List (Key×V)} {vs:List V} {ks:List Key} {ds:List D}:(∃o,H a=some (.frz o (.dK kvs)))->kvs.map (·.1)=ks->kvs.map (·.2)=vs->Reps K (fun c=>A c/\c≠a) H vs ds->Rep K A H (.ref a) (.hdc ks ds)
 |obj {A H} {a C dx:Addr} {fs:List (Str×V)} {vs:List V} {c:Str} {ns:List Str} {ds:List D}:H a=some (.ins C dx fs)->A a->(aan K aam c=some (some (.ref C))/\fs.map (·.1)=ns)->fs.map (·.2)=vs->Reps K (fun c=>A c/\c≠a) H vs ds->Rep K A H (.ref a) (.obj c ns ds)
inductive Reps (K:aab):(Addr->Prop)->Hp->List V->List D->Prop where
 |nil {A H}:Reps K A H [] []
 |cons {A H} {v:V} {d:D} {vs:List V} {ds:List D}:Rep K A H v d->Reps K A H vs ds->Reps K A H (v::vs) (d::ds)
end
def Stay (A:Ue) (H H':Hp):Prop:= ∀a o,H a=some o->(Mut (some o)->A a)->H' a=some o
def Stay.mono {A:Ue} (h:Stay A H H') (w: ∀a,B a->A a):Stay B H H':=fun a o e m=>h a o e fun z=>w a (m z)
section
variable {K:aab}
def LsK.stay {A:Ue} {xs:List V} (h:LsK K H a xs) (st:Stay A H H'):LsK K H' a xs:=by
 rcases h with ⟨o,e⟩|h
 · exact .inl ⟨o,st a _ e (fun z=>z.elim)⟩
 · exact .inr h
def Reps.stay {A:Ue} {ds:List D} (r:Reps K A H vs ds):Stay A H H'->(∀a,A a->A' a)->Reps K A' H' vs ds:=by
 refine Reps.rec (motive_1:=fun A H v d _=> ∀B:Addr->Prop,Stay A H H'->(∀a,A a->B a)->Rep K B H' v d) (fun _ _ _=> .non) (fun b _ _ _=> .bl b) (fun i _ _ _=> .int i) (fun x h _ _ _=> .str x h) (fun e _ r _ s w=> .tup (s _ _ e fun z=>z.elim) (r _ s w)) (fun e a _ r _ s w=> .lst (s _ _ e fun _=>a) (w _ a) (r _ ?_ ?_)) (fun e _ r _ s w=> .lsk (e.stay s) (r _ s w)) (fun e a k l _ r _ s w=> .dic (s _ _ e fun _=>a) (w _ a) k l (r _ ?_ ?_)) (fun e a k l _ r _ s w=> .dit (s _ _ e fun _=>a) (w _ a) k l (r _ ?_ ?_)) (fun e k l _ s w=> .exn (s _ _ e fun z=>z.elim) k l) (fun e k l _ r _ s w=> .fdc (e.elim (fun z=> .inl ⟨s _ _ z.1 fun _=>z.2,w _ z.2⟩) (fun z=>z.elim fun _ z=> .inr ⟨_,s _ _ z fun z=>z.elim⟩)) k l (r _ ?_ ?_)) (fun e k l _ r _ s w=> .hdc (e.elim fun _ z=>⟨_,s _ _ z fun z=>z.elim⟩) k l (r _ ?_ ?_)) (fun e a k l _ r _ s w=> .obj (s _ _ e fun _=>a) (w _ a) k l (r _ ?_ ?_)) (fun _ _ _=> .nil) (fun _ _ h t _ s w=> .cons (h _ s w) (t _ s w)) r A'
 any_goals exact s.mono fun _ z=>z.1
 all_goals exact fun _ z=>⟨w _ z.1,z.2⟩
def Rep.stay {A:Ue} {d:D} (r:Rep K A H v d) (s:Stay A H H') (w: ∀a,A a->A' a):Rep K A' H' v d:=by
 cases Reps.stay (.cons r .nil) s w;assumption
def Same.stay {A:Ue} (h:Same H H'):Stay A H H':=fun a o e _=>h a o e
variable {A A':Ue} {H H':Hp}
def Rep.grow {d:D} (r:Rep K A H v d) (h:Same H H'):Rep K A H' v d:=r.stay (Same.stay h) fun _ z=>z
def Reps.grow {v:List V} {d:List D} (r:Reps K A H v d) (h:Same H H'):Reps K A H' v d:=r.stay (Same.stay h) fun _ z=>z
def Rep.weak {d:D} (r:Rep K A H v d) (w: ∀a,A a->A' a):Rep K A' H v d:=r.stay (fun _ _ e _=>e) w
def Reps.weak {v:List V} {d:List D} (r:Reps K A H v d) (w: ∀a,A a->A' a):Reps K A' H v d:=r.stay (fun _ _ e _=>e) w
def Reps.imm {A:Ue} {ds:List D} (r:Reps K A H vs ds):D.imms ds=true->Reps K A' H vs ds:=by
 refine Reps.rec (motive_1:=fun _ H v d _=>d.imm=true->Rep K A' H v d) (fun _=> .non) (fun b _=> .bl b) (fun i _=> .int i) (fun x h _=> .str x h) (fun e _ r i=> .tup e (r (by simpa only [D.imm] using i))) ?_ ?_ ?_ ?_ (fun e k l _=> .exn e k l) ?_ ?_ ?_ (fun _=> .nil) (fun _ _ h t i=>?_) r
 case refine_8=>simp only [D.imms,aaD] at i;exact .cons (h i.1) (t i.2)
 all_goals intros;rename_i i;simp [D.imm] at i
def Rep.imm {A:Ue} {d:D} (r:Rep K A H v d) (i:d.imm=true):Rep K A' H v d:=by
 cases Reps.imm (.cons r .nil) (by simp [D.imms,i]);assumption
def Reps.length {A:Ue} {ds:List D} (r:Reps K A H vs ds):vs.length=ds.length:=by
 induction vs generalizing ds with
 |nil=>cases r;rfl
 |cons v vs ih=>
  cases r with
  |cons _ t=>simp [ih t]
def Reps.get {A:Ue} {ds:List D} {i:Nat} {d:D} (r:Reps K A H vs ds) (e:ds[i]?=some d): ∃v,vs[i]?=some v/\Rep K A H v d:=by
 induction vs generalizing ds i with
 |nil=>cases r;simp at e
 |cons v vs ih=>
  cases r with
  |cons r t=>
   cases i with
   |zero=>simp at e;subst e;exact ⟨_,rfl,r⟩
   |succ i=>simpa using ih t (by simpa using e)
def Reps.get' {A:Ue} {ds:List D} (r:Reps K A H vs ds) (e:vs[i]?=some v): ∃d,ds[i]?=some d/\Rep K A H v d:=by
 induction vs generalizing ds i with
 |nil=>simp at e
 |cons v vs ih=>
  cases r with
  |cons r t=>
   cases i with
   |zero=>simp at e;subst e;exact ⟨_,rfl,r⟩
   |succ i=>simpa using ih t (by simpa using e)
def Reps.append {A:Ue} {ws:List V} {ds es:List D} (r:Reps K A H vs ds) (s:Reps K A H ws es):Reps K A H (vs++ws) (ds++es):=by
 induction vs generalizing ds with
 |nil=>cases r;exact s
 |cons v vs ih=>
  cases r with
  |cons r t=>exact .cons r (ih t)
def Reps.take {A:Ue} {ds:List D} (n:Nat) (r:Reps K A H vs ds):Reps K A H (vs.take n) (ds.take n):=by
 induction vs generalizing ds n with
 |nil=>cases r;simpa using .nil
 |cons v vs ih=>
  cases r with
  |cons r t=>
   cases n with
   |zero=>exact .nil
   |succ n=>exact .cons r (ih n t)
def Reps.drop {A:Ue} {ds:List D} (n:Nat) (r:Reps K A H vs ds):Reps K A H (vs.drop n) (ds.drop n):=by
 induction vs generalizing ds n with
 |nil=>cases r;simpa using .nil
 |cons v vs ih=>
  cases n with
  |zero=>exact r
  |succ n=>
   cases r with
   |cons r t=>exact ih n t
theorem Reps.rep {ds:List D} (r:Reps K A H vs ds): ∀k:Nat,Reps K A H (aaP k vs).flatten (aaP k ds).flatten
 |0=> .nil
 |k+1=>by
  rw [abT,abT,acE,acE];exact r.append (Reps.rep r k)
def Reps.isEmpty {xs:List V} {ds:List D} (r:Reps K A H xs ds):ds.isEmpty=xs.isEmpty:=by cases r<;>rfl
def Rep.lstE {ds:List D} (r:Rep K A H v (.lst ds)): ∃a xs,v= .ref a/\H a=some (.lst xs)/\A a/\Reps K (fun c=>A c/\c≠a) H xs ds:=by
 cases r with
 |lst e h r=>exact ⟨_,_,rfl,e,h,r⟩
def Rep.scrE {ds:List D} (r:Rep K A H v (.scr ds)): ∃a xs,v= .ref a/\LsK K H a xs/\Reps K A H xs ds:=by
 cases r with
 |lsk e r=>exact ⟨_,_,rfl,e,r⟩
def Rep.tupE {ds:List D} (r:Rep K A H v (.tup ds)): ∃a xs,v= .ref a/\H a=some (.tup xs)/\Reps K A H xs ds:=by
 cases r with
 |tup e r=>exact ⟨_,_,rfl,e,r⟩
def Rep.intE {i:Int} (r:Rep K A H v (.int i)):v= .int i:=by cases r;rfl
def Rep.blE {b:Bool} (r:Rep K A H v (.bl b)):v= .bl b:=by cases r;rfl
def Rep.strE {x:Str} (r:Rep K A H v (.str x)):v= .str x/\x.length<=aak:=by cases r;exact ⟨rfl,by assumption⟩
def Rep.nonE (r:Rep K A H v .non):v= .non:=by cases r;rfl
def Reps.low {ds:List D} (r:Reps K (fun c=>A c/\c≠a) H vs ds):Reps K A H vs ds:=r.weak fun _ z=>z.1
def Reps.inDom {A:Ue} {ds:List D} (r:Reps K A H vs ds):Reps K (fun c=>A c/\H c≠none) H vs ds:=by
 refine Reps.rec .non (fun b=> .bl b) (fun i=> .int i) (fun x h=> .str x h) (fun e _ r=> .tup e r) (fun e a _ r=> .lst e ⟨a,?_⟩ ?_) (fun e _ r=> .lsk e r) (fun e a k l _ r=> .dic e ⟨a,?_⟩ k l ?_) (fun e a k l _ r=> .dit e ⟨a,?_⟩ k l ?_) (fun e k l=> .exn e k l) (fun e k l _ r=> .fdc (e.elim (fun z=> .inl ⟨z.1,z.2,by simp [z.1]⟩) .inr) k l ?_) (fun e k l _ r=> .hdc e k l ?_) (fun e a k l _ r=> .obj e ⟨a,?_⟩ k l ?_) .nil (fun _ _ h t=> .cons h t) r
 any_goals exact r.weak fun _ z=>⟨⟨z.1.1,z.2⟩,z.1.2⟩
 all_goals simp [e]
def Rep.inDom {A:Ue} {d:D} (r:Rep K A H v d):Rep K (fun c=>A c/\H c≠none) H v d:=by
 cases Reps.inDom (.cons r .nil);assumption
def Same.upd {p:Addr} {o:HO} (h:H p=none):Same H (L2.upd H p o):=fun b u e=>by rw [jL (jK e h)];exact e
def Reps.laid {p:Addr} {o:HO} {ds:List D} (r:Reps K A H vs ds) (hp:H p=none):Reps K (fun c=>A c/\c≠p) (L2.upd H p o) vs ds:=
 (r.inDom.grow (Same.upd hp)).weak fun c z=>⟨z.1,fun e=>z.2 (by rw [e];exact hp)⟩
end
inductive Slot where
 |un
 |own (d:D)
 |shr (d:D)
abbrev Sl:=List Slot
def j4 (env:Sl) (σ:St) (a:Addr):Prop:= ∃(i:Nat) (d:D),env[i]?=some (.own d)/\σ[i]?=some (some (.ref a))
abbrev NotO (env:Sl) (σ:St):Addr->Prop:=fun a=> ¬j4 env σ a
abbrev Sf (G:Ue) (env:Sl) (σ:St):Addr->Prop:=fun a=> ¬j4 env σ a/\G a
inductive Top (K:aab) (A:Ue) (H:Hp) (a:Addr):D->Prop where
 |lst {xs:List V} {ds:List D}:H a=some (.lst xs)->Reps K A H xs ds->Top K A H a (.lst ds)
 |dic {kvs:List (Key×V)} {vs:List V} {ks:List Key} {ds:List D}:H a=some (.dK kvs)->kvs.map (·.1)=ks->kvs.map (·.2)=vs->Reps K A H vs ds->Top K A H a (.dic ks ds)
 |dit {kvs:List ((List Key)×V)} {vs:List V} {ks:List (List Key)} {ds:List D}:H a=some (.dT kvs)->kvs.map (·.1)=ks->kvs.map (·.2)=vs->Reps K A H vs ds->Top K A H a (.dit ks ds)
 |obj {C dx:Addr} {fs:List (Str×V)} {vs:List V} {c:Str} {ns:List Str} {ds:List D}:H a=some (.ins C dx fs)->(aan K aam c=some (some (.ref C))/\fs.map (·.1)=ns)->fs.map (·.2)=vs->Reps K A H vs ds->Top K A H a (.obj c ns ds)
def Top.rep {K:aab} {A:Ue} {d:D} (t:Top K A H a d) (w: ∀b,A b->A' b/\b≠a) (ha:A' a):Rep K A' H (.ref a) d:=by
 cases t with
 |lst e r=>exact .lst e ha (r.weak w)
 |dic e k1 k2 r=>exact .dic e ha k1 k2 (r.weak w)
 |dit e k1 k2 r=>exact .dit e ha k1 k2 (r.weak w)
 |obj e k1 k2 r=>exact .obj e ha k1 k2 (r.weak w)
def Top.stay {K:aab} {A:Ue} {d:D} (t:Top K A H a d) (st:Stay A H H') (w: ∀b,A b->A' b) (ha: ∀o,H a=some o->H' a=some o):Top K A' H' a d:=by
 cases t with
 |lst e r=>exact .lst (ha _ e) (r.stay st w)
 |dic e k1 k2 r=>exact .dic (ha _ e) k1 k2 (r.stay st w)
 |dit e k1 k2 r=>exact .dit (ha _ e) k1 k2 (r.stay st w)
 |obj e k1 k2 r=>exact .obj (ha _ e) k1 k2 (r.stay st w)
def Top.there {K:aab} {A:Ue} {d:D} (t:Top K A H a d): ∃o,H a=some o/\Mut (some o):=by
 cases t with
 |lst e r=>exact ⟨_,e,trivial⟩
 |dic e _ _ r=>exact ⟨_,e,trivial⟩
 |dit e _ _ r=>exact ⟨_,e,trivial⟩
 |obj e _ _ r=>exact ⟨_,e,trivial⟩
structure EnvOk (K:aab) (G:Ue) (H0:Hp) (env:Sl) (σ:St) (H:Hp):Prop where
 len:σ.length=env.length
 base:Same H0 H
 g0: ∀a,H0 a=none->G a
 shr: ∀(i:Nat) (d:D),env[i]?=some (.shr d)-> ∃v,σ[i]?=some (some v)/\Rep K (Sf G env σ) H v d
 own: ∀(i:Nat) (d:D),env[i]?=some (.own d)-> ∃a,σ[i]?=some (some (.ref a))/\H0 a=none/\Top K (Sf G env σ) H a d
 dis: ∀(i j:Nat) (d e:D) (a:Addr),env[i]?=some (.own d)->env[j]?=some (.own e)->σ[i]?=some (some (.ref a))->σ[j]?=some (some (.ref a))->i=j
section
variable {K:aab} {G:Ue} {H0 H H':Hp} {env:Sl} {σ:St}
def EnvOk.grow (e:EnvOk K G H0 env σ H) (h:Same H H'):EnvOk K G H0 env σ H' where
 len:=e.len
 base:=e.base.trans h
 g0:=e.g0
 shr:=fun i d z=>let ⟨v,h1,h2⟩:=e.shr i d z;⟨v,h1,h2.grow h⟩
 own:=fun i d z=>let ⟨a,h1,h2,h3⟩:=e.own i d z;⟨a,h1,h2,h3.stay (Same.stay h) (fun _ z=>z) (fun o q=>h _ o q)⟩
 dis:=e.dis
def EnvOk.there (e:EnvOk K G H0 env σ H) (o:j4 env σ a): ∃u,H a=some u:=by
 obtain ⟨i,d,h1,h2⟩:=o;obtain ⟨b,h3,_,h4⟩:=e.own i d h1;rw [h2] at h3;cases h3;obtain ⟨u,h5,_⟩:=h4.there;exact ⟨u,h5⟩
def EnvOk.mutO (k:EnvOk K G H0 env σ H) (o:j4 env σ a) {u:HO} (e:H a=some u):Mut (some u):=by
 obtain ⟨i,d,h1,h2⟩:=o;obtain ⟨b,h3,_,h4⟩:=k.own i d h1;rw [h2] at h3;cases h3;obtain ⟨u',h5,m⟩:=h4.there;rw [e] at h5;cases h5;exact m
def EnvOk.new (k:EnvOk K G H0 env σ H): ∀a,H a=none->Sf G env σ a:=fun a z=>⟨fun o=>(by
 obtain ⟨u,q⟩:=k.there o
 rw [z] at q;cases q),k.g0 a (Same.free k.base z)⟩
end
inductive Lv where
 |b|s|t
abbrev Any:Addr->Prop:=fun _=>True
def Lv.A (l:Lv) (G:Ue) (env:Sl) (σ:St):Addr->Prop:=
 match l with
 | .b=>Any
 | .s=>Sf G env σ
 | .t=>Sf G env σ
def NewTop (H:Hp) (v:V):Prop:= ∀a,v= .ref a-> ∀o,H a=some o-> ¬Mut (some o)
def Lv.T (l:Lv) (H:Hp) (v:V):Prop:=
 match l with
 | .t=>NewTop H v
 |_=>True
def NewTop.grow (h:Same H H') (n:NewTop H' v):NewTop H v:=fun a e o q=>n a e o (h a o q)
def Lv.Tgrow {l:Lv} (h:Same H H') (n:l.T H' v):l.T H v:=by
 cases l with
 |t=>exact NewTop.grow h n
 |b=>trivial
 |s=>trivial
def tE (K:aab) (l:Lv) (f:Sl->Res D):TE:=fun σ H Q=> ∃G H0 env d,EnvOk K G H0 env σ H/\f env= .ok d/\ ∀v H',Same H H'->Rep K (l.A G env σ) H' v d->l.T H v->Q v H'
def tT (K:aab) (f:Sl->Res Bool):TT:=fun σ H Q=> ∃G H0 env b,EnvOk K G H0 env σ H/\f env= .ok b/\ ∀H',Same H H'->Q b H'
def tA (K:aab) (l:Lv) (f:Sl->Res (List D)):TA:=fun σ H Q=> ∃G H0 env ds,EnvOk K G H0 env σ H/\f env= .ok ds/\ ∀vs H',Same H H'->Reps K (l.A G env σ) H' vs ds->Q vs H'
@[irreducible] def DE (X:Cx) (l:Lv) (e:Expr) (f:Sl->Res D):Prop:=PE X e (tE X.K l f)
@[irreducible] def DT (X:Cx) (e:Expr) (f:Sl->Res Bool):Prop:=PT X e (tT X.K f)
@[irreducible] def DA (X:Cx) (l:Lv) (es:List Expr) (f:Sl->Res (List D)):Prop:=PA X es (tA X.K l f)
inductive Out where
 |nx (env:Sl)|rt (fr:Bool) (d:D)|bk (env:Sl)|ct (env:Sl)
abbrev TK:=Sl->Res D
abbrev TJ:=Sl->Res Bool
abbrev TH:=Sl->Res Out
abbrev TF:=Sl->Res (List D)
abbrev TD:=List D->Res D
abbrev TC:=D->Sl->Res Sl
structure Frm (env:Sl) (σ:St) (H:Hp) (env':Sl) (σ':St) (H':Hp):Prop where
 keep: ∀b o,H b=some o-> ¬j4 env σ b->H' b=some o
 more: ∀b,j4 env' σ' b->j4 env σ b\/H b=none
 size: ∀b,H' b=none->H b=none
def Post (K:aab) (G:Ue) (H0:Hp) (env:Sl) (σ:St) (H:Hp) (E:Ends) (o:Out):Prop:=
 match o with
 | .nx env'=> ∀σ' H',EnvOk K G H0 env' σ' H'->Frm env σ H env' σ' H'->E.nx σ' H'
 | .bk env'=> ∀σ' H',EnvOk K G H0 env' σ' H'->Frm env σ H env' σ' H'->E.bk σ' H'
 | .ct env'=> ∀σ' H',EnvOk K G H0 env' σ' H'->Frm env σ H env' σ' H'->E.ct σ' H'
 | .rt fr d=> ∀v H',Same H0 H'->Rep K G H' v d->(fr=true->NewTop H0 v)->E.rt v H'
def tS (K:aab) (g:TH):TS:=fun E σ H=> ∃G H0 env o,EnvOk K G H0 env σ H/\g env= .ok o/\Post K G H0 env σ H E o
@[irreducible] def DS (X:Cx) (st:Stmt) (g:TH):Prop:=PS X st (tS X.K g)
@[irreducible] def DSs (X:Cx) (st:List Stmt) (g:TH):Prop:=PSs X st (tS X.K g)
section
variable {X:Cx} {e:Expr} {es:List Expr} {st:Stmt} {sts:List Stmt}
def PE.imp {t t':TE} (h:PE X e t) (w: ∀σ H Q,t' σ H Q->t σ H Q):PE X e t':=fun pins s σ H Q I q=>h pins s σ H Q I (w σ H Q q)
def PT.imp {t t':TT} (h:PT X e t) (w: ∀σ H Q,t' σ H Q->t σ H Q):PT X e t':=fun pins s σ H Q I q=>h pins s σ H Q I (w σ H Q q)
def PA.imp {t t':TA} (h:PA X es t) (w: ∀σ H Q,t' σ H Q->t σ H Q):PA X es t':=fun pos pins s σ H Q I q=>h pos pins s σ H Q I (w σ H Q q)
def PS.imp {t t':TS} (h:PS X st t) (w: ∀E σ H,t' E σ H->t E σ H):PS X st t':=fun pins s σ H E I q=>h pins s σ H E I (w E σ H q)
def PSs.imp {t t':TS} (h:PSs X sts t) (w: ∀E σ H,t' E σ H->t E σ H):PSs X sts t':=fun pins s σ H E I q=>h pins s σ H E I (w E σ H q)
end
def Frm.refl {env:Sl} {σ:St} (h:Same H H'):Frm env σ H env σ H':=⟨fun b o e _=>h b o e,fun b o=> .inl o,fun b e=>Same.free h e⟩
def Frm.trans {env env1 env2:Sl} {σ σ2:St} (a:Frm env σ H env1 σ1 H1) (b:Frm env1 σ1 H1 env2 σ2 H2):Frm env σ H env2 σ2 H2 where
 keep:=fun c o e n=>b.keep c o (a.keep c o e n) fun z=>by
  rcases a.more c z with z|z
  · exact n z
  · rw [e] at z;cases z
 more:=fun c o=>by
  rcases b.more c o with z|z
  · exact a.more c z
  · exact .inr (a.size c z)
 size:=fun c e=>a.size c (b.size c e)
def Frm.grow {env env1:Sl} {σ:St} {Hm:Hp} (h:Same H Hm) (b:Frm env σ Hm env1 σ1 H1):Frm env σ H env1 σ1 H1:=(Frm.refl h).trans b
section
variable {X:Cx} {e:Expr} {f:TK}
def Lv.weak_b {l:Lv} {G:Ue} {env:Sl} {σ:St}: ∀a,l.A G env σ a->Any a:=fun _ _=>trivial
def DE.b {l:Lv} (h:DE X l e f):DE X .b e f:=by
 with_unfolding_all exact (PE.imp h fun σ H Q ⟨G,H0,env,d,k,ef,q⟩=>⟨G,H0,env,d,k,ef,fun v H' s r _=>q v H' s (r.weak Lv.weak_b) trivial⟩)
def DE.s (h:DE X .t e f):DE X .s e f:=by
 with_unfolding_all exact (PE.imp h fun σ H Q ⟨G,H0,env,d,k,ef,q⟩=>⟨G,H0,env,d,k,ef,fun v H' s r _=>q v H' s r trivial⟩)
def vM {K:aab} {A:Ue} {d:D} (s:Same H H') (r:Rep K A H' v d) (i:d.imm=true):NewTop H v:=fun a e o q m=>by
 subst e
 cases r with
 |tup e _=>rw [s _ _ q] at e;cases e;exact m
 |lst _ _ _=>simp [D.imm] at i
 |lsk _ _=>simp [D.imm] at i
 |dic _ _ _ _ _=>simp [D.imm] at i
 |dit _ _ _ _ _=>simp [D.imm] at i
 |obj _ _ _ _ _=>simp [D.imm] at i
 |fdc _ _ _ _=>simp [D.imm] at i
 |hdc _ _ _ _=>simp [D.imm] at i
 |exn e _ _=>rw [s _ _ q] at e;cases e;exact m
def chk (f:TK):Sl->Res D:=fun env=>f env>>=fun d=>must (d.imm=true) (.ok d)
def DE.chk {l l':Lv} (h:DE X l e f):DE X l' e (chk f):=by
 with_unfolding_all exact (PE.imp h fun σ H Q=>by
  rintro ⟨G,H0,env,d,k,ef,q⟩;obtain ⟨d',e1,e2⟩:=jd ef;obtain ⟨i,e3⟩:=jq e2;cases e3;refine ⟨G,H0,env,d,k,e1,fun v H' s r _=>q v H' s (r.imm i) ?_⟩
  cases l' with
  |t=>exact vM s r i
  |b=>trivial
  |s=>trivial)
end
def Wu:Expr->Bool
 | .Starred _ _=>false
 |_=>true
def jk {es:List Expr} {env:Env} (h:Wu e=true):aai (e::es) env=(false,eval e env)::aai es env:=by
 cases e<;>first|rfl|cases h
def Ku {es:List Expr} {env:Env} (h:es.all Wu=true):(aai es env).all (fun x=>!x.1)=true:=by
 induction es with
 |nil=>rfl
 |cons e r ih=>
  rw [aeU,aaD] at h;rw [jk h.1,aeU,ih h.2];rfl
def VM {pos:Pos} {l:List (Bool×Sem Value)} (h:l.all (fun x=>!x.1)=true):(abo pos l).all (fun x=>!x.1)=true:=by
 induction l with
 |nil=>rfl
 |cons p r ih=>
  obtain ⟨s,t⟩:=p;rw [aeU,aaD] at h;show ((!s)&&(abo pos r).all (fun x=>!x.1))=true;rw [ih h.2,Bool.and_true];exact h.1
def jz {es:List Expr} {env:Env} (h:es.all Wu=true):(abo pos (aai es env)).any (·.1)=false:=by
 have:=VM (pos:=pos) (Ku (env:=env) h);rw [abw] at this;rw [aeL];intro x hx z;have q:=this x hx;rw [z] at q;cases q
def JF {cpos:Pos} {es:List Expr} {env:Env} (h:(e::es).all Wu=true) (hl:decide ((e::es).length<30)=true):
  ((abo cpos (aai (e::es) env)).all (fun x=>!x.1)&&(acs cpos (abt [] env)).all (fun x=>x.1.isSome)
   &&decide ((e::es).length+([]:List acS).length+(if ([]:List acS).isEmpty then 0 else 1)<30))=true:=by
 have hk:(acs cpos (abt [] env)).all (fun x=>x.1.isSome)=true:=rfl;rw [VM (Ku h),hk];simpa using hl
section
variable {X:Cx} {e a b c o:Expr} {es:List Expr} {pos:Pos} {l l1 l2 l':Lv} {f f1 f2 f3:TK}
def cI (i:Int):Sl->Res D:=fun _=> .ok (.int i)
def cB (b:Bool):Sl->Res D:=fun _=> .ok (.bl b)
def cN:Sl->Res D:=fun _=> .ok .non
def cS (x:Str):Sl->Res D:=fun _=> .ok (.str x)
def rdS (i:Nat):Sl->Res D:=fun env=>match env[i]? with
 |some (.shr d)=> .ok d
 |_=> .stuck
def rdB (i:Nat):Sl->Res D:=fun env=>match env[i]? with
 |some (.shr d)=> .ok d
 |some (.own d)=> .ok d
 |_=> .stuck
def ko {env:Sl} {d:D} (h:rdS i env= .ok d):env[i]?=some (.shr d):=by
 unfold rdS at h
 split at h
 · cases h;assumption
 · cases h
def YB {env:Sl} {d:D} (h:rdB i env= .ok d):env[i]?=some (.shr d)\/env[i]?=some (.own d):=by
 unfold rdB at h
 split at h
 · cases h;left;assumption
 · cases h;right;assumption
 · cases h
def Xm {K:aab} {G:Ue} {env:Sl} {d:D} {a:Addr} (k:EnvOk K G H0 env σ H) (h1:env[i]?=some (.own d)) (h2:σ[i]?=some (some (.ref a))): ∀c,Sf G env σ c->c≠a:=fun c z e=>z.1 (by rw [e];exact ⟨i,d,h1,h2⟩)
def dv (i:Nat) {x:Str} (hN:X.N[i]?=some x:=by rfl) (hv:Vis X.env.scope x:=by first|exact acg rfl|exact abA (acg rfl)|exact abA (abA rfl)) (hd:Z0 x:=by decide)
   (hcd:Zh x:=by decide):DE X .s (.Name x pos) (rdS i):=by
 with_unfolding_all exact (
  PE.imp (xu hN hv hd hcd) fun σ H Q=>by
   rintro ⟨G,H0,env,d,k,ef,q⟩;obtain ⟨v,h1,h2⟩:=k.shr i d (ko ef)
   exact ⟨v,h1,q v H (Same.refl H) h2 trivial⟩)
def db (i:Nat) {x:Str} (hN:X.N[i]?=some x:=by rfl) (hv:Vis X.env.scope x:=by first|exact acg rfl|exact abA (acg rfl)|exact abA (abA rfl)) (hd:Z0 x:=by decide)
   (hcd:Zh x:=by decide):DE X .b (.Name x pos) (rdB i):=by
 with_unfolding_all exact (
  PE.imp (xu hN hv hd hcd) fun σ H Q=>by
   rintro ⟨G,H0,env,d,k,ef,q⟩;rcases YB ef with z|z
   · obtain ⟨v,h1,h2⟩:=k.shr i d z;exact ⟨v,h1,q v H (Same.refl H) (h2.weak fun _ _=>trivial) trivial⟩
   · obtain ⟨v,h1,_,h2⟩:=k.own i d z
     exact ⟨_,h1,q _ H (Same.refl H) (h2.rep (fun c y=>⟨trivial,Xm k z h1 c y⟩) trivial) trivial⟩)
def Sc (K:aab) (v:V) (d:D):Prop:=(∀A H,Rep K A H v d)/\ ∀a,v≠ .ref a
def Sc.T {K:aab} {d:D} (h:Sc K v d):l.T H v:=by
 cases l with
 |t=>exact fun a e=>absurd e (h.2 a)
 |b=>trivial
 |s=>trivial
def jhK {K:aab} (i:Int):Sc K (.int i) (.int i):=⟨fun _ _=> .int i,fun a e=>by cases e⟩
def jhG {K:aab} (i:Bool):Sc K (.bl i) (.bl i):=⟨fun _ _=> .bl i,fun a e=>by cases e⟩
def jhT {K:aab}:Sc K .non .non:=⟨fun _ _=> .non,fun a e=>by cases e⟩
def jhW {K:aab} (x:Str) (h:x.length<=aak):Sc K (.str x) (.str x):=⟨fun _ _=> .str x h,fun a e=>by cases e⟩
def de_c {d:D} (h:PE X e (tC v)) (r:Sc X.K v d):DE X l e (fun _=> .ok d):=by
 with_unfolding_all exact (
  PE.imp h fun σ H Q=>by
   rintro ⟨G,H0,env,d',k,ef,q⟩;cases ef
   exact q v H (Same.refl H) (r.1 _ H) r.T)
def uJ {i:Int} {j}:DE X l (.Constant (.int i) j pos) (cI i):=de_c jfB (jhK i)
def Jc {i:Bool} {j}:DE X l (.Constant (.bool i) j pos) (cB i):=de_c jg4 (jhG i)
def JL {j}:DE X l (.Constant .none j pos) cN:=de_c jfz jhT
def XV {x:Str} {j} (h:x.length<=aak:=by decide):DE X l (.Constant (.str x) j pos) (cS x):=de_c jfw (jhW x h)
def jer {x:Str} {i:Int} {t:Tok} (hg:Gl X x) (hm:X.mg x=some (.int i t)) (hd:Z0 x:=by decide):DE X l (.Name x pos) (cI i):=
 de_c (Wa (v:= .int i) hg hm ⟨t,rfl⟩ hd) (jhK i)
def jeq {x y:Str} {t:Tok} (hg:Gl X x) (hm:X.mg x=some (.str y t)) (hl:y.length<=aak:=by decide) (hd:Z0 x:=by decide):DE X l (.Name x pos) (cS y):=
 de_c (Wa (v:= .str y) hg hm ⟨t,rfl⟩ hd) (jhW y hl)
def OpS (K:aab) (r:R2) (g:D->D->Res D):Prop:= ∀(x y:V) (H:Hp) (a b d:D) (Q:VK),Rep K Any H x a->Rep K Any H y b->g a b= .ok d->(∀v,Sc K v d->Q v H)->r x y H Q
def OpD (K:aab) (r:R2) (g:D->D->Res D):Prop:= ∀(A:Ue) (x y:V) (H:Hp) (a b d:D) (Q:VK),Rep K A H x a->Rep K A H y b->g a b= .ok d->(∀v H',Same H H'->Rep K (fun c=>H c=none\/A c) H' v d->NewTop H v->Q v H')->r x y H Q
def two (f1 f2:TK) (g:D->D->Res D):Sl->Res D:=fun env=>f1 env>>=fun x=>f2 env>>=fun y=>g x y
def jcV {K:aab} {g:D->D->Res D} (hr:OpS K r g) {Q:VK} (h:tE K l (two f1 f2 g) σ H Q):tOp r (tE K l1 f1) (tE K l2 f2) σ H Q:=by
 obtain ⟨G,H0,env,d,k,ef,q⟩:=h;obtain ⟨a,e1,ef⟩:=jd ef;obtain ⟨b,e2,e3⟩:=jd ef;refine ⟨G,H0,env,a,k,e1,fun x H1 s1 r1 _=>⟨G,H0,env,b,k.grow s1,e2,fun y H2 s2 r2 _=>?_⟩⟩;exact hr x y H2 a b d Q ((r1.grow s2).weak Lv.weak_b) (r2.weak Lv.weak_b) e3 fun v sc=>q v H2 (s1.trans s2) (sc.1 _ _) sc.T
def jgL {K:aab} {g:D->D->Res D} (hr:OpD K r g) {Q:VK} (h:tE K .t (two f1 f2 g) σ H Q):tOp r (tE K .s f1) (tE K .s f2) σ H Q:=by
 obtain ⟨G,H0,env,d,k,ef,q⟩:=h;obtain ⟨a,e1,ef⟩:=jd ef;obtain ⟨b,e2,e3⟩:=jd ef;refine ⟨G,H0,env,a,k,e1,fun x H1 s1 r1 _=>⟨G,H0,env,b,k.grow s1,e2,fun y H2 s2 r2 _=>?_⟩⟩;have sm:=s1.trans s2;exact hr _ x y H2 a b d Q (r1.grow s2) r2 e3 fun v H3 s3 r3 nt=>q v H3 (sm.trans s3) (r3.weak fun c z=>z.elim (fun z=>k.new c (Same.free sm z)) fun z=>z) (nt.grow sm)
def jgM {K:aab} {g:D->D->Res D} (hr:OpD K r g) {Q:VK} (h:tE K .b (two f1 f2 g) σ H Q):tOp r (tE K .b f1) (tE K .b f2) σ H Q:=by
 obtain ⟨G,H0,env,d,k,ef,q⟩:=h;obtain ⟨a,e1,ef⟩:=jd ef;obtain ⟨b,e2,e3⟩:=jd ef;refine ⟨G,H0,env,a,k,e1,fun x H1 s1 r1 _=>⟨G,H0,env,b,k.grow s1,e2,fun y H2 s2 r2 _=>?_⟩⟩;have sm:=s1.trans s2;exact hr _ x y H2 a b d Q (r1.grow s2) r2 e3 fun v H3 s3 r3 nt=>q v H3 (sm.trans s3) (r3.weak fun c _=>trivial) trivial
def Kc {g:D->D->Res D} (ho:OpR X (abP op) r) (hr:OpS X.K r g) (ha:DE X l1 a f1) (hb:DE X l2 b f2):DE X l (.BinOp a op b pos) (two f1 f2 g):=by
 with_unfolding_all exact (
  PE.imp (jaO ho ha hb) fun _ _ _ h=>jcV hr h)
def qO {g:D->D->Res D} (ho:OpR X (abP op) r) (hr:OpD X.K r g) (ha:DE X .s a f1) (hb:DE X .s b f2):DE X .t (.BinOp a op b pos) (two f1 f2 g):=by
 with_unfolding_all exact (
  PE.imp (jaO ho ha hb) fun _ _ _ h=>jgL hr h)
def jgn {g:D->D->Res D} (ho:OpR X (abP op) r) (hr:OpD X.K r g) (ha:DE X .b a f1) (hb:DE X .b b f2):DE X .b (.BinOp a op b pos) (two f1 f2 g):=by
 with_unfolding_all exact (
  PE.imp (jaO ho ha hb) fun _ _ _ h=>jgM hr h)
def ZM {op:CmpOp} {g:D->D->Res D} (ho:OpR X (abr op) r) (hr:OpS X.K r g) (ha:DE X l1 a f1) (hb:DE X l2 b f2) (hm:adt op b=false:=by first|exact jcl _| (with_unfolding_all rfl)):DE X l (.Compare a [op] [b] pos) (two f1 f2 g):=by
 with_unfolding_all exact (
  PE.imp (jdq ho ha hb hm) fun _ _ _ h=>jcV hr h)
def asB (f:TK):Sl->Res Bool:=fun env=>f env>>=fun d=>match d with
 | .bl b=> .ok b
 |_=> .stuck
def jeJ {env:Sl} {b:Bool} (h:asB f env= .ok b):f env= .ok (.bl b):=by
 obtain ⟨d,e1,e2⟩:=jd h
 cases d with
 |bl c=>cases e2;exact e1
 |_=>cases e2
def Yr {K:aab} {t:TE} (ht: ∀σ H Q,tE K l f σ H Q->t σ H Q) {Q:Bool->Hp->Prop} (h:tT K (asB f) σ H Q):jcU t σ H Q:=by
 obtain ⟨G,H0,env,b,k,ef,q⟩:=h;refine ht σ H _ ⟨G,H0,env,.bl b,k,jeJ ef,fun v H' s r _=>⟨b,r.blE,q H' s⟩⟩
def jW {op:CmpOp} {g:D->D->Res D} (ho:OpR X (abr op) r) (hr:OpS X.K r g) (ha:DE X l1 a f1) (hb:DE X l2 b f2) (hm:adt op b=false:=by first|exact jcl _| (with_unfolding_all rfl)):DT X (.Compare a [op] [b] pos) (asB (two f1 f2 g)):=by
 with_unfolding_all exact (
  PT.imp (jde ho ha hb hm) fun _ _ _ h=>Yr (l:= .b) (fun _ _ _ h=>jcV hr h) h)
def yI (f1 f2 f3:TK) (g g':D->D->Res D):Sl->Res D:=fun env=>f1 env>>=fun x=>f2 env>>=fun y=>g x y>>=fun z=>match z with
 | .bl true=>f3 env>>=fun w=>g' y w
 | .bl false=> .ok (.bl false)
 |_=> .stuck
def Kq {K:aab} {l3:Lv} {g g':D->D->Res D} (hr:OpS K r g) (hr':OpS K r' g') {Q:VK} (h:tE K l (yI f1 f2 f3 g g') σ H Q):UU r r' (tE K l1 f1) (tE K l2 f2) (tE K l3 f3) σ H Q:=by
 obtain ⟨G,H0,env,d,k,ef,q⟩:=h;obtain ⟨a,e1,ef⟩:=jd ef;obtain ⟨b,e2,ef⟩:=jd ef;obtain ⟨z,e3,e4⟩:=jd ef;refine ⟨G,H0,env,a,k,e1,fun x H1 s1 r1 _=>⟨G,H0,env,b,k.grow s1,e2,fun y H2 s2 r2 _=>?_⟩⟩;refine hr x y H2 a b z _ ((r1.grow s2).weak Lv.weak_b) (r2.weak Lv.weak_b) e3 fun v sc=>?_
 cases z with
 |bl t=>
  refine ⟨t,(sc.1 Any H2).blE,?_⟩
  cases t with
  |false=>
   cases e4;rw [if_neg aaN];exact q _ H2 (s1.trans s2) (.bl false) (jhG (K:=K) false).T
  |true=>
   obtain ⟨w,e5,e6⟩:=jd e4;rw [if_pos rfl];refine ⟨G,H0,env,w,(k.grow s1).grow s2,e5,fun y' H4 s4 r4 _=>?_⟩;refine hr' y y' H4 b w d Q ((r2.grow s4).weak Lv.weak_b) (r4.weak Lv.weak_b) e6 fun v sc=>q v H4 (s1.trans (s2.trans s4)) (sc.1 _ _) sc.T
 |_=>cases e4
def Vz {op op':CmpOp} {l3:Lv} {g g':D->D->Res D} (ho:OpR X (abr op) r) (hr:OpS X.K r g) (ho':OpR X (abr op') r') (hr':OpS X.K r' g') (ha:DE X l1 a f1) (hb:DE X l2 b f2) (hc:DE X l3 c f3)
   (hm:lastMarks [op,op'] [b,c]=false:=by with_unfolding_all rfl):DE X l (.Compare a [op,op'] [b,c] pos) (yI f1 f2 f3 g g'):=by
 with_unfolding_all exact (
  PE.imp (jaS ho ho' ha hb hc hm) fun _ _ _ h=>Kq hr hr' h)
def WN {op op':CmpOp} {l3:Lv} {g g':D->D->Res D} (ho:OpR X (abr op) r) (hr:OpS X.K r g) (ho':OpR X (abr op') r') (hr':OpS X.K r' g') (ha:DE X l1 a f1) (hb:DE X l2 b f2) (hc:DE X l3 c f3)
   (hm:lastMarks [op,op'] [b,c]=false:=by with_unfolding_all rfl):DT X (.Compare a [op,op'] [b,c] pos) (asB (yI f1 f2 f3 g g')):=by
 with_unfolding_all exact (
  PT.imp (jaJ ho ho' ha hb hc hm) fun _ _ _ h=>Yr (l:= .b) (fun _ _ _ h=>Kq hr hr' h) h)
def qt (h:DE X l e f) (he: ∀whole,isTrue e X.env whole=(do let v←whole;ae5 e.pos;adW [v] (truthy v)):=by intro _;rfl):DT X e (asB f):=by
 with_unfolding_all exact (
  PT.imp (jfp h he) fun _ _ _ h=>Yr (fun _ _ _ h=>h) h)
section
variable {g g1 g2:TJ} {rest:List Expr}
def notB (g:TJ):Sl->Res Bool:=fun env=>g env>>=fun b=> .ok (!b)
def qG (h:DT X a g):DT X (.UnaryOp .Not a pos) (notB g):=by
 with_unfolding_all exact (
  PT.imp (jfq h) fun σ H Q=>by
   rintro ⟨G,H0,env,b,k,ef,q⟩;obtain ⟨d,e1,e2⟩:=jd ef;cases e2
   exact ⟨G,H0,env,d,k,e1,q⟩)
@[irreducible] def DW (X:Cx) (e:Expr) (f:TJ):Prop:=PW X e (tT X.K f)
theorem PW.imp {t t':TT} (h:PW X e t) (w: ∀σ H Q,t' σ H Q->t σ H Q):PW X e t':=fun wh pins s σ H Q I q=>h wh pins s σ H Q I (w σ H Q q)
def DW.dt (h:DW X e g):DT X e g:=by
 with_unfolding_all exact (PW.pt h)
def Y6 (h:DT X a g):DW X (.BoolOp .And [a] pos) g:=by
 with_unfolding_all exact (jdb h)
def wm (h:DT X a g):DW X (.BoolOp .Or [a] pos) g:=by
 with_unfolding_all exact (jfl h)
def andB (g1 g2:TJ):Sl->Res Bool:=fun env=>g1 env>>=fun b=>if b=true then g2 env else .ok false
def orB (g1 g2:TJ):Sl->Res Bool:=fun env=>g1 env>>=fun b=>if b=true then .ok true else g2 env
def uy (h1:DT X a g1) (h2:DW X (.BoolOp .And (b::rest) pos) g2):DW X (.BoolOp .And (a::b::rest) pos) (andB g1 g2):=by
 with_unfolding_all exact (
  PW.imp (jfm h1 h2) fun σ H Q=>by
   rintro ⟨G,H0,env,r,k,ef,q⟩;obtain ⟨d,e1,e2⟩:=jd ef;refine ⟨G,H0,env,d,k,e1,fun H' s=>?_⟩
   cases d with
   |true=>rw [if_pos rfl] at e2 ⊢;exact ⟨G,H0,env,r,k.grow s,e2,fun H2 s2=>q H2 (s.trans s2)⟩
   |false=>rw [if_neg aaN] at e2 ⊢;cases e2;exact q H' s)
def y7 (h1:DT X a g1) (h2:DW X (.BoolOp .Or (b::rest) pos) g2):DW X (.BoolOp .Or (a::b::rest) pos) (orB g1 g2):=by
 with_unfolding_all exact (
  PW.imp (jg3 h1 h2) fun σ H Q=>by
   rintro ⟨G,H0,env,r,k,ef,q⟩;obtain ⟨d,e1,e2⟩:=jd ef;refine ⟨G,H0,env,d,k,e1,fun H' s=>?_⟩
   cases d with
   |false=>rw [if_neg aaN] at e2 ⊢;exact ⟨G,H0,env,r,k.grow s,e2,fun H2 s2=>q H2 (s.trans s2)⟩
   |true=>rw [if_pos rfl] at e2 ⊢;cases e2;exact q H' s)
def toB (f:TK) (g:TK) (w:Bool):Sl->Res D:=fun env=>f env>>=fun d=>match d with
 | .bl b=>if b=w then g env else .ok (.bl b)
 |_=> .stuck
def Vx {op} (h:DE X l a f):DE X l (.BoolOp op [a] pos) f:=by
 with_unfolding_all exact (jfx h)
def XZ (h1:DE X l1 a f1) (h2:DE X l (.BoolOp .And (b::rest) pos) f2):DE X l (.BoolOp .And (a::b::rest) pos) (toB f1 f2 true):=by
 with_unfolding_all exact (
  PE.imp (jfD h1 h2) fun σ H Q=>by
   rintro ⟨G,H0,env,r,k,ef,q⟩;obtain ⟨d,e1,e2⟩:=jd ef;refine ⟨G,H0,env,d,k,e1,fun v H' s rr _=>?_⟩
   cases d with
   |bl t=>
    refine ⟨t,rr.blE,?_⟩
    cases t with
    |true=>exact ⟨G,H0,env,r,k.grow s,e2,fun v H2 s2 r2 nt=>q v H2 (s.trans s2) r2 (Lv.Tgrow s nt)⟩
    |false=>cases e2;exact q _ H' s (.bl false) (jhG (K:=X.K) false).T
   |_=>cases e2)
def notD:D->Res D
 | .bl b=> .ok (.bl (!b))
 |_=> .stuck
def notF (f:TK):Sl->Res D:=fun env=>f env>>=notD
def jcH (h:DE X l1 a f):DE X l (.UnaryOp .Not a pos) (notF f):=by
 with_unfolding_all exact (
  PE.imp (jfy h) fun σ H Q=>by
   rintro ⟨G,H0,env,r,k,ef,q⟩;obtain ⟨d,e1,e2⟩:=jd ef;refine ⟨G,H0,env,d,k,e1,fun v H' s rr _=>?_⟩
   cases d with
   |bl t=>cases e2;exact ⟨t,rr.blE,q _ H' s (.bl _) (jhG (K:=X.K) _).T⟩
   |_=>cases e2)
def ifD (g:TJ) (f1 f2:TK):Sl->Res D:=fun env=>g env>>=fun b=>if b=true then f1 env else f2 env
def Vy (hc:DT X c g) (h1:DE X l a f1) (h2:DE X l b f2):DE X l (.IfExp c a b pos) (ifD g f1 f2):=by
 with_unfolding_all exact (
  PE.imp (jaP hc h1 h2) fun σ H Q=>by
   rintro ⟨G,H0,env,r,k,ef,q⟩;obtain ⟨d,e1,e2⟩:=jd ef;refine ⟨G,H0,env,d,k,e1,fun H' s=>?_⟩
   cases d with
   |true=>rw [if_pos rfl] at e2 ⊢;exact ⟨G,H0,env,r,k.grow s,e2,fun v H2 s2 r2 nt=>q v H2 (s.trans s2) r2 (Lv.Tgrow s nt)⟩
   |false=>rw [if_neg aaN] at e2 ⊢;exact ⟨G,H0,env,r,k.grow s,e2,fun v H2 s2 r2 nt=>q v H2 (s.trans s2) r2 (Lv.Tgrow s nt)⟩)
end
def jc (f:TK) (g:TF):Sl->Res (List D):=fun env=>f env>>=fun d=>g env>>=fun ds=> .ok (d::ds)
def nil1:Sl->Res (List D):=fun _=> .ok []
def jg:DA X l [] nil1:=by
 with_unfolding_all exact (PA.imp wJ fun σ H Q=>by rintro ⟨G,H0,env,d,k,ef,q⟩;cases ef;exact q [] H (Same.refl H) .nil)
def ja {g:TF} (ha:DE X l e f) (hr:DA X l es g) (hs:T9 X e es:=by exact jk rfl):DA X l (e::es) (jc f g):=by
 with_unfolding_all exact (
  PA.imp (qg ha hr hs) fun σ H Q=>by
   rintro ⟨G,H0,env,ds,k,ef,q⟩;obtain ⟨d,e1,e2⟩:=jd ef;obtain ⟨ds',e3,e4⟩:=jd e2;cases e4
   exact ⟨G,H0,env,d,k,e1,fun v H1 s1 r1 _=>⟨G,H0,env,ds',k.grow s1,e3,fun vs H2 s2 r2=>q _ H2 (s1.trans s2) (.cons (r1.grow s2) r2)⟩⟩)
def qh {p:Addr} (s:Same H H1) (hp:H1 p=none):NewTop H (.ref p):=fun a e o q=>by
 cases e;rw [s _ _ q] at hp;cases hp
def tupF (g:TF):Sl->Res D:=fun env=>g env>>=fun ds=>must (ds.length<=aak) (.ok (.tup ds))
def lstF (g:TF):Sl->Res D:=fun env=>g env>>=fun ds=>must (ds.length<=aak) (.ok (.lst ds))
def qf {x1} {g:TF} (h:DA X .s es g):DE X .t (.Tuple es x1 pos) (tupF g):=by
 with_unfolding_all exact (
  PE.imp (jcg h) fun σ H Q=>by
   rintro ⟨G,H0,env,d,k,ef,q⟩;obtain ⟨ds,e1,e2⟩:=jd ef;obtain ⟨hz,e3⟩:=jq e2;cases e3;refine ⟨G,H0,env,ds,k,e1,fun vs H1 s1 r1=>⟨by rw [r1.length];exact hz,fun p hp=>?_⟩⟩
   exact q _ _ (s1.trans (Same.upd hp)) (.tup ju (r1.grow (Same.upd hp))) (qh s1 hp))
def qu {g:TF} (h:DA X .s es g):DE X .t (.List es pos) (lstF g):=by
 with_unfolding_all exact (
  PE.imp (jfA h) fun σ H Q=>by
   rintro ⟨G,H0,env,d,k,ef,q⟩;obtain ⟨ds,e1,e2⟩:=jd ef;obtain ⟨hz,e3⟩:=jq e2;cases e3;refine ⟨G,H0,env,ds,k,e1,fun vs H1 s1 r1=>⟨by rw [r1.length];exact hz,fun p hp=>?_⟩⟩
   exact q _ _ (s1.trans (Same.upd hp)) (.lst ju (k.new p (Same.free s1 hp)) (r1.laid hp)) (qh s1 hp))
def Yk (K:aab) (r:List V->Hp->VK->Prop) (g:TD):Prop:= ∀(xs:List V) (H:Hp) (ds:List D) (d:D) (Q:VK),Reps K Any H xs ds->g ds= .ok d->(∀v,Sc K v d->Q v H)->r xs H Q
def Zf (K:aab) (r:List V->Hp->VK->Prop) (g:TD):Prop:= ∀(A:Ue) (xs:List V) (H:Hp) (ds:List D) (d:D) (Q:VK),Reps K A H xs ds->g ds= .ok d->(∀v H',Same H H'->Rep K (fun c=>H c=none\/A c) H' v d->NewTop H v->Q v H')->r xs H Q
def app (f:TF) (g:TD):Sl->Res D:=fun env=>f env>>=g
def jgT {K:aab} {r:List V->Hp->VK->Prop} {g:TD} {fa:TF} (hr:Yk K r g) {Q:VK} (h:tE K l' (app fa g) σ H Q):tCB r (tA K l fa) σ H Q:=by
 obtain ⟨G,H0,env,d,k,ef,q⟩:=h;obtain ⟨ds,e1,e2⟩:=jd ef;refine ⟨G,H0,env,ds,k,e1,fun vs H1 s1 r1=>?_⟩;exact hr vs H1 ds d Q (r1.weak Lv.weak_b) e2 fun v sc=>q v H1 s1 (sc.1 _ _) sc.T
def je4 {K:aab} {r:List V->Hp->VK->Prop} {g:TD} {fa:TF} (hr:Zf K r g) {Q:VK} (h:tE K .t (app fa g) σ H Q):tCB r (tA K .s fa) σ H Q:=by
 obtain ⟨G,H0,env,d,k,ef,q⟩:=h;obtain ⟨ds,e1,e2⟩:=jd ef;refine ⟨G,H0,env,ds,k,e1,fun vs H1 s1 r1=>?_⟩;exact hr _ vs H1 ds d Q r1 e2 fun v H2 s2 r2 nt=>q v H2 (s1.trans s2) (r2.weak fun c z=>z.elim (fun z=>k.new c (Same.free s1 z)) fun z=>z) (nt.grow s1)
def jgU {K:aab} {r:List V->Hp->VK->Prop} {g:TD} {fa:TF} (hr:Zf K r g) {Q:VK} (h:tE K .b (app fa g) σ H Q):tCB r (tA K .b fa) σ H Q:=by
 obtain ⟨G,H0,env,d,k,ef,q⟩:=h;obtain ⟨ds,e1,e2⟩:=jd ef;refine ⟨G,H0,env,ds,k,e1,fun vs H1 s1 r1=>?_⟩;exact hr _ vs H1 ds d Q r1 e2 fun v H2 s2 r2 nt=>q v H2 (s1.trans s2) (r2.weak fun c _=>trivial) trivial
section
variable {x:Str} {id T:String} {p:Pos} {r:List V->Hp->VK->Prop} {g:TD} {fa:TF}
def jB (hc:CallR X (.builtin id) r) (hr:Yk X.K r g) (hg:Gl X x) (hm:X.mg x=none) (hv:aba x=some (.builtin id))
   (ha:DA X l (e::es) fa) (hn:x≠ "__name__" :=by decide) (hdb:Z0 x:=by decide)
   (he:T9 X e es:=by exact jk rfl) (hpl:T8 X pos es:=by exact jz rfl):DE X l' (.Call (.Name x p) (e::es) [] pos) (app fa g):=by
 with_unfolding_all exact (
  PE.imp (xg hc hg hm hv ha hn hdb he hpl) fun _ _ _ h=>jgT hr h)
def XY (hc:CallR X (.type T) r) (hr:Zf X.K r g) (hg:Gl X x) (hm:X.mg x=none) (hv:aba x=some (.type T))
   (ha:DA X .s (e::es) fa) (hn:x≠ "__name__" :=by decide) (hdb:Z0 x:=by decide)
   (he:T9 X e es:=by exact jk rfl) (hpl:T8 X pos es:=by exact jz rfl):DE X .t (.Call (.Name x p) (e::es) [] pos) (app fa g):=by
 with_unfolding_all exact (
  PE.imp (Jr hc hg hm hv ha hn hdb he hpl) fun _ _ _ h=>je4 hr h)
def zL (hc:CallR X (.type T) r) (hr:Zf X.K r g) (hg:Gl X x) (hm:X.mg x=none) (hv:aba x=some (.type T))
   (ha:DA X .b (e::es) fa) (hn:x≠ "__name__" :=by decide) (hdb:Z0 x:=by decide)
   (he:T9 X e es:=by exact jk rfl) (hpl:T8 X pos es:=by exact jz rfl):DE X .b (.Call (.Name x p) (e::es) [] pos) (app fa g):=by
 with_unfolding_all exact (
  PE.imp (Jr hc hg hm hv ha hn hdb he hpl) fun _ _ _ h=>jgU hr h)
end
def spF (K:aab) (fr:Bool) (n:Nat) (F:TD):Sp:=fun vs H Q _=> ∃B ds d,vs.length=n/\Reps K B H vs ds/\F ds= .ok d/\ ∀v H',Same H H'->Rep K (fun a=>H a=none\/B a) H' v d->(fr=true->NewTop H v)->Q v H'
def jy (n:Nat) (F:TD) (g:TF):Sl->Res D:=fun env=>g env>>=fun ds=>must (ds.length=n) (F ds)
section
variable {CX:CXT} {k:Nat} {x:Str} {fa:Addr} {fd:abJ} {ps:List Str} {p:Pos} {n:Nat} {F:TD} {E:XK} {g:TF} {fr:Bool}
def jes (G:FnOk X.prog X.w X.K X.mg X.base CX k fa fd ps (spF X.K fr n F)) (hr:Room k X.A) (hg:Gl X x) (hm:X.mg x=some (.ref fa)) (hk:aaZ X.K (.ref fa)=true) (hb:Binds X.K fd ps []) (hx:yN CX X E)
   (ha:DA X .s (e::es) g) (hdb:Z0 x:=by decide) (he:T9 X e es:=by exact jk rfl) (hpl:T8 X pos es:=by exact jz rfl):
   DE X .s (.Call (.Name x p) (e::es) [] pos) (jy n F g):=by
 with_unfolding_all exact (
  PE.imp (YH G hr hg hm hk hb .nil hx ha hdb he hpl) fun σ H Q=>by
   rintro ⟨GG,H0,env,d,k,ef,q⟩;obtain ⟨ds,e1,e2⟩:=jd ef;obtain ⟨hn,e3⟩:=jq e2;refine ⟨GG,H0,env,ds,k,e1,fun vs H1 s1 r1=>?_⟩;show spF X.K fr n F (vs++[]) H1 Q E;rw [abC]
   exact ⟨_,ds,d,by rw [r1.length];exact hn,r1,e3,fun v H2 s2 r2 _=>q v H2 (s1.trans s2) (r2.weak fun c z=>z.elim (fun z=>k.new c (Same.free s1 z)) fun z=>z) trivial⟩)
def jbL (G:FnOk X.prog X.w X.K X.mg X.base CX k fa fd ps (spF X.K true n F)) (hr:Room k X.A) (hg:Gl X x) (hm:X.mg x=some (.ref fa)) (hk:aaZ X.K (.ref fa)=true) (hb:Binds X.K fd ps []) (hx:yN CX X E)
   (ha:DA X .s (e::es) g) (hdb:Z0 x:=by decide) (he:T9 X e es:=by exact jk rfl) (hpl:T8 X pos es:=by exact jz rfl):
   DE X .t (.Call (.Name x p) (e::es) [] pos) (jy n F g):=by
 with_unfolding_all exact (
  PE.imp (YH G hr hg hm hk hb .nil hx ha hdb he hpl) fun σ H Q=>by
   rintro ⟨GG,H0,env,d,k,ef,q⟩;obtain ⟨ds,e1,e2⟩:=jd ef;obtain ⟨hn,e3⟩:=jq e2;refine ⟨GG,H0,env,ds,k,e1,fun vs H1 s1 r1=>?_⟩;show spF X.K true n F (vs++[]) H1 Q E;rw [abC]
   exact ⟨_,ds,d,by rw [r1.length];exact hn,r1,e3,fun v H2 s2 r2 nt=>q v H2 (s1.trans s2) (r2.weak fun c z=>z.elim (fun z=>k.new c (Same.free s1 z)) fun z=>z) ((nt rfl).grow s1)⟩)
def jbM (G:FnOk X.prog X.w X.K X.mg X.base CX k fa fd ps (spF X.K fr n F)) (hr:Room k X.A) (hg:Gl X x) (hm:X.mg x=some (.ref fa)) (hk:aaZ X.K (.ref fa)=true) (hb:Binds X.K fd ps []) (hx:yN CX X E)
   (ha:DA X .b (e::es) g) (hdb:Z0 x:=by decide) (he:T9 X e es:=by exact jk rfl) (hpl:T8 X pos es:=by exact jz rfl):
   DE X .b (.Call (.Name x p) (e::es) [] pos) (jy n F g):=by
 with_unfolding_all exact (
  PE.imp (YH G hr hg hm hk hb .nil hx ha hdb he hpl) fun σ H Q=>by
   rintro ⟨GG,H0,env,d,k,ef,q⟩;obtain ⟨ds,e1,e2⟩:=jd ef;obtain ⟨hn,e3⟩:=jq e2;refine ⟨GG,H0,env,ds,k,e1,fun vs H1 s1 r1=>?_⟩;show spF X.K fr n F (vs++[]) H1 Q E;rw [abC]
   exact ⟨_,ds,d,by rw [r1.length];exact hn,r1,e3,fun v H2 s2 r2 _=>q v H2 (s1.trans s2) (r2.weak fun c _=>trivial) trivial⟩)
end
def ixD:D->D->Res D
 | .lst ds,.int i=>match atI ds i with
  |some d=> .ok d
  |none=> .stuck
 | .scr ds,.int i=>match atI ds i with
  |some d=> .ok d
  |none=> .stuck
 | .tup ds,.int i=>match atI ds i with
  |some d=> .ok d
  |none=> .stuck
 | .str z,.int i=>match atI z.cps.toList i with
  |some c=> .ok (.str ⟨#[c]⟩)
  |none=> .stuck
 |_,_=> .stuck
def WU {K:aab} {A:Ue} {xs:List V} {ds:List D} {i:Int} {d:D} (r:Reps K A H xs ds) (h:atI ds i=some d): ∃v,atI xs i=some v/\Rep K A H v d:=by
 unfold atI at h ⊢;rw [r.length]
 cases e:ixN ds.length i with
 |none=>rw [e] at h;cases h
 |some j=>rw [e] at h;exact r.get h
def jdz (c:Nat):(⟨#[c]⟩:Str).length<=aak:=by show 1<=aak;decide
def jfJ {A:Ue} {x:V} {a b d:D} {Q:VK} (ra:Rep X.K A H x a) (rb:Rep X.K Any H y b) (h:ixD a b= .ok d) (q: ∀v,Rep X.K A H v d->Q v H):rIx X.K x y H Q:=by
 cases b with
 |int i=>
  cases rb.intE
  cases a with
  |lst ds=>
   unfold ixD at h;dsimp only at h
   cases e:atI ds i with
   |none=>rw [e] at h;cases h
   |some d'=>
    rw [e] at h;cases h;obtain ⟨p,xs,rfl,hq,_,r⟩:=ra.lstE;obtain ⟨v,e2,r2⟩:=WU r.low e;exact .inl ⟨p,xs,i,v,rfl,rfl,.of hq,e2,q v r2⟩
  |scr ds=>
   unfold ixD at h;dsimp only at h
   cases e:atI ds i with
   |none=>rw [e] at h;cases h
   |some d'=>
    rw [e] at h;cases h;obtain ⟨p,xs,rfl,hq,r⟩:=ra.scrE;obtain ⟨v,e2,r2⟩:=WU r e;exact .inl ⟨p,xs,i,v,rfl,rfl,hq.sql,e2,q v r2⟩
  |tup ds=>
   unfold ixD at h;dsimp only at h
   cases e:atI ds i with
   |none=>rw [e] at h;cases h
   |some d'=>
    rw [e] at h;cases h;obtain ⟨p,xs,rfl,hq,r⟩:=ra.tupE;obtain ⟨v,e2,r2⟩:=WU r e;exact .inr (.inl ⟨p,xs,i,v,rfl,rfl,.of hq,e2,q v r2⟩)
  |str z=>
   unfold ixD at h;dsimp only at h
   cases e:atI z.cps.toList i with
   |none=>rw [e] at h;cases h
   |some c=>
    rw [e] at h;cases h;obtain ⟨rfl,hz⟩:=ra.strE;exact .inr (.inr ⟨z,i,c,rfl,rfl,hz,e,q _ (.str _ (by show 1<=aak;decide))⟩)
  |_=>cases h
 |_=>cases a<;>cases h
def jX (ha:DE X .s a f1) (hb:DE X l2 b f2) (hs:WW b:=by intro _ _;rfl):DE X .s (.Subscript a b pos) (two f1 f2 ixD):=by
 with_unfolding_all exact (
  PE.imp (jdo jcp ha hb hs) fun σ H Q=>by
   rintro ⟨G,H0,env,d,k,ef,q⟩;obtain ⟨a',e1,ef⟩:=jd ef;obtain ⟨b',e2,e3⟩:=jd ef;refine ⟨G,H0,env,a',k,e1,fun x H1 s1 r1 _=>⟨G,H0,env,b',k.grow s1,e2,fun y H2 s2 r2 _=>?_⟩⟩
   exact jfJ (r1.grow s2) (r2.weak Lv.weak_b) e3 fun v r3=>q v H2 (s1.trans s2) r3 trivial)
@[irreducible] def DO (X:Cx) (e:Option Expr) (f:Sl->Res (Option Int)):Prop:=PO X e (fun σ H Q=> ∃G H0 env i,EnvOk X.K G H0 env σ H/\f env= .ok i/\ ∀H',Same H H'->Q i H')
theorem PO.imp {e:Option Expr} {t t':TO} (h:PO X e t) (w: ∀σ H Q,t' σ H Q->t σ H Q):PO X e t':=fun pins s σ H Q I q=>h pins s σ H Q I (w σ H Q q)
def Qg:Sl->Res (Option Int):=fun _=> .ok none
def xV:DO X none Qg:=by
 with_unfolding_all exact (PO.imp jdi fun σ H Q=>by rintro ⟨G,H0,env,i,k,ef,q⟩;cases ef;exact q H (Same.refl H))
def asI:D->Res (Option Int)
 | .int i=> .ok (some i)
 |_=> .stuck
def yG (f:TK):Sl->Res (Option Int):=fun env=>f env>>=asI
def wC (h:DE X l e f):DO X (some e) (yG f):=by
 with_unfolding_all exact (PO.imp (jdh h) fun σ H Q=>by
  rintro ⟨G,H0,env,i,k,ef,q⟩;obtain ⟨d,e1,e2⟩:=jd ef
  cases d with
  |int j=>cases e2;exact ⟨G,H0,env,.int j,k,e1,fun v H' s r _=>⟨j,r.intE,q H' s⟩⟩
  |_=>cases e2)
def cutD (ds:List D) (lo hi:Option Int):List D:=(ds.drop (HT.sIx ds.length 0 lo)).take (HT.sIx ds.length ds.length hi-HT.sIx ds.length 0 lo)
def Kg {K:aab} {A:Ue} {xs:List V} {ds:List D} {lo:Option Int} (r:Reps K A H xs ds):Reps K A H (cutV xs lo hi) (cutD ds lo hi):=by
 unfold cutV cutD;rw [r.length];exact (r.drop _).take _
def zF (f:TK) (fl fh:Sl->Res (Option Int)) (g:D->Option Int->Option Int->Res D):Sl->Res D:=fun env=>f env>>=fun a=>fl env>>=fun lo=>fh env>>=fun hi=>g a lo hi
end
section
variable {K:aab} {G:Ue} {H0 H H1 H':Hp} {env env':Sl} {σ σ':L2.St} {i:Nat} {d:D} {v:V}
def jr {l:List α} {x:α} (h:i≠j):(l.set i x)[j]?=l[j]?:=ac6 h
def jv {l:List α} {x y:α} (h:(l.set i x)[i]?=some y):y=x/\i<l.length:=by
 have hl:i<l.length:=by
  have:=(aav.mp h).1;simpa using this
 rw [abp hl] at h;exact ⟨(aaH h).symm,hl⟩
def QF {s:Slot} (h:j4 (env.set i s) (σ.set i (some v)) a):j4 env σ a\/(∃d,s= .own d/\v= .ref a):=by
 obtain ⟨j,d,h1,h2⟩:=h
 by_cases e:i=j
 · subst e;obtain ⟨q1,_⟩:=jv h1;obtain ⟨q2,_⟩:=jv h2;exact .inr ⟨d,q1.symm,(aaH q2).symm⟩
 · rw [jr e] at h1 h2;exact .inl ⟨j,d,h1,h2⟩
def EnvOk.setS (k:EnvOk K G H0 env σ H) (r:Rep K (Sf G env σ) H v d):EnvOk K G H0 (env.set i (.shr d)) (σ.set i (some v)) H:=by
 have w: ∀a,Sf G env σ a->Sf G (env.set i (.shr d)) (σ.set i (some v)) a:=fun a n=>⟨fun o=>(by
   rcases QF o with z| ⟨d',z,_⟩
   · exact n.1 z
   · cases z),n.2⟩
 refine ⟨by simp [k.len],k.base,k.g0,fun j e h=>?_,fun j e h=>?_,fun j j' e e' a h1 h2 h3 h4=>?_⟩
 · by_cases z:i=j
   · subst z;obtain ⟨q,hl⟩:=jv h;cases q;exact ⟨v,abp (by rw [k.len];exact hl),r.weak w⟩
   · rw [jr z] at h ⊢;obtain ⟨v',h1,h2⟩:=k.shr j e h;exact ⟨v',h1,h2.weak w⟩
 · by_cases z:i=j
   · subst z;obtain ⟨q,hl⟩:=jv h;cases q
   · rw [jr z] at h ⊢;obtain ⟨v',h1,h0,h2⟩:=k.own j e h;exact ⟨v',h1,h0,h2.stay (fun _ _ e _=>e) w fun _ e=>e⟩
 · have n1:i≠j:=fun z=>by subst z;obtain ⟨q,_⟩:=jv h1;cases q
   have n2:i≠j':=fun z=>by subst z;obtain ⟨q,_⟩:=jv h2;cases q
   rw [jr n1] at h1 h3;rw [jr n2] at h2 h4;exact k.dis j j' e e' a h1 h2 h3 h4
def Wc:D->Bool
 | .lst _=>true
 | .dic _ _=>true
 | .dit _ _=>true
 | .obj _ _ _=>true
 |_=>false
def YJ {A:Ue} (r:Rep K A H v d) (h:Wc d=true): ∃a,v= .ref a/\A a/\(∃o,H a=some o/\Mut (some o))/\Top K (fun c=>A c/\c≠a) H a d:=by
 cases r with
 |lst e a r=>exact ⟨_,rfl,a,⟨_,e,trivial⟩,.lst e r⟩
 |dic e a k1 k2 r=>exact ⟨_,rfl,a,⟨_,e,trivial⟩,.dic e k1 k2 r⟩
 |dit e a k1 k2 r=>exact ⟨_,rfl,a,⟨_,e,trivial⟩,.dit e k1 k2 r⟩
 |obj e a k1 k2 r=>exact ⟨_,rfl,a,⟨_,e,trivial⟩,.obj e k1 k2 r⟩
 |_=>cases h
def jfR (s:Same H H1) (nt:NewTop H (.ref a)) (h: ∃o,H1 a=some o/\Mut (some o)):H a=none:=by
 cases e:H a with
 |none=>rfl
 |some o=>
  obtain ⟨o',h1,h2⟩:=h;rw [s a o e] at h1;cases h1;exact (nt a rfl o e h2).elim
def EnvOk.setN (k:EnvOk K G H0 env σ H) (s:Same H H1) (r:Rep K (Sf G env σ) H1 v d) (nt:NewTop H v) (hd:Wc d=true):EnvOk K G H0 (env.set i (.own d)) (σ.set i (some v)) H1/\ ∃a,v= .ref a/\H a=none:=by
 obtain ⟨a,rfl,ga,mt,top⟩:=YJ r hd;have fa:=jfR s nt mt;refine ⟨?_,a,rfl,fa⟩
 have w: ∀c,(Sf G env σ c/\c≠a)->Sf G (env.set i (.own d)) (σ.set i (some (V.ref a))) c:=fun c n=>⟨fun o=>(by
   rcases QF o with z| ⟨d',z,z2⟩
   · exact n.1.1 z
   · cases z2;exact n.2 rfl),n.1.2⟩
 have w2: ∀c,(Sf G env σ c/\H c≠none)->Sf G (env.set i (.own d)) (σ.set i (some (V.ref a))) c:=fun c n=>w c ⟨n.1,fun e=>n.2 (by rw [e];exact fa)⟩
 have k1:=k.grow s;refine ⟨by simp [k.len],k1.base,k.g0,fun j e h=>?_,fun j e h=>?_,fun j j' e e' b h1 h2 h3 h4=>?_⟩
 · by_cases z:i=j
   · subst z;obtain ⟨q,hl⟩:=jv h;cases q
   · rw [jr z] at h ⊢;obtain ⟨v',h1,h2⟩:=k.shr j e h;exact ⟨v',h1,(h2.inDom.grow s).weak w2⟩
 · by_cases z:i=j
   · subst z;obtain ⟨q,hl⟩:=jv h;cases q;exact ⟨a,abp (by rw [k.len];exact hl),Same.free k.base fa,top.stay (fun _ _ e _=>e) w fun _ e=>e⟩
   · rw [jr z] at h ⊢;obtain ⟨v',h1,h0,h2⟩:=k.own j e h;refine ⟨v',h1,h0,?_⟩
     cases h2 with
     |lst e2 r2=>exact .lst (s _ _ e2) ((r2.inDom.grow s).weak w2)
     |dic e2 k2 k3 r2=>exact .dic (s _ _ e2) k2 k3 ((r2.inDom.grow s).weak w2)
     |dit e2 k2 k3 r2=>exact .dit (s _ _ e2) k2 k3 ((r2.inDom.grow s).weak w2)
     |obj e2 k2 k3 r2=>exact .obj (s _ _ e2) k2 k3 ((r2.inDom.grow s).weak w2)
 · have new: ∀(j:Nat) (e:D),env[j]?=some (.own e)->σ[j]?=some (some (.ref a))->False:=fun j e q1 q2=>by
     obtain ⟨u,q⟩:=k.there ⟨j,e,q1,q2⟩;rw [fa] at q;cases q
   by_cases z1:i=j
   · subst z1
     by_cases z2:i=j'
     · exact z2
     · rw [jr z2] at h2 h4;obtain ⟨q,_⟩:=jv h3;cases q;exact (new j' e' h2 h4).elim
   · rw [jr z1] at h1 h3
     by_cases z2:i=j'
     · subst z2;obtain ⟨q,_⟩:=jv h4;cases q;exact (new j e h1 h3).elim
     · rw [jr z2] at h2 h4;exact k.dis j j' e e' b h1 h2 h3 h4
def Frm.set {s:Slot} (sm:Same H H1) (fresh: ∀a d,s= .own d->v= .ref a->H a=none):Frm env σ H (env.set i s) (σ.set i (some v)) H1:=
 ⟨fun b o e _=>sm b o e,fun b o=>by
  rcases QF o with z| ⟨d',z,z2⟩
  · exact .inl z
  · exact .inr (fresh b d' z z2),fun b e=>Same.free sm e⟩
def Frm.sf (f:Frm env σ H env' σ' H'): ∀a,(Sf G env σ a/\H a≠none)->Sf G env' σ' a:=fun a z=>⟨fun o=>(f.more a o).elim z.1.1 z.2,z.1.2⟩
def Frm.st (k:EnvOk K G H0 env σ H) (f:Frm env σ H env' σ' H'):Stay (fun a=>Sf G env σ a/\H a≠none) H H':=fun a o e m=>f.keep a o e fun ow=>(m (k.mutO ow e)).1.1 ow
def Frm.rep (k:EnvOk K G H0 env σ H) (f:Frm env σ H env' σ' H') (r:Rep K (Sf G env σ) H v d):Rep K (Sf G env' σ') H' v d:=r.inDom.stay (f.st k) f.sf
def Frm.reps (k:EnvOk K G H0 env σ H) (f:Frm env σ H env' σ' H') {ds:List D} (r:Reps K (Sf G env σ) H vs ds):Reps K (Sf G env' σ') H' vs ds:=r.inDom.stay (f.st k) f.sf
end
def Ua (d:D):Slot:=if Wc d=true then .own d else .shr d
def EnvOk.setNew {K:aab} {G:Ue} {env:Sl} {i:Nat} {d:D} (k:EnvOk K G H0 env σ H) (s:Same H H1) (r:Rep K (Sf G env σ) H1 v d) (nt:NewTop H v):
   EnvOk K G H0 (env.set i (Ua d)) (σ.set i (some v)) H1/\Frm env σ H (env.set i (Ua d)) (σ.set i (some v)) H1:=by
 unfold Ua
 by_cases h:Wc d=true
 · rw [if_pos h];obtain ⟨z,a',e',fa⟩:=k.setN s r nt h;refine ⟨z,.set s fun a d' _ e=>?_⟩;rw [e] at e';cases e';exact fa
 · rw [if_neg h];exact ⟨(k.grow s).setS r,.set s fun _ _ z _=>by cases z⟩
def nxO:Sl->Res Out:=fun env=> .ok (.nx env)
def jbE (f:TK):Sl->Res Out:=fun env=>f env>>=fun _=> .ok (.nx env)
def seqO (g1 g2:TH):Sl->Res Out:=fun env=>g1 env>>=fun o=>match o with
 | .nx env'=>g2 env'
 | .rt fr d=> .ok (.rt fr d)
 | .bk env'=> .ok (.bk env')
 | .ct env'=> .ok (.ct env')
section
variable {X:Cx} {e c tg:Expr} {st:Stmt} {rest body orelse:List Stmt} {pos:Pos} {l:Lv} {f:TK} {g g1 g2:TH}
def jJ:DSs X [] nxO:=by
 with_unfolding_all exact (PSs.imp Z9 fun E σ H=>by
  rintro ⟨G,H0,env,o,k,ef,q⟩;cases ef
  exact q σ H k (Frm.refl (Same.refl H)))
def we {K:aab} {G:Ue} {env env':Sl} {o:Out} (f:Frm env σ H env' σ' H') (q:Post K G H0 env σ H E o):Post K G H0 env' σ' H' E o:=by
 cases o with
 |nx e=>exact fun σ2 H2 k2 f2=>q σ2 H2 k2 (f.trans f2)
 |bk e=>exact fun σ2 H2 k2 f2=>q σ2 H2 k2 (f.trans f2)
 |ct e=>exact fun σ2 H2 k2 f2=>q σ2 H2 k2 (f.trans f2)
 |rt fr d=>exact q
def jf (h1:DS X st g1) (h2:DSs X rest g2):DSs X (st::rest) (seqO g1 g2):=by
 with_unfolding_all exact (PSs.imp (Ql h1 h2) fun E σ H=>by
  rintro ⟨G,H0,env,o,k,ef,q⟩;obtain ⟨o1,e1,e2⟩:=jd ef;refine ⟨G,H0,env,o1,k,e1,?_⟩
  cases o1 with
  |nx env1=>exact fun σ' H' k' f'=>⟨G,H0,env1,o,k',e2,we f' q⟩
  |rt fr d=>cases e2;exact q
  |bk e'=>cases e2;exact q
  |ct e'=>cases e2;exact q)
def jj (h1:DS X st g1):DSs X [st] g1:=by
 with_unfolding_all exact (PSs.imp (Z8 h1) fun E σ H q=>q)
def retO (f:TK):Sl->Res Out:=fun env=>f env>>=fun d=> .ok (.rt true d)
def jH (h:DE X .t e f):DS X (.Return (some e) pos) (retO f):=by
 with_unfolding_all exact (PS.imp (KJ h) fun E σ H=>by
  rintro ⟨G,H0,env,o,k,ef,q⟩;obtain ⟨d,e1,e2⟩:=jd ef;cases e2
  exact ⟨G,H0,env,d,k,e1,fun v H' s r nt=>q v H' (k.base.trans s) (r.weak fun a z=>z.2) fun _=>NewTop.grow k.base nt⟩)
def retS (f:TK):Sl->Res Out:=fun env=>f env>>=fun d=> .ok (.rt false d)
def Ja (h:DE X .s e f):DS X (.Return (some e) pos) (retS f):=by
 with_unfolding_all exact (PS.imp (KJ h) fun E σ H=>by
  rintro ⟨G,H0,env,o,k,ef,q⟩;obtain ⟨d,e1,e2⟩:=jd ef;cases e2
  exact ⟨G,H0,env,d,k,e1,fun v H' s r nt=>q v H' (k.base.trans s) (r.weak fun a z=>z.2) fun z=>by cases z⟩)
def rdO (i:Nat):Sl->Res D:=fun env=>match env[i]? with
 |some (.own d)=> .ok d
 |some (.shr d)=>must (d.imm=true) (.ok d)
 |_=> .stuck
def Y8 (i:Nat) {x:Str} {p:Pos} (hN:X.N[i]?=some x:=by rfl) (hv:Vis X.env.scope x:=by first|exact acg rfl|exact abA (acg rfl)|exact abA (abA rfl)) (hd:Z0 x:=by decide)
    (hcd:Zh x:=by decide):DS X (.Return (some (.Name x p)) pos) (retO (rdO i)):=by
 with_unfolding_all exact (PS.imp (KJ (xu hN hv hd hcd)) fun E σ H=>by
  rintro ⟨G,H0,env,o,k,ef,q⟩;obtain ⟨d,e1,e2⟩:=jd ef;cases e2;unfold rdO at e1
  split at e1
  · rename_i d' hs;cases e1;obtain ⟨a,h1,h0,h2⟩:=k.own i d hs;refine ⟨.ref a,h1,q _ H k.base (h2.rep (fun c z=>⟨z.2,Xm k hs h1 c z⟩) (k.g0 a h0)) fun _ b e o' q'=>?_⟩;cases e;rw [h0] at q';cases q'
  · rename_i d' hs;obtain ⟨hm,e3⟩:=jq e1;cases e3;obtain ⟨v,h1,h2⟩:=k.shr i d hs;exact ⟨v,h1,q v H k.base (h2.imm hm) fun _=>vM k.base h2 hm⟩
  · cases e1)
def ifO (t:TJ) (g1 g2:TH):Sl->Res Out:=fun env=>t env>>=fun b=>if b=true then g1 env else g2 env
def qU {t:TJ} (hc:DT X c t) (h1:DSs X body g1) (h2:DSs X orelse g2):DS X (.If c body orelse pos) (ifO t g1 g2):=by
 with_unfolding_all exact (PS.imp (kA hc h1 h2) fun E σ H=>by
  rintro ⟨G,H0,env,o,k,ef,q⟩;obtain ⟨b,e1,e2⟩:=jd ef;refine ⟨G,H0,env,b,k,e1,fun H' s=>?_⟩
  cases b with
  |true=>rw [if_pos rfl] at e2 ⊢;exact ⟨G,H0,env,o,k.grow s,e2,we (Frm.refl s) q⟩
  |false=>rw [if_neg aaN] at e2 ⊢;exact ⟨G,H0,env,o,k.grow s,e2,we (Frm.refl s) q⟩)
def setO (i:Nat) (f:TK):Sl->Res Out:=fun env=>f env>>=fun d=> .ok (.nx (env.set i (Ua d)))
def xU (i:Nat) {x:Str} (hN:X.N.Nodup) (h:DE X .t e f) (hi:X.N[i]?=some x:=by rfl) (hx:Loc X.env.scope x:=by first|exact acg rfl|exact abA rfl) (hs:acq e (some (.Name x pos')) pos.line X.env=pure false:=by rfl)
   (hf:T7 X x:=by first|exact .inl rfl|exact .inr rfl|assumption):DS X (.Assign [.Name x pos'] e pos) (setO i f):=by
 with_unfolding_all exact (
  PS.imp (kz hN hi hx h hs hf) fun E σ H=>by
   rintro ⟨G,H0,env,o,k,ef,q⟩;obtain ⟨d,e1,e2⟩:=jd ef;cases e2
   exact ⟨G,H0,env,d,k,e1,fun v H' s r nt=>q _ H' (k.setNew s r nt).1 (k.setNew s r nt).2⟩)
def jC (i:Nat) (f:TK):Sl->Res Out:=fun env=>f env>>=fun d=> .ok (.nx (env.set i (.shr d)))
def jA (i:Nat) {x:Str} (hN:X.N.Nodup) (h:DE X .s e f) (hi:X.N[i]?=some x:=by rfl) (hx:Loc X.env.scope x:=by first|exact acg rfl|exact abA rfl) (hs:acq e (some (.Name x pos')) pos.line X.env=pure false:=by rfl)
   (hf:T7 X x:=by first|exact .inl rfl|exact .inr rfl|assumption):DS X (.Assign [.Name x pos'] e pos) (jC i f):=by
 with_unfolding_all exact (
  PS.imp (kz hN hi hx h hs hf) fun E σ H=>by
   rintro ⟨G,H0,env,o,k,ef,q⟩;obtain ⟨d,e1,e2⟩:=jd ef;cases e2
   exact ⟨G,H0,env,d,k,e1,fun v H' s r _=>q _ H' ((k.grow s).setS r) (.set s fun _ _ z _=>by cases z)⟩)
end
def Its (x:Str):It:=⟨fun i _=>i<x.cps.size,fun i H v H'=>H'=H/\ ∃c,x.cps[i]?=some c/\v= .str ⟨#[c]⟩,fun i _=>x.cps.size<=i⟩
def VW {K:aab} (it:Addr) (x:Str) (t:Tok):Turn P w K tg (Its x) [it] it (fun i h=>h.IsStrIter it "str_ascii_iterator" x t i) where
 mem:=by simp
 obj:=fun i h st b hb=>by
  have e:b=it:=by simpa using hb
  subst e;obtain ⟨o,e,c,d⟩:=st;exact ⟨o,e,fun v z=>by rw [d] at z;cases z⟩
 keep:=fun i h h' st k=>let ⟨o,ho,r⟩:=st;⟨o,k it (by simp) o ho,r⟩
 item:=by
  intro X hP hw hK hc i pins s σ H E I hf st hg;subst hP hw hK;have hi:i<x.cps.size:=hg;obtain ⟨f0,f1,f2,f3,f4,f5⟩:=hf it (by simp);refine wpAny_pyNext_ascii_item st (c:=x.cps[i]) (by simp [hi]) fun h' st' sb=>?_
  have I1:Inv X pins σ H {s with heap:=h',toks:=s.toks+1}:=I.turned (fun b o hb e=>(sb.2 b hb).trans e) f0 f1 f3 f4 f5;obtain ⟨o,e,c,d⟩:=id st';exact ⟨_,rfl,ud e c d (by decide) ⟨.str ⟨#[x.cps[i]]⟩,H,I1,⟨_,rfl⟩,⟨rfl,_,by simp [hi],rfl⟩,st',fun b hb=>(hf b hb).1⟩⟩
 done:=by
  intro X hP hw hK hc i pins s σ H E I hf st hg;subst hP hw hK;have hi:=hg;obtain ⟨f0,f1,f2,f3,f4,f5⟩:=hf it (by simp);exact wpAny_pyNext_ascii_end (I.ok.hd hc) st (by simp;exact hi) fun h' eb=>⟨rfl,I.turned (fun b o hb e=>eb b o hb e) f0 f1 f3 f4 f5⟩
 self:=fun _ _ _ _ _ st h=>wpAny_pyIter_striter_ascii st h
def UP {K:aab} (it:Addr) (x:Str) (t:Tok):Turn P w K tg (Its x) [it] it (fun i h=>h.IsStrIter it "str_iterator" x t i) where
 mem:=by simp
 obj:=fun i h st b hb=>by
  have e:b=it:=by simpa using hb
  subst e;obtain ⟨o,e,c,d⟩:=st;exact ⟨o,e,fun v z=>by rw [d] at z;cases z⟩
 keep:=fun i h h' st k=>let ⟨o,ho,r⟩:=st;⟨o,k it (by simp) o ho,r⟩
 item:=by
  intro X hP hw hK hc i pins s σ H E I hf st hg;subst hP hw hK;have hi:i<x.cps.size:=hg;obtain ⟨f0,f1,f2,f3,f4,f5⟩:=hf it (by simp);refine wpAny_pyNext_wide_item st (c:=x.cps[i]) (by simp [hi]) fun h' st' sb=>?_
  have I1:Inv X pins σ H {s with heap:=h',toks:=s.toks+1}:=I.turned (fun b o hb e=>(sb.2 b hb).trans e) f0 f1 f3 f4 f5;obtain ⟨o,e,c,d⟩:=id st';exact ⟨_,rfl,ud e c d (by decide) ⟨.str ⟨#[x.cps[i]]⟩,H,I1,⟨_,rfl⟩,⟨rfl,_,by simp [hi],rfl⟩,st',fun b hb=>(hf b hb).1⟩⟩
 done:=by
  intro X hP hw hK hc i pins s σ H E I hf st hg;subst hP hw hK;have hi:=hg;obtain ⟨f0,f1,f2,f3,f4,f5⟩:=hf it (by simp);exact wpAny_pyNext_wide_end (I.ok.hd hc) st (by simp;exact hi) fun h' eb=>⟨rfl,I.turned (fun b o hb e=>eb b o hb e) f0 f1 f3 f4 f5⟩
 self:=fun _ _ _ _ _ st h=>wpAny_pyIter_striter_wide st h
def Walk (J:It) (xs:List V) (P:Hp->Prop):Prop:= ∀i H,P H->(i<xs.length->J.go i H)/\(i<xs.length-> ∀x H',J.yld i H x H'->H'=H/\xs[i]?=some x)/\(xs.length<=i->J.stop i H)
def Yd (K:aab) (A:Ue) (H1 H H':Hp) (x:V) (d:D):Prop:=
 (H'=H/\Rep K A H1 x d)\/ ∃p vs es,H p=none/\x= .ref p/\H'=L2.upd H p (.tup vs)/\d= .tup es/\Reps K A H1 vs es
def jeP (K:aab) (A:Ue) (H1:Hp) (J:It) (ds:List D) (P:Hp->Prop):Prop:= ∀i H,P H->(i<ds.length->J.go i H)/\(∀d,ds[i]?=some d-> ∀x H',J.yld i H x H'->Yd K A H1 H H' x d)/\(ds.length<=i->J.stop i H)
def Walk.toD {K:aab} {A:Ue} {J:It} {xs:List V} {ds:List D} {P:Hp->Prop} (rs:Reps K A H1 xs ds) (w:Walk J xs P):jeP K A H1 J ds P:=fun i H p=>by
 have hl:=rs.length;obtain ⟨w1,w2,w3⟩:=w i H p;refine ⟨fun h=>w1 (by omega),fun d hd x H' y=>?_,fun h=>w3 (by omega)⟩;have hi:=(aav.mp hd).1;obtain ⟨e,hx⟩:=w2 (by omega) x H' y;obtain ⟨d',hd',r⟩:=rs.get' hx;rw [hd] at hd';cases hd';exact .inl ⟨e,r⟩
def tI (K:aab) (f:TF):TI:=fun σ H R=> ∃G H0 env ds,EnvOk K G H0 env σ H/\f env= .ok ds/\
 ∀J H1 P,Same H H1->jeP K (Sf G env σ) H1 J ds P->P H1->(∀env' σ' H',Frm env σ H1 env' σ' H'->P H')->R J H1
@[irreducible] def DI (X:Cx) (tg e:Expr) (f:TF):Prop:=PI X tg e (tI X.K f)
def ZZ (z:Str):List D:=z.cps.toList.map fun c=> .str ⟨#[c]⟩
def jbf:D->Res (List D)
 | .lst ds=> .ok ds
 | .scr ds=> .ok ds
 | .tup ds=> .ok ds
 | .str z=> .ok (ZZ z)
 |_=> .stuck
def Ub (z:Str):List V:=z.cps.toList.map fun c=> .str ⟨#[c]⟩
def UZ {K:aab} {A:Ue} (z:Str):Reps K A H (Ub z) (ZZ z):=by
 unfold Ub ZZ;generalize z.cps.toList=l
 induction l with
 |nil=>exact .nil
 |cons c r ih=>exact .cons (.str _ (jdz c)) ih
section
variable {X:Cx} {tg e:Expr} {f:TK} {l:Lv}
def itF (f:TK):Sl->Res (List D):=fun env=>f env>>=jbf
def qW (h:DE X .s e f):DI X tg e (itF f):=by
 with_unfolding_all exact (by
  rintro pins s σ H R I ⟨G,H0,env,ds,k,ef,q⟩;obtain ⟨d,e1,e2⟩:=jd ef;refine thn (h pins s σ H (fun v H1=>Same H H1/\Rep X.K (Sf G env σ) H1 v d) I ⟨G,H0,env,d,k,e1,fun v H' s r _=>⟨s,r⟩⟩) fun v s1 ⟨x,H1,I1,r1,sm,rep⟩=>?_
  have k1:=k.grow sm
  cases d with
  |lst ds'=>
   cases e2;obtain ⟨a,xs,rfl,ha,na,rs⟩:=rep.lstE;cases r1;obtain ⟨its,rv,p,hz⟩:=I1.list (.of ha);refine abU p.isList ?_;refine ⟨s1.heap.objs.size,[s1.heap.objs.size],_,_,H1,rfl,I1.kept fun b o e=>aac _ e,W9 a _,⟨_,aao _ rfl,rfl,rfl⟩,fun b hb=>?_,?_⟩
   · have e:b=s1.heap.objs.size:=by simpa using hb
     subst e;exact I1.fpOk (aag _) (I1.hok.fresh (aag _))
   · refine q _ H1 (fun H=>H a=some (.lst xs)) sm (Walk.toD rs.low fun i H' p=>?_) ha (fun env' σ' H' fr=>fr.keep a _ ha na.1);exact ⟨fun hi=>⟨xs,xs[i],.of p,by simp [hi]⟩,fun _ x H' y=>⟨y.1,y.2 xs (.of p)⟩,fun hi=>⟨xs,.of p,hi⟩⟩
  |scr ds'=>
   cases e2;obtain ⟨a,xs,rfl,ha,rs⟩:=rep.scrE;cases r1;obtain ⟨its,rv,p,hz⟩:=I1.list ha.sql;refine abU p.isList ?_;refine ⟨s1.heap.objs.size,[s1.heap.objs.size],_,_,H1,rfl,I1.kept fun b o e=>aac _ e,W9 a _,⟨_,aao _ rfl,rfl,rfl⟩,fun b hb=>?_,?_⟩
   · have e:b=s1.heap.objs.size:=by simpa using hb
     subst e;exact I1.fpOk (aag _) (I1.hok.fresh (aag _))
   · refine q _ H1 (fun H=>LsK X.K H a xs) sm (Walk.toD rs fun i H' p=>?_) ha (fun env' σ' H' fr=>?_)
     · exact ⟨fun hi=>⟨xs,xs[i],p.sql,by simp [hi]⟩,fun _ x H' y=>⟨y.1,y.2 xs p.sql⟩,fun hi=>⟨xs,p.sql,hi⟩⟩
     · rcases ha with ⟨o,eo⟩|z
       · exact .inl ⟨o,fr.keep a _ eo fun ow=>(k1.mutO ow eo).elim⟩
       · exact .inr z
  |tup ds'=>
   cases e2;obtain ⟨a,xs,rfl,ha,rs⟩:=rep.tupE;cases r1;obtain ⟨its,rv,p,hz⟩:=I1.tuple (.of ha);refine wpAny_pyIter_tuple (show s1.heap.IsTuple a its.toArray from p) ?_;refine ⟨s1.heap.objs.size,[s1.heap.objs.size],_,_,H1,rfl,I1.kept fun b o e=>aac _ e,VT a _,⟨_,aao _ rfl,rfl,rfl⟩,fun b hb=>?_,?_⟩
   · have e:b=s1.heap.objs.size:=by simpa using hb
     subst e;exact I1.fpOk (aag _) (I1.hok.fresh (aag _))
   · refine q _ H1 (fun H=>H a=some (.tup xs)) sm (Walk.toD rs fun i H' p=>?_) ha (fun env' σ' H' fr=>fr.keep a _ ha fun ow=>(k1.mutO ow ha).elim);exact ⟨fun hi=>⟨xs,xs[i],.of p,by simp [hi]⟩,fun _ x H' y=>⟨y.1,y.2 xs (.of p)⟩,fun hi=>⟨xs,.of p,hi⟩⟩
  |str z=>
   cases e2;obtain ⟨rfl,hz⟩:=rep.strE;obtain ⟨t,rfl⟩:=r1
   have fin: ∀(J:It),J=Its z-> ∃(xs:List V) (P:Hp->Prop),Reps X.K (Sf G env σ) H1 xs (ZZ z)/\Walk J xs P/\P H1/\ ∀env' σ' H',Frm env σ H1 env' σ' H'->P H':=by
     rintro J rfl;refine ⟨Ub z,fun _=>True,UZ z,fun i H' _=>?_,trivial,fun _ _ _ _=>trivial⟩;have hl:(Ub z).length=z.cps.size:=by simp [Ub]
     refine ⟨fun hi=>by rw [hl] at hi;exact hi,fun hi x H2 y=>?_,fun hi=>by rw [hl] at hi;exact hi⟩;obtain ⟨y1,c,y2,y3⟩:=y;refine ⟨y1,?_⟩;subst y3;simp [Ub,y2]
   obtain ⟨xs,P,h1,h2,h3,h4⟩:=fin (Its z) rfl
   cases hall:z.cps.all (· <128) with
   |true=>
     refine wpAny_pyIter_ascii hall ?_;refine ⟨s1.heap.objs.size,[s1.heap.objs.size],_,_,H1,rfl,I1.kept fun b o e=>aac _ e,VW _ z t,⟨_,aao _ rfl,rfl,rfl⟩,fun b hb=>?_,q _ H1 P sm (Walk.toD h1 h2) h3 h4⟩;have e:b=s1.heap.objs.size:=by simpa using hb
     subst e;exact I1.fpOk (aag _) (I1.hok.fresh (aag _))
   |false=>
     refine wpAny_pyIter_wide hall ?_;refine ⟨s1.heap.objs.size,[s1.heap.objs.size],_,_,H1,rfl,I1.kept fun b o e=>aac _ e,UP _ z t,⟨_,aao _ rfl,rfl,rfl⟩,fun b hb=>?_,q _ H1 P sm (Walk.toD h1 h2) h3 h4⟩;have e:b=s1.heap.objs.size:=by simpa using hb
     subst e;exact I1.fpOk (aag _) (I1.hok.fresh (aag _))
  |_=>cases e2)
def q0 (lo:Int) (n:Nat):List D:=(aa5 n).map fun (i:Nat)=> .int (lo+(i:Int))
def Uy (lo:Int) (n:Nat):List V:=(aa5 n).map fun (i:Nat)=> .int (lo+(i:Int))
def vJ {K:aab} {A:Ue} (lo:Int) (n:Nat):Reps K A H (Uy lo n) (q0 lo n):=by
 unfold Uy q0;generalize aa5 n=l
 induction l with
 |nil=>exact .nil
 |cons c r ih=>exact .cons (.int _) ih
def VR (lo:Int) (n:Nat):Walk (Itr lo n) (Uy lo n) (fun _=>True):=fun i H _=>by
 have hl:(Uy lo n).length=n:=by simp [Uy]
 refine ⟨fun hi=>by rw [hl] at hi;exact hi,fun hi x H2 y=>?_,fun hi=>by rw [hl] at hi;exact hi⟩;obtain ⟨y1,y2⟩:=y;refine ⟨y1,?_⟩;subst y2;rw [hl] at hi;simp [Uy,hi]
def rng1:List D->Res (List D)
 | [.int j]=>must (-(2^62)<=j/\j<2^62) (.ok (q0 0 j.toNat))
 |_=> .stuck
def Reps.one {K:aab} {A:Ue} {d:D} (r:Reps K A H vs [d]): ∃v,vs=[v]/\Rep K A H v d:=by
 cases r with
 |cons h t=>cases t;exact ⟨_,rfl,h⟩
def Reps.two {K:aab} {A:Ue} {d d':D} (r:Reps K A H vs [d,d']): ∃v v',vs=[v,v']/\Rep K A H v d/\Rep K A H v' d':=by
 cases r with
 |cons h t=>
  obtain ⟨v',rfl,h'⟩:=t.one;exact ⟨_,_,rfl,h,h'⟩
def PI.imp {t t':TI} (h:PI X tg e t) (w: ∀σ H Q,t' σ H Q->t σ H Q):PI X tg e t':=fun pins s σ H Q I q=>h pins s σ H Q I (w σ H Q q)
def rngF (fa:TF):Sl->Res (List D):=fun env=>fa env>>=rng1
def qv {a:Expr} {p:Pos} {fa:TF} (hg:Gl X "range") (hm:X.mg "range" =none) (ha:DA X l [a] fa) (hs:aai [a] X.env=[(false,eval a X.env)]:=by rfl):DI X tg (.Call (.Name "range" p) [a] [] pos) (rngF fa):=by
 with_unfolding_all exact (
  PI.imp (kH hg hm ha hs) fun σ H R=>by
   rintro ⟨G,H0,env,ds,k,ef,q⟩;obtain ⟨as,e1,e2⟩:=jd ef;refine ⟨G,H0,env,as,k,e1,fun vs H1 s1 r1=>?_⟩;unfold rng1 at e2
   split at e2
   · obtain ⟨⟨h1,h2⟩,e3⟩:=jq e2;cases e3;obtain ⟨v,rfl,r⟩:=r1.one;cases r.intE;exact ⟨_,rfl,h1,h2,q _ H1 _ s1 (Walk.toD (vJ 0 _) (VR 0 _)) trivial fun _ _ _ _=>trivial⟩
   · cases e2)
def tG (K:aab) (t:TC):TG:=fun v σ H Q=> ∃G H0 env d env',EnvOk K G H0 env σ H/\Rep K (Sf G env σ) H v d/\t d env= .ok env'/\ ∀σ',EnvOk K G H0 env' σ' H->Frm env σ H env' σ' H->Q σ' H
@[irreducible] def DG (X:Cx) (tg:Expr) (t:TC):Prop:=PG X tg (tG X.K t)
theorem PG.imp {t t':TG} (h:PG X tg t) (w: ∀v σ H Q,t' v σ H Q->t v σ H Q):PG X tg t':=fun pins s σ H v u Q I r q=>h pins s σ H v u Q I r (w v σ H Q q)
def gN (i:Nat):D->Sl->Res Sl:=fun d env=> .ok (env.set i (.shr d))
def jn (i:Nat) {x:Str} {pos:Pos} (hN:X.N.Nodup) (hi:X.N[i]?=some x:=by rfl) (hx:Loc X.env.scope x:=by first|exact acg rfl|exact abA rfl)
   (hf:T7 X x:=by first|exact .inl rfl|exact .inr rfl|assumption):DG X (.Name x pos) (gN i):=by
 with_unfolding_all exact (
  PG.imp (jdl hN hi hx hf) fun v σ H Q=>by
   rintro ⟨G,H0,env,d,env',k,r,e,q⟩;cases e
   exact q _ (k.setS r) (.set (Same.refl H) fun _ _ z _=>by cases z))
def g2 (t u:TC):D->Sl->Res Sl:=fun d env=>match d with
 | .tup [x,y]=>t x env>>=fun env'=>u y env'
 |_=> .stuck
def zy {a b:Expr} {k:Nat} {pos:Pos} {t u:TC} (hc:X.calm=true) (h1:DG X a t) (h2:DG X b u)
   (hs:(acb [a,b] X.env).map (·.2)=assign a X.env::(acb [b] X.env).map (·.2):=by rfl) (hs2:(acb [b] X.env).map (·.2)=assign b X.env::(acb [] X.env).map (·.2):=by rfl)
   (hn:(acb [a,b] X.env).length=2:=by rfl) (hst:(acb [a,b] X.env).findIdx? (·.1)=none:=by rfl):DG X (.Tuple [a,b] k pos) (g2 t u):=by
 with_unfolding_all exact (
  PG.imp (jfu hc (KM h1 (KM h2 jdk hs2) hs) hn hst) fun v σ H Q=>by
   rintro ⟨G,H0,env,d,env',k,r,e,q⟩;unfold g2 at e
   split at e
   · obtain ⟨env1,e1,e2⟩:=jd e;obtain ⟨a,xs,rfl,ha,rs⟩:=r.tupE;obtain ⟨v1,v2,rfl,r1,r2⟩:=rs.two;refine ⟨a,_,rfl,.of ha,rfl,v1,[v2],rfl,G,H0,env,_,env1,k,r1,e1,fun σ1 k1 f1=>⟨v2,[],rfl,G,H0,env1,_,env',k1,f1.rep k r2,e2,fun σ2 k2 f2=>⟨rfl,q σ2 k2 (f1.trans f2)⟩⟩⟩
   · cases e)
def asgO (f:TK) (t:TC):Sl->Res Out:=fun env=>f env>>=fun d=>t d env>>=fun env'=> .ok (.nx env')
def yM {t:TC} (he:DE X .s e f) (hg:DG X tg t) (hs:swapsWithSole [tg] e pos.line X.env=pure false:=by rfl) (hw:swappedStores [tg] e X.env=pure none:=by rfl)
   (h1:(acb [tg] X.env).map (·.2)=[assign tg X.env]:=by rfl):DS X (.Assign [tg] e pos) (asgO f t):=by
 with_unfolding_all exact (
  PS.imp (jcf he hg hs hw h1) fun E σ H=>by
   rintro ⟨G,H0,env,o,k,ef,q⟩;obtain ⟨d,e1,e2⟩:=jd ef;obtain ⟨env',e3,e4⟩:=jd e2;cases e4
   exact ⟨G,H0,env,d,k,e1,fun v H' s r _=>⟨G,H0,env,d,env',k.grow s,r,e3,fun σ' k' f'=>q σ' H' k' (f'.grow s)⟩⟩)
def forD (body:D->Sl->Res Out):List D->Sl->Res Out
 | [],env=> .ok (.nx env)
 |d::ds,env=>body d env>>=fun o=>match o with
  | .nx env'=>forD body ds env'
  | .ct env'=>forD body ds env'
  | .bk env'=> .ok (.nx env')
  | .rt fr d=> .ok (.rt fr d)
def qo (t:TC) (g:TH):D->Sl->Res Out:=fun d env=>t d env>>=g
def forO (f:TF) (t:TC) (g:TH):Sl->Res Out:=fun env=>f env>>=fun ds=>forD (qo t g) ds env
def q9 {pos:Pos} {fi:TF} {t:TC} {g:TH} (hp:PassesOwn (model X.prog X.w) X.A X.env X.xe) (hc:X.calm=true) (hi:DI X tg e fi) (hg:DG X tg t) (hb:DSs X body g)
   (hs: ∀x,acd e X.env x=pure x:=by intro _;rfl):DS X (.For tg e body [] pos) (forO fi t g):=by
 with_unfolding_all exact (
  PS.imp (jce hp hc hi hg hb hs) fun E σ H=>by
   rintro ⟨G,H0,env,o,k,ef,q⟩;obtain ⟨ds,e1,e2⟩:=jd ef;refine ⟨G,H0,env,ds,k,e1,fun J H1 P sm wk p0 pst=>?_⟩;have k1:=k.grow sm;have q1:=we (Frm.refl sm) q;refine ⟨fun i m σ' H'=>m=ds.length-i/\i<=ds.length/\ ∃env',EnvOk X.K G H0 env' σ' H'/\Frm env σ H1 env' σ' H'/\forD (qo t g) (ds.drop i) env'= .ok o,⟨ds.length,by simp,abe _,env,k1,Frm.refl (Same.refl H1),by simpa using e2⟩,?_⟩;rintro i m σ' H' ⟨rfl,hi,env',k',f',e'⟩;obtain ⟨w1,w2,w3⟩:=wk i H' (pst env' σ' H' f')
   by_cases hd:i<ds.length
   · refine .inr ⟨w1 hd,?_⟩;rw [abX hd] at e';obtain ⟨o1,e3,e4⟩:=jd e';obtain ⟨env1,e5,e6⟩:=jd e3;refine ⟨fun σ2 H2=>ds.length-(i+1)=ds.length-(i+1)/\i+1<=ds.length/\ ∃env2,EnvOk X.K G H0 env2 σ2 H2/\Frm env σ H1 env2 σ2 H2/\forD (qo t g) (ds.drop (i+1)) env2= .ok o,fun σ2 H2 z=>⟨ds.length-(i+1),by omega,z⟩,fun x H2 y=>?_⟩
     obtain ⟨sm2,rd⟩:Same H' H2/\Rep X.K (Sf G env' σ') H2 x ds[i]:=by
      rcases w2 _ (aad hd) x H2 y with ⟨rfl,rd⟩| ⟨p,vs,es,hp,rfl,rfl,ed,rds⟩
      · exact ⟨Same.refl _,f'.rep k1 rd⟩
      · refine ⟨Same.upd hp,?_⟩;rw [ed];exact .tup ju ((f'.reps k1 rds).grow (Same.upd hp))
     refine ⟨G,H0,env',ds[i],env1,k'.grow sm2,rd,e5,fun σ1 kk1 ff1=>⟨G,H0,env1,o1,kk1,e6,?_⟩⟩;have fr1:=(f'.trans (Frm.refl sm2)).trans ff1
     cases o1 with
     |nx env2=>exact fun σ2 H3 kk2 ff2=>⟨rfl,hd,env2,kk2,fr1.trans ff2,e4⟩
     |ct env2=>exact fun σ2 H3 kk2 ff2=>⟨rfl,hd,env2,kk2,fr1.trans ff2,e4⟩
     |bk env2=>cases e4;exact fun σ2 H3 kk2 ff2=>q1 σ2 H3 kk2 (fr1.trans ff2)
     |rt fr dd=>cases e4;exact q1
   · have he:i=ds.length:=by omega
     refine .inl ⟨w3 (by omega),?_⟩;rw [adD (by omega)] at e';cases e'
     exact q1 σ' H' k' f')
end
def frz (i:Nat) (env:Sl):Sl:=match env[i]? with
 |some (.own d)=>env.set i (.shr d)
 |_=>env
def Xl {env:Sl} (h:j4 (frz i env) σ a):j4 env σ a:=by
 unfold frz at h
 split at h
 · rename_i d hd;obtain ⟨j,e,h1,h2⟩:=h
   by_cases z:i=j
   · subst z;obtain ⟨q,_⟩:=jv h1;cases q
   · rw [jr z] at h1;exact ⟨j,e,h1,h2⟩
 · exact h
def EnvOk.frz {K : aab} {G : Addr -> Prop} {H0 H : Hp} {env : Sl} {σ : L2.St} (i : Nat) (k : EnvOk K G H0 env σ H) : EnvOk K G H0 (frz i env) σ H := by
  have w : ∀ a, Sf G env σ a -> Sf G (M.frz i env) σ a := fun a n => ⟨fun o => n.1 (Xl o), n.2⟩
  cases hi : env[i]? with
  | none => have e : M.frz i env = env := by unfold M.frz; rw [hi]
            rw [e]; exact k
  | some s =>
    cases s with
    | un => have e : M.frz i env = env := by unfold M.frz; rw [hi]
            rw [e]; exact k
    | shr d => have e : M.frz i env = env := by unfold M.frz; rw [hi]
               rw [e]; exact k
    | own d =>
      have e : M.frz i env = env.set i (.shr d) := by unfold M.frz; rw [hi]
      obtain ⟨a, h1, h0, h2⟩ := k.own i d hi
      have na : NotO (M.frz i env) σ a := by
        rintro ⟨j, d', q1, q2⟩
        rw [e] at q1
        by_cases z : i = j
        · subst z
          obtain ⟨q, _⟩ := jv q1
          cases q
        · rw [jr z] at q1
          exact z (k.dis i j d d' a hi q1 h1 q2)
      rw [e] at w na ⊢
      refine ⟨by simp [k.len], k.base, k.g0, fun j d' h => ?_, fun j d' h => ?_, fun j j' d1 d2 b q1 q2 q3 q4 => ?_⟩
      · by_cases z : i = j
        · subst z
          obtain ⟨q, hl⟩ := jv h
          cases q
          exact ⟨_, h1, h2.rep (fun c z => ⟨w c z, Xm k hi h1 c z⟩) ⟨na, k.g0 a h0⟩⟩
        · rw [jr z] at h
          obtain ⟨v', g1, g2⟩ := k.shr j d' h
          exact ⟨v', g1, g2.weak w⟩
      · by_cases z : i = j
        · subst z
          obtain ⟨q, hl⟩ := jv h
          cases q
        · rw [jr z] at h
          obtain ⟨v', g1, g0, g2⟩ := k.own j d' h
          exact ⟨v', g1, g0, g2.stay (fun _ _ e _ => e) w fun _ e => e⟩
      · have n1 : i ≠ j := fun z => by subst z; obtain ⟨q, _⟩ := jv q1; cases q
        have n2 : i ≠ j' := fun z => by subst z; obtain ⟨q, _⟩ := jv q2; cases q
        rw [jr n1] at q1
        rw [jr n2] at q2
        exact k.dis j j' d1 d2 b q1 q2 q3 q4
def frzO (i:Nat) (g:TH):Sl->Res Out:=fun env=>g (frz i env)
def Vt (i:Nat) {st:Stmt} {g:TH} (h:DS X st g):DS X st (frzO i g):=by
 with_unfolding_all exact (PS.imp h fun E σ H=>by
  rintro ⟨G,H0,env,o,k,ef,q⟩;refine ⟨G,H0,frz i env,o,k.frz i,ef,?_⟩;have f:Frm env σ H (frz i env) σ H:=⟨fun _ _ e _=>e,fun b o=> .inl (Xl o),fun _ e=>e⟩
  exact we f q)
end M
variable {g g1:M.TH} {env env':M.Sl} {d d0:M.D} {ds ds' ts dfs ds0:List M.D} {l2 l1:M.Lv} {fa fi:M.TF} {f2 fk fo fe f1:M.TK} {tt:M.TC} {L x5:M.Slot}
namespace PySem.AutoSeq1
open PySem Builtin
def list_extend_tupleG (l:Addr) (items:Array Value) (n:Nat) (b:Addr) (items2:Array Value) (n2:Nat) (dd:Option Addr) (sl:Array (Option Value)) (hs0: ¬(!items.isEmpty&&ab2 (items.size+items2.size))=true) (hs1:items.size<=aak) (hs2:items.size+items2.size<=aak+1):
  Meets (acF.«list.extend» ⟨[.ref l,.ref b],[]⟩) (fun _ R s=>s.heap.get? l=some {cls:= .type "list",dict:=none,data:= .seq items n,slots:= #[]}/\s.heap.get? b=some {cls:= .type "tuple",dict:=dd,data:= .seq items2 n2,slots:=sl}/\R (.ok (.ret abN)) {s with heap:=s.heap.update l (acN fun x=>x++items2),toks:=s.toks}):=
 .of_wp fun prog w A R s h=>by
  obtain ⟨hp,g,d,tk,os⟩:=s;obtain ⟨hl,hb,h⟩:=h;have f1:=idx_int;have f2:=sub_tuple_tuple;have f3:=sub_list_list;have f4:=sub_tuple_list;have f5:=sub_list_tuple;
  have hz':(items++items2).size<=aak+1:=by rw [Array.size_append];exact hs2
  wp_walk using (wpAny_updateSeq hl rfl),aeg hl,aeg hb;exact ⟨_,rfl,h⟩
end PySem.AutoSeq1
namespace M
open PySem PySem.Spec L2
open PyProof.Rows hiding St
theorem imms_iff: ∀ {ds:List D},D.imms ds=true↔ ∀d∈ds,d.imm=true
 | []=>by simp [D.imms]
 |d::ds=>by simp [D.imms,imms_iff]
section
variable {X:Cx}
def jaI:V->List V->Hp->VK->Prop:=fun x vs H Q=> ∃l b xs zs,x= .ref l/\vs=[.ref b]/\H l=some (.lst xs)/\H b=some (.tup zs)/\xs.length+zs.length<=aak/\Q .non (upd H l (.lst (xs++zs)))
def Uo:MtM X "list.extend" jaI:=by
 intro pins s σ H x vs v us Q I rx rv h;obtain ⟨l,b,xs,zs,rfl,rfl,hH,hB,hz,q⟩:=h;cases rx;obtain ⟨u,rfl,ru⟩:=rv.one;cases ru;obtain ⟨z,its,n,r,hl,e⟩:=I.lstM hH;obtain ⟨its2,r2,⟨ob,e2,hc,n2,hd⟩,z2⟩:=I.tuple (.of hB);have hl2:=r2.length;obtain ⟨c2,dd2,dt2,sl2⟩:=ob;have hc':=hc;have hd':=hd;subst hc' hd';have hsz:its.toArray.size+its2.toArray.size<=aak:=by rw [aah,aah];omega
 have hlong: ¬(!its.toArray.isEmpty&&ab2 (its.toArray.size+its2.toArray.size))=true:=by
  rw [KS hsz,Bool.and_false];exact aaN
 refine adK ad1 ⟨_,e,rfl⟩ F.entry_list_extend (F.args_list_extend_2 _ _)
  (AutoSeq1.list_extend_tupleG l its.toArray n b its2.toArray n2 dd2 sl2 hlong (by rw [aah];omega) (by omega)) ⟨e,e2,?_⟩
 refine ⟨.non,_,I.lset hH e (by simp) (r.append r2) ?_,rfl,q⟩;rw [aaC];omega
def J0 {d':D} (hi:env[i]?=some (.own d)):j4 (env.set i (.own d')) σ a↔j4 env σ a:=by
 have hl:=(aav.mp hi).1
 constructor
 · rintro ⟨j,e,h1,h2⟩
   by_cases z:i=j
   · subst z;exact ⟨i,d,hi,h2⟩
   · rw [jr z] at h1;exact ⟨j,e,h1,h2⟩
 · rintro ⟨j,e,h1,h2⟩
   by_cases z:i=j
   · subst z;exact ⟨i,d',abp hl,h2⟩
   · exact ⟨j,e,by rw [jr z];exact h1,h2⟩
def EnvOk.writeG {K:aab} {G:Ue} {d':D} {o0 o':HO} (k:EnvOk K G H0 env σ H) (hi:env[i]?=some (.own d0)) (ha:σ[i]?=some (some (.ref a))) (hx:H a=some o0) (hm:Mut (some o0))
   (top: ∀(A':Ue) (H':Hp),Stay (Sf G env σ) H H'->H' a=some o'->(∀b,Sf G env σ b->A' b)->Top K A' H' a d'):EnvOk K G H0 (env.set i (.own d')) σ (upd H a o')/\Frm env σ H (env.set i (.own d')) σ (upd H a o'):=by
 have hl:=(aav.mp hi).1;have ow:j4 env σ a:=⟨i,_,hi,ha⟩
 have st:Stay (Sf G env σ) H (upd H a o'):=fun c o e m=>by
   rw [jL ?_]
   · exact e
   · rintro rfl;rw [hx] at e;cases e;exact (m hm).1 ow
 have w: ∀c,Sf G env σ c->Sf G (env.set i (.own d')) σ c:=fun c n=>⟨fun o=>n.1 ((J0 hi).mp o),n.2⟩
 refine ⟨⟨by simp [k.len],fun c o e=>?_,k.g0,fun j d1 h=>?_,fun j d1 h=>?_,fun j j' d1 d2 b q1 q2 q3 q4=>?_⟩,⟨fun c o e n=>?_,fun c o=> .inl ((J0 hi).mp o),fun c e=>?_⟩⟩
 · have hc:c≠a:=by
     rintro rfl;obtain ⟨b,h1,h0,_⟩:=k.own i _ hi;rw [ha] at h1;cases h1;rw [h0] at e;cases e
   rw [jL hc];exact k.base c o e
 · by_cases z:i=j
   · subst z;obtain ⟨q,_⟩:=jv h;cases q
   · rw [jr z] at h;obtain ⟨v,h1,h2⟩:=k.shr j d1 h;exact ⟨v,h1,h2.stay st w⟩
 · by_cases z:i=j
   · subst z;obtain ⟨q,_⟩:=jv h;cases q;obtain ⟨b,h1,h0,_⟩:=k.own i _ hi;rw [ha] at h1;cases h1;exact ⟨a,ha,h0,top _ _ st ju w⟩
   · rw [jr z] at h;obtain ⟨b,h1,h0,h2⟩:=k.own j d1 h
     have hb:b≠a:=by
       rintro rfl;exact z (k.dis i j _ _ b hi h ha h1)
     exact ⟨b,h1,h0,h2.stay st w fun o e=>by rw [jL hb];exact e⟩
 · have real: ∀(j:Nat) (d1:D),(env.set i (.own d'))[j]?=some (.own d1)-> ∃d0:D,env[j]?=some (.own d0):=fun j d1 q=>by
     by_cases z:i=j
     · subst z;exact ⟨_,hi⟩
     · rw [jr z] at q;exact ⟨_,q⟩
   obtain ⟨e1,z1⟩:=real j d1 q1;obtain ⟨e2,z2⟩:=real j' d2 q2;exact k.dis j j' e1 e2 b z1 z2 q3 q4
 · have hc:c≠a:=by
     rintro rfl;exact n ow
   rw [jL hc];exact e
 · by_cases hc:c=a
   · subst hc;rw [ju] at e;cases e
   · rw [jL hc] at e;exact e
def EnvOk.write {K:aab} {G:Ue} {ds':List D} {xs xs':List V} (k:EnvOk K G H0 env σ H) (hi:env[i]?=some (.own (.lst ds))) (ha:σ[i]?=some (some (.ref a))) (hx:H a=some (.lst xs))
  (r:Reps K (Sf G env σ) H xs' ds'):EnvOk K G H0 (env.set i (.own (.lst ds'))) σ (upd H a (.lst xs'))/\Frm env σ H (env.set i (.own (.lst ds'))) σ (upd H a (.lst xs')):=
 k.writeG hi ha hx trivial fun A' H' st e w=> .lst e (r.stay st w)
def Js {K:aab} {G:Ue} (k:EnvOk K G H0 env σ H) (hi:env[i]?=some (.own (.lst ds))): ∃a xs,σ[i]?=some (some (.ref a))/\H a=some (.lst xs)/\Reps K (Sf G env σ) H xs ds:=by
 obtain ⟨a,h1,h0,h2⟩:=k.own i _ hi
 cases h2 with
 |lst e r=>exact ⟨a,_,h1,e,r⟩
variable {e:Expr} {f:TK} {l:Lv} {pos cpos apos p:Pos} {x:Str}
def ownL (i:Nat) (env:Sl):Res (List D):=match env[i]? with
 |some (.own (.lst ds))=> .ok ds
 |_=> .stuck
def Jt (h:ownL i env= .ok ds):env[i]?=some (.own (.lst ds)):=by
 unfold ownL at h
 split at h
 · cases h;assumption
 · cases h
def qx (i:Nat) (f:TK):Sl->Res Out:=fun env=>ownL i env>>=fun ds=>f env>>=fun d=>must (ds.length<aak) (.ok (.nx (env.set i (.own (.lst (ds++[d]))))))
def zW (i:Nat) (he:DE X .s e f) (hN:X.N[i]?=some x:=by rfl) (hv:Vis X.env.scope x:=by first|exact acg rfl|exact abA (acg rfl)|exact abA (abA rfl))
   (hd:Z0 x:=by decide) (hcd:Zh x:=by decide)
   (hbase:ab7 (.Name x p) "append" X.env (eval (.Name x p) X.env)=eval (.Name x p) X.env:=by rfl)
   (hfew:((abo cpos (aai [e] X.env)).all (fun x=>!x.1)&&(acs cpos (abt [] X.env)).all (fun x=>x.1.isSome)
    &&decide ([e].length+([]:List acS).length+(if ([]:List acS).isEmpty then 0 else 1)<30))=true:=by exact JF rfl rfl)
   (hline:(apos.endLine==cpos.line)=true:=by rfl) (hs:aai [e] X.env=(false,eval e X.env)::aai [] X.env:=by exact jk rfl) (hplain:(abo cpos (aai [] X.env)).any (·.1)=false:=by exact jz rfl)
   (hsw:acq (.Call (.Attribute (.Name x p) "append" apos) [e] [] cpos) none pos.line X.env=pure false:=by rfl):
   DS X (.Expr (.Call (.Attribute (.Name x p) "append" apos) [e] [] cpos) pos) (qx i f):=by
 with_unfolding_all exact (
  PS.imp (YE (jaU PySem.F.plainAttrs_list PySem.F.slot_list_append PySem.F.type_list_append Xt (xu hN hv hd hcd) (qg he wJ hs) hbase hfew hline hs hplain) hsw) fun E σ H=>by
   rintro ⟨G,H0,env,o,k,ef,q⟩;obtain ⟨ds,e1,e2⟩:=jd ef;obtain ⟨d,e3,e4⟩:=jd e2;obtain ⟨hz,e5⟩:=jq e4;cases e5;have hi:=Jt e1;obtain ⟨a,xs,ha,hx,rs⟩:=Js k hi;refine ⟨.ref a,ha,.inl ⟨rfl,xs,.of hx⟩,G,H0,env,d,k,e3,fun v H1 s1 r1 _=>?_⟩;have hx1:=s1 _ _ hx;refine ⟨a,xs,v,rfl,rfl,hx1,by rw [rs.length];exact hz,?_⟩;have W:=(k.grow s1).write hi ha hx1 ((rs.grow s1).append (.cons r1 .nil))
   exact q σ _ W.1 (W.2.grow s1))
def Q4 (i:Nat) (f:TK):Sl->Res Out:=fun env=>ownL i env>>=fun ds=>f env>>=fun d=>match d with
 | .lst es=>must (ds.length+es.length<=aak) (.ok (.nx (env.set i (.own (.lst (ds++es))))))
 | .tup es=>must (ds.length+es.length<=aak) (.ok (.nx (env.set i (.own (.lst (ds++es))))))
 |_=> .stuck
def uD (i:Nat) (he:DE X .s e f) (hN:X.N[i]?=some x:=by rfl) (hv:Vis X.env.scope x:=by first|exact acg rfl|exact abA (acg rfl)|exact abA (abA rfl))
   (hd:Z0 x:=by decide) (hcd:Zh x:=by decide)
   (hbase:ab7 (.Name x p) "extend" X.env (eval (.Name x p) X.env)=eval (.Name x p) X.env:=by rfl)
   (hfew:((abo cpos (aai [e] X.env)).all (fun x=>!x.1)&&(acs cpos (abt [] X.env)).all (fun x=>x.1.isSome)
    &&decide ([e].length+([]:List acS).length+(if ([]:List acS).isEmpty then 0 else 1)<30))=true:=by exact JF rfl rfl)
   (hline:(apos.endLine==cpos.line)=true:=by rfl) (hs:aai [e] X.env=(false,eval e X.env)::aai [] X.env:=by exact jk rfl) (hplain:(abo cpos (aai [] X.env)).any (·.1)=false:=by exact jz rfl)
   (hsw:acq (.Call (.Attribute (.Name x p) "extend" apos) [e] [] cpos) none pos.line X.env=pure false:=by rfl):
   DS X (.Expr (.Call (.Attribute (.Name x p) "extend" apos) [e] [] cpos) pos) (Q4 i f):=by
 with_unfolding_all exact (
  PS.imp (YE (jaU PySem.F.plainAttrs_list ad1 PySem.F.type_list_extend (MtR.or vf Uo) (xu hN hv hd hcd) (qg he wJ hs) hbase hfew hline hs hplain) hsw) fun E σ H=>by
   rintro ⟨G,H0,env,o,k,ef,q⟩;obtain ⟨ds,e1,e2⟩:=jd ef;obtain ⟨d,e3,e4⟩:=jd e2;have hi:=Jt e1;obtain ⟨a,xs,ha,hx,rs⟩:=Js k hi;refine ⟨.ref a,ha,.inl ⟨rfl,xs,.of hx⟩,G,H0,env,d,k,e3,fun v H1 s1 r1 _=>?_⟩;have hx1:=s1 _ _ hx
   cases d with
   |lst es=>
    obtain ⟨hz,e5⟩:=jq e4;cases e5;obtain ⟨b,ys,rfl,hb,_,ry⟩:=r1.lstE;have ry':=ry.low;refine .inl ⟨a,b,xs,ys,rfl,rfl,hx1,hb,by rw [rs.length,ry.length];exact hz,?_⟩;have W:=(k.grow s1).write hi ha hx1 ((rs.grow s1).append ry');exact q σ _ W.1 (W.2.grow s1)
   |tup es=>
    obtain ⟨hz,e5⟩:=jq e4;cases e5;obtain ⟨b,ys,rfl,hb,ry⟩:=r1.tupE;have ry':=ry;refine .inr ⟨a,b,xs,ys,rfl,rfl,hx1,hb,by rw [rs.length,ry.length];exact hz,?_⟩;have W:=(k.grow s1).write hi ha hx1 ((rs.grow s1).append ry');exact q σ _ W.1 (W.2.grow s1)
   |_=>cases e4)
end
def X1 {prog:aay} {w:World} {A:aaV} {R:Result->aaf->Prop} {s:aaf} {elt target iter:Expr} {ifs:List Expr} {scope:Scope} {pos:Pos} {it acc:Value} {env:Env} (I:Nat->aaf->Prop)
  (turn: ∀n s,I n s->wpAny (model prog w) A (pyNext it) (fun r s₁=>match r with
   |none=>R (.ok .next) s₁
   |some v=>wpAny (model prog w) A (aec target it v) (fun _ s₁'=>wpAny (model prog w) A (assign target env v) (fun _ s₂=>
    wpAny (model prog w) A (forIn ifs true fun c r=>if r=true then do let ok←isTrue c env (eval c env);pure (aeh ok) else pure (aeh r)) (fun ok s₃=>
     if ok=true then wpAny (model prog w) A (eval elt env) (fun x s₄=>
      wpAny (model prog w) A (call (.builtin "list.append") [acc,x]) (fun _ s₅=> ∃m,m<n/\I m s₅) (fun _ _=>False) s₄) (fun _ _=>False) s₃
     else∃m,m<n/\I m s₃) (fun _ _=>False) s₂) (fun _ _=>False) s₁') (fun _ _=>False) s₁) (fun _ _=>False) s)
  (n:Nat) (h:I n s):adX (model prog w) A (.compLoop (.ListComp elt [⟨target,iter,ifs,0⟩] scope pos) 0 it acc env) R s:=by
 refine codeAny_loop rfl I (fun n s hI=>?_) n h;refine wpAny_noted ?_;rw [compTurn_list];refine aaa (wpAny_standAt (aaa (acn (turn n s hI) (fun r s₁ h₁=>?_) fun _ _ h'=>h'.elim)))
 cases r with
 |none=>exact aae h₁
 |some v=>
  refine aaa (acn h₁ (fun _ s₁' h₁'=>?_) fun _ _ h'=>h'.elim);refine aaa (acn h₁' (fun _ s₂ h₂=>aaa (acn h₂ (fun ok s₃ h₃=>?_) fun _ _ h'=>h'.elim)) fun _ _ h'=>h'.elim)
  cases ok with
  |false=>exact aae ⟨rfl,h₃⟩
  |true=>
   exact aaa (aaa (acn h₃ (fun x s₄ h₄=>aaa (acn h₄ (fun _ s₅ h₅=>aae (aae ⟨rfl,h₅⟩)) fun _ _ h'=>h'.elim)) fun _ _ h'=>h'.elim))
def uO (X:Cx) (N:List Str) (scope:Scope) (cl:List (Str×Addr)) (C:Addr) (s:aaf) (H:Hp) (fp:List Addr):Cx where
 prog:=X.prog
 w:=X.w
 K:=X.K
 mg:=X.mg
 base:=X.base
 A:=X.A
 N:=N
 s₀:=s
 H₀:=H
 env:=compEnvC scope cl C X.env
 outer:=X.stack
 stack:=X.stack
 ex:=fp
 fn:=fun _=>false
 calm:=true
 pn:=[]
 xe:=fun _ _=>False
@[irreducible] def DTs (X:Cx) (ifs:List Expr) (c:TJ):Prop:=
 ∀(pins:List (Addr×Obj)) (s:aaf) (σ:L2.St) (H:Hp) (Q:Bool->Hp->Prop),Inv X pins σ H s->tT X.K c σ H Q->
  wpAny (model X.prog X.w) X.A (forIn ifs true fun c r=>if r=true then do let ok←isTrue c X.env (eval c X.env);pure (aeh ok) else pure (aeh r)) (TP X pins σ Q) X.xe s
def qp:Sl->Res Bool:=fun _=> .ok true
def zB:DTs X [] qp:=by
 with_unfolding_all exact (fun pins s σ H Q I ⟨G,H0,env,b,k,ef,q⟩=>by
  cases ef
  exact wpAny_tests_nil ⟨H,I,q H (Same.refl H)⟩)
def wD (n:Nat) (t:TC) (c:TJ) (fe:TK):List D->Sl->Res Sl
 | [],env=> .ok env
 |d::ds,env=>t d env>>=fun env1=>c env1>>=fun b=>if b=true
  then fe env1>>=fun v=>ownL n env1>>=fun acc=>must (acc.length<aak) (wD n t c fe ds (env1.set n (.own (.lst (acc++[v])))))
  else wD n t c fe ds env1
def capS (im:Bool) (env:Sl) (j:Nat):Slot:=match env[j]? with
 |some (.shr d)=> .shr d
 |some (.own d)=>if im=true then .shr d else .un
 |_=> .un
def wV (im:Bool) (m:Nat) (js:List Nat) (env:Sl):Sl:=aaP m .un++js.map (capS im env)++[.own (.lst [])]
def qQ (im:Bool) (m:Nat) (js:List Nat) (fi:TF) (t:TC) (c:TJ) (fe:TK):Sl->Res D:=fun env=>
 fi env>>=fun ds=>wD (m+js.length) t c fe ds (wV im m js env)>>=fun env'=>ownL (m+js.length) env'>>=fun acc=>must (im=true->D.imms acc=true) (.ok (.lst acc))
def wU (m:Nat) (js:List Nat) (σ:L2.St) (a:Addr):L2.St:=aaP m none++js.map (fun j=>(σ[j]?).join)++[some (.ref a)]
theorem zQ {env:Env}: ∀ {names:List (Str×NameKind)} {x:Str} {k:NameKind},
  (names.map fun (n,k)=>if (k==acY&&env.scope.kind== .function&&env.kindOf n==some .cell) then (n,acZ) else (n,k)).lookup x=some k-> ∃k',(x,k')∈names/\(k=k'\/k'= .free)
 | [],_,_,h=>by simp at h
 | (n,k')::r,x,k,h=>by
  have h':aa6 x ((if (k'==acY&&env.scope.kind== .function&&env.kindOf n==some .cell)=true then (n,acZ) else (n,k'))::(r.map fun (n,k)=>if (k==acY&&env.scope.kind== .function&&env.kindOf n==some .cell) then (n,acZ) else (n,k)))=some k:=h
  by_cases hc:(k'==acY&&env.scope.kind== .function&&env.kindOf n==some .cell)=true
  · rw [if_pos hc] at h';simp only [abx] at h'
    cases hx:x==n with
    |true=>
     rw [hx] at h';have e:x=n:=by simpa using hx
     subst e;refine ⟨k',aap,.inr ?_⟩;simp at hc;exact hc.1.1
    |false=>
     rw [hx] at h';obtain ⟨k2,h1,h2⟩:=zQ h';exact ⟨k2,aal _ h1,h2⟩
  · rw [if_neg hc] at h';simp only [abx] at h'
    cases hx:x==n with
    |true=>
     rw [hx] at h';have e:x=n:=by simpa using hx
     subst e;cases h';exact ⟨_,aap,.inl rfl⟩
    |false=>
     rw [hx] at h';obtain ⟨k2,h1,h2⟩:=zQ h';exact ⟨k2,aal _ h1,h2⟩
def clZ (z:Option Str) (cl:List (Str×Addr)) (C:Addr):List (Str×Addr):=match z with
 |none=>cl
 |some y=>(y,C+1)::cl
def jdc (z:Option Str) (h:Heap):Heap:=match z with
 |none=>h
 |some _=>h.push {cls:= .type "cell",data:= .cell none}
abbrev j6 (z:Option Str) (X:Cx) (N:List Str) (scope:Scope) (cl:List (Str×Addr)) (C:Addr) (s:aaf) (H:Hp) (fp:List Addr):Cx:={uO X N scope (clZ z cl C) C s H fp with fn:=fun x=>some x==z}
def lk1 {z:Option Str} {x:Str} {c:Addr} (h:aa6 x (clZ z cl C)=some c):(z=some x/\c=C+1)\/(z≠some x/\cl.lookup x=some c):=by
 cases z with
 |none=>exact .inr ⟨nofun,h⟩
 |some z=>
  have h:aa6 x ((z,C+1)::cl)=some c:=h;rw [abx] at h
  cases e:x==z with
  |true=>rw [e] at h;cases h;exact .inl ⟨by rw [show x=z by simpa using e],rfl⟩
  |false=>rw [e] at h;exact .inr ⟨fun q=>by simp at e;exact e (aaH q).symm,h⟩
def lk2 {z:Option Str} {x:Str} {c:Addr} (hn:z≠some x) (h:cl.lookup x=some c):aa6 x (clZ z cl C)=some c:=by
 cases z with
 |none=>exact h
 |some z=>
  show aa6 x ((z,C+1)::cl)=some c;rw [abx,show (x==z)=false by simpa using fun q=>hn (by rw [q])];exact h
def Um {M:Model} {A:aaV} {E:Ud} {s:aaf} {scope:Scope} {globals:Addr} {cl:List (Str×Addr)} {qual:Str} {func:Option Addr} {code:Value} {around:Env} {builtins:Addr} {z:Option Str} {Q:Env->aaf->Prop}
  (made: ∀n,cellsFrom (n+1) scope.names cl=clZ z cl n) (pushed: ∀h,pushCells h scope.names=jdc z h)
  (hQ: ∀h',h'.Ns s.heap.objs.size (fun _=>none)->(∀b o,s.heap.get? b=some o->h'.get? b=some o)->(∀y,z=some y->h'.IsCell (s.heap.objs.size+1) none)->Q (newEnv scope s.heap.objs.size globals (clZ z cl s.heap.objs.size) qual func code (some around) builtins) {s with heap:=h'}):
  wpAny M A (newFunctionEnv scope globals cl [] qual func code (some around) builtins) Q E s:=by
 simp only [newFunctionEnv,Option.isSome_some,if_true];refine aaa (wpAny_alloc ?_);refine aaa (wpAny_layCells _ (fun name kind cells=>by cases hkc:kind==acZ<;>simp [hkc]) _ _ _ _ ?_);have hz:(s.heap.push {cls:= .type "dict",data:= .dict #[]}).objs.size=s.heap.objs.size+1:=abW ..;have hc:=made s.heap.objs.size;rw [←hz] at hc;rw [hc,pushed];simp;refine aae ?_;have ns:=Heap.Ns.new s.heap (.type "dict")
 cases z with
 |none=>exact hQ _ ns (fun b o e=>aac _ e) nofun
 |some z=>
  refine hQ ((s.heap.push {cls:= .type "dict",data:= .dict #[]}).push {cls:= .type "cell",data:= .cell none}) (ns.keeps fun b o e=>aac _ e) (fun b o e=>aac _ (aac _ e)) fun _ _=>⟨_,by rw [←hz];exact aao _ rfl,rfl⟩
structure CompSc (z:Option Str) (X:Cx) (scope:Scope) (cl:List (Str×Addr)) (N:List Str) (m:Nat) (js:List Nat):Prop where
 clos:closureFor scope X.env=pure cl
 kind:scope.kind= .function
 names: ∀x∈scope.names,x.2= .local->scope.names.lookup x.1=some .local
 nocell: ∀y∈scope.names,y.2= .cell->z=some y.1
 made: ∀n,cellsFrom (n+1) scope.names cl=clZ z cl n
 pushed: ∀h,pushCells h scope.names=jdc z h
 zk: ∀y,z=some y->scope.names.lookup y=some .cell
 cls: ∀x c,cl.lookup x=some c->X.env.cells.lookup x=some c
 free: ∀y∈scope.names,y.2= .free-> ∃c,cl.lookup y.1=some c
 nd:N.Nodup
 len:N.length=m+js.length+1
 cap: ∀(k j:Nat),js[k]?=some j-> ∃y,N[m+k]?=some y/\X.N[j]?=some y/\(X.env.scope.names.lookup y=some .cell\/X.env.scope.names.lookup y=some .free)/\scope.names.lookup y=some .free
 last: ∀y,N[m+js.length]?=some y-> ∀p∈scope.names,p.1≠y
section
variable {X:Cx} {tg iter elt:Expr} {ifs:List Expr} {scope:Scope} {cl:List (Str×Addr)} {N:List Str} {m:Nat} {js:List Nat} {pos:Pos} {im:Bool} {z:Option Str}
 {fi:TF} {t:TC} {c:TJ} {fe:TK}
def jey {s:aaf} (S:CompSc z X scope cl N m js) (hc:X.calm=true) (I:Inv X pins σ H s) (hC:s.heap.objs.size<=C) (hf: ∀b∈fp,FpOk X pins H b) (hfp: ∀b∈fp,b<s.heap.objs.size):
  (j6 z X N scope cl C s H fp).Ok where
 mod:=I.ok.mod
 kind:=S.kind
 glob:=I.ok.glob
 blt:=I.ok.blt
 above:=hC
 inj:=fun x y c h1 h2=>by
  have no: ∀u,X.env.cells.lookup u=some (C+1)->False:=fun u e=>by
    obtain ⟨v,o,ho,_⟩:=I.cell u _ e;exact absurd (aar ho) (Nat.not_lt_of_le (aaw hC (aee _)))
  rcases lk1 h1 with ⟨ex,ec⟩| ⟨_,g1⟩
  · rcases lk1 h2 with ⟨ey,_⟩| ⟨_,g2⟩
    · rw [ex] at ey;exact aaH ey
    · rw [ec] at g2;exact (no _ (S.cls _ _ g2)).elim
  · rcases lk1 h2 with ⟨ey,ec⟩| ⟨_,g2⟩
    · rw [ec] at g1;exact (no _ (S.cls _ _ g1)).elim
    · exact I.ok.inj x y c (S.cls x c g1) (S.cls y c g2)
 has:=fun x h=>by
  have mem:z=some x\/ ∃k',(x,k')∈scope.names/\k'= .free:=by
    rcases h with h|h<;>obtain ⟨k',h1,h2⟩:=zQ h
    · rcases h2 with z|z
      · exact .inl (S.nocell _ h1 z.symm)
      · exact .inr ⟨k',h1,z⟩
    · rcases h2 with z|z
      · exact .inr ⟨k',h1,z.symm⟩
      · exact .inr ⟨k',h1,z⟩
  by_cases hxz:z=some x
  · subst hxz;exact ⟨C+1,by show aa6 x ((x,C+1)::cl)=_;simp [abx]⟩
  · obtain ⟨k',h1,h2⟩:=mem.resolve_left hxz;obtain ⟨c,hc⟩:=S.free _ h1 h2;exact ⟨c,lk2 hxz hc⟩
 cab:=fun x c h h2=>by
  have e:some x=z:=by simpa using h
  rcases lk1 h2 with ⟨_,rfl⟩| ⟨n,_⟩
  · exact aaw hC (aee _)
  · exact (n e.symm).elim
 hd:=fun _=>I.ok.hd hc
 frames:=I.ok.frames
 stk:= .inl rfl
 exf:=fun b hb=>⟨fun z=>absurd (aas (hfp b hb) (by rw [z];exact hC)) (abq _),fun x c h=>by
  rcases lk1 h with ⟨_,rfl⟩| ⟨_,h⟩
  · exact fun e=>absurd (hfp b hb) (Nat.not_lt_of_le (by rw [←e];exact aaw hC (aee _)))
  · exact (hf b hb).2.2.2.2.1 x c (S.cls x c h)⟩
 bs:=I.bs
 bsz:=aaw I.ok.bsz I.sz
 noex:=fun b o e hb=>by
  rcases (hf b hb).2.2.2.1 with z|z
  · exact I.ok.noex b o e z
  · exact absurd (aas (aar e) (aaw I.ok.bsz z)) (abq _)
 exfs:=fun b hb z=>by
  rcases aaG.mp (I.stkSub b z) with q|q
  · exact (hf b hb).2.1 q
  · exact (hf b hb).2.2.1 q
 funs:=I.stack
 frf:=I.stkFree
def uX (h:capS im env j= .own d):False:=by
 unfold capS at h
 split at h
 · cases h
 · split at h<;>cases h
 · cases h
def UD {b:Addr} (h:j4 (wV im m js env) (wU m js σ a) b):b=a:=by
 obtain ⟨i,d,h,h2⟩:=h
 have hi:i=m+js.length:=by
  unfold wV at h
  by_cases h1:i<m
  · rw [aaY,aaz (by simpa using h1),abk] at h
    split at h<;>cases h
  · rw [aaY,aaq (by simpa using h1)] at h;simp at h
    by_cases h2:i-m<js.length
    · rw [aaz (by simpa using h2),aaE] at h
      cases e:js[i-m]? with
      |none=>rw [e] at h;cases h
      |some j=>
        rw [e] at h;have h':=aaH h;exact (uX h').elim
    · rw [aaq (by simpa using h2)] at h;simp at h
      by_cases h3:i-m-js.length=0
      · omega
      · rw [abu (by simp;omega)] at h;cases h
 subst hi
 have at_n:(wU m js σ a)[m+js.length]?=some (some (.ref a)):=by
  unfold wU;rw [aaY,aaq (by simp),aaq (by simp)];simp
 rw [at_n] at h2;cases h2;rfl
abbrev Gc (im:Bool) (G:Ue) (env:Sl) (σ:L2.St):Addr->Prop:=fun c=>G c/\(im=false-> ¬j4 env σ c)
def jbu {K:aab} {G:Ue} (k:EnvOk K G H0 env σ H) (ha:H a=none):
   EnvOk K (Gc im G env σ) H (wV im m js env) (wU m js σ a) (upd H a (.lst [])):=by
 have own1: ∀(i:Nat) (d:D),(wV im m js env)[i]?=some (.own d)->i=m+js.length/\d= .lst []:=fun i d h=>by
   unfold wV at h
   by_cases h1:i<m
   · rw [aaY,aaz (by simpa using h1),abk] at h
     split at h<;>cases h
   · rw [aaY,aaq (by simpa using h1)] at h;simp at h
     by_cases h2:i-m<js.length
     · rw [aaz (by simpa using h2),aaE] at h
       cases e:js[i-m]? with
       |none=>rw [e] at h;cases h
       |some j=>
         rw [e] at h;have h':=aaH h;exact (uX h').elim
     · rw [aaq (by simpa using h2)] at h;simp at h
       by_cases h3:i-m-js.length=0
       · rw [h3] at h;cases h;exact ⟨by omega,rfl⟩
       · rw [abu (by simp;omega)] at h;cases h
 have at_n:(wU m js σ a)[m+js.length]?=some (some (.ref a)):=by
   unfold wU;rw [aaY,aaq (by simp),aaq (by simp)];simp
 have owned: ∀b,j4 (wV im m js env) (wU m js σ a) b->b=a:=fun b ⟨i,d,h1,h2⟩=>by
   obtain ⟨rfl,rfl⟩:=own1 i d h1;rw [at_n] at h2;cases h2;rfl
 have sm:Same H (upd H a (.lst [])):=Same.upd ha;refine ⟨by simp [wV,wU],sm,fun c z=>⟨(k.new c z).2,fun _=>(k.new c z).1⟩,fun i d h=>?_,fun i d h=>?_,fun i j d e b h1 h2 h3 h4=>(own1 i d h1).1.trans (own1 j e h2).1.symm⟩
 · unfold wV at h
   by_cases h1:i<m
   · rw [aaY,aaz (by simpa using h1),abk] at h
     split at h<;>cases h
   · rw [aaY,aaq (by simpa using h1)] at h;simp at h
     by_cases h2:i-m<js.length
     · rw [aaz (by simpa using h2),aaE] at h
       cases e:js[i-m]? with
       |none=>rw [e] at h;cases h
       |some j=>
         rw [e] at h;have h':=aaH h
         have hσ:(wU m js σ a)[i]?=some ((σ[j]?).join):=by
           unfold wU;rw [aaY,aaq (by simpa using h1)];simp;rw [aaz (by simpa using h2),aaE,e];rfl
         have fin: ∀v,σ[j]?=some (some v)->Rep K (Gc im G env σ) H v d-> ∃v,(wU m js σ a)[i]?=some (some v)/\Rep K (Sf (Gc im G env σ) (wV im m js env) (wU m js σ a)) (upd H a (.lst [])) v d:=fun v e1 r=>by
           refine ⟨v,by rw [hσ,e1];rfl,(r.inDom.grow sm).weak fun b z=>⟨fun o=>?_,z.1⟩⟩;rw [owned b o] at z;exact z.2 ha
         unfold capS at h'
         split at h'
         · rename_i d' hd;cases h';obtain ⟨v,h3,h4⟩:=k.shr j d hd;exact fin v h3 (h4.weak fun c z=>⟨z.2,fun _=>z.1⟩)
         · rename_i d' hd
           split at h'
           · rename_i hi';cases h';obtain ⟨v,h3,h0,h4⟩:=k.own j d hd;exact fin _ h3 (h4.rep (fun c z=>⟨⟨z.2,fun _=>z.1⟩,Xm k hd h3 c z⟩) ⟨k.g0 _ h0,fun z=>by rw [hi'] at z;cases z⟩)
           · cases h'
         · cases h'
     · rw [aaq (by simpa using h2)] at h;simp at h
       by_cases h3:i-m-js.length=0
       · rw [h3] at h;cases h
       · rw [abu (by simp;omega)] at h;cases h
 · obtain ⟨rfl,rfl⟩:=own1 i d h;exact ⟨a,at_n,ha,.lst ju .nil⟩
def X0 (use:Option (Value->Sem Unit)) (Q':Ud) (im:Bool) (N:List Str) (m:Nat) (js:List Nat) (S:CompSc z X scope cl N m js) (hc:X.calm=true) (hi:PI X tg iter (tI X.K fi))
   (hb: ∀(C:Addr) (s:aaf) (H:Hp) (fp:List Addr),PG (j6 z X N scope cl C s H fp) tg (tG X.K t)/\DTs (j6 z X N scope cl C s H fp) ifs c/\PE (j6 z X N scope cl C s H fp) elt (tE X.K .s fe))
   (hs: ∀x,acd iter X.env x=pure x) {pins:List (Addr×Obj)} {s:aaf} {σ:L2.St} {H:Hp} {G:Ue} {H0:Hp} {env:Sl} {d:D} (I:Inv X pins σ H s) (k:EnvOk X.K G H0 env σ H) (ef:qQ im m js fi t c fe env= .ok d)
   (hend: ∀(a C:Addr) (s':aaf) (H':Hp) (mm:Yx) (r:Flow),s'.heap.Ns C mm->(∀h',ab8 C s'.heap h'->Inv X pins σ H' {s' with heap:=h'})->FpOk X pins H' C->Same H H'->Rep X.K (Sf G env σ) H' (.ref a) d->NewTop H (.ref a)->compPost (model X.prog X.w) X.A X.xe use Q' (.ref a) C (.ok r) s'):
   wpAny (model X.prog X.w) X.A (comprehension (.ListComp elt [⟨tg,iter,ifs,0⟩] scope pos) scope X.env (firstIterPos [⟨tg,iter,ifs,0⟩] pos) (newList []) (firstAsync [⟨tg,iter,ifs,0⟩]) (firstIter [⟨tg,iter,ifs,0⟩] X.env) use) Q' X.xe s:=by
 with_unfolding_all exact (by
  obtain ⟨ds,e1,ef⟩:=jd ef;obtain ⟨envF,e2,ef⟩:=jd ef;obtain ⟨accF,e3,e4⟩:=jd ef;obtain ⟨himF,e4⟩:=jq e4;cases e4;refine wpAny_comprehension_free rfl hs S.clos S.kind S.names ?_;refine thn (hi pins s σ H (fun J H1=> ∃P,Same H H1/\jeP X.K (Sf G env σ) H1 J ds P/\P H1/\ ∀env' σ' H',Frm env σ H1 env' σ' H'->P H') I ⟨G,H0,env,ds,k,e1,fun J H1 P a b c' d'=>⟨P,a,b,c',d'⟩⟩) fun v s1 h1=>thn h1 fun itv s2 h2=>?_
  obtain ⟨it,fp,tn,J,H2,rfl,I2,T,st2,f2,P,sm,wk,p0,pst⟩:=h2;have k2:=k.grow sm;refine aa8 (Um S.made S.pushed (fun h₁ hns₁ hkp₁ hcl₁=>?_));dsimp only at hns₁ hkp₁ hcl₁ ⊢;have hfr:=I2.hok.fresh (aag _)
  let a:=s2.heap.objs.size
  have ha:=hfr;have I3:=I2.lnew (t':=s2.toks) .nil (abe _)
  let s3:aaf:={s2 with heap:=s2.heap.push {cls:= .type "list",dict:=none,data:= .seq ([]:List Value).toArray}}
  let C:=s3.heap.objs.size
  have f3: ∀b∈fp,FpOk X pins (upd H2 a (.lst [])) b:=fun b hb'=>by
   obtain ⟨z0,z⟩:=f2 b hb';refine ⟨?_,z⟩
   have hb2:b≠a:=by
     obtain ⟨o,ho,_⟩:=T.obj 0 _ st2 b hb';exact aaF (aar ho)
   rw [jL hb2];exact z0
  have hfp: ∀b∈fp,b<s3.heap.objs.size:=fun b hb'=>by
   obtain ⟨o,ho,_⟩:=T.obj 0 _ st2 b hb';refine aas (aar ho) ?_;rw [abW];exact aee _
  have XO:=jey S hc I3 (aag _) f3 hfp;obtain ⟨DGt,DTc,DEe⟩:=hb C s3 (upd H2 a (.lst [])) fp;have old: ∀b o,s3.heap.get? b=some o->h₁.get? b=some o:=fun b o e=>hkp₁ b o e
  have I4:Inv (j6 z X N scope cl C s3 (upd H2 a (.lst [])) fp) [] (wU m js σ a) (upd H2 a (.lst [])) {s2 with heap:=h₁,toks:=s2.toks+([]:List (Str×Value)).length}:=by
   refine ⟨XO,rfl,I3.bare,Un.kept old,⟨_,hns₁,fun i y v' h1 h2 h3=>?_⟩,fun y c' h=>?_,I3.hok.fresh (aag _),fun y c' h=>(by
     rcases lk1 h with ⟨_,rfl⟩| ⟨_,h⟩
     · exact I3.hok.fresh (aee _)
     · exact I3.freeC y c' (S.cls y c' h)),fun p hp=>absurd hp (by simp [uO]),I3.hok.kept old,?_⟩
   · --a captured name
     have hN1:N[i]?=some y:=h1;unfold wU at h2
     by_cases q1:i<m
     · rw [aaY,aaz (by simpa using q1),abk] at h2
       split at h2<;>cases h2
     · rw [aaY,aaq (by simpa using q1)] at h2;simp at h2
       by_cases q2:i-m<js.length
       · rw [aaz (by simpa using q2),aaE] at h2
         cases e:js[i-m]? with
         |none=>rw [e] at h2;cases h2
         |some j=>
           rw [e] at h2;have h2':(σ[j]?).join=some v':=aaH h2
           have hj:σ[j]?=some (some v'):=by
             cases z:σ[j]? with
             |none=>rw [z] at h2';cases h2'
             |some w'=>rw [z] at h2';simp at h2';rw [h2']
           obtain ⟨y',g1,g2,g3,g4⟩:=S.cap (i-m) j e
           have ey:y'=y:=by
             rw [show m+(i-m)=i by omega,hN1] at g1;exact (aaH g1).symm
           subst ey;obtain ⟨mm,hn,hl⟩:=I3.loc
           have vis:Vis X.env.scope y':=by
             rcases g3 with z|z
             · exact .inr (.inl z)
             · exact .inr (.inr z)
           obtain ⟨u,ru,lk⟩:=hl j y' v' g2 hj vis;refine ⟨u,ru,.inr ⟨?_,?_⟩⟩
           · rcases h3 with z|z
             · exfalso;obtain ⟨k',m1,m2⟩:=zQ z;have lk2:=S.names _ m1;rcases m2 with w'|w'
               · subst w';have:=lk2 rfl;rw [g4] at this;cases this
               · subst w'
                 have: ∀ {names:List (Str×NameKind)},names.lookup y'=some .free->(names.map fun (n,k)=>if (k==acY&&X.env.scope.kind== .function&&X.env.kindOf n==some .cell) then (n,acZ) else (n,k)).lookup y'≠some .local:=by
                  intro names
                  induction names with
                  |nil=>intro h;cases h
                  |cons p r ih=>
                   obtain ⟨n,kk⟩:=p;intro h h';have h'':aa6 y' ((if (kk==acY&&X.env.scope.kind== .function&&X.env.kindOf n==some .cell)=true then (n,acZ) else (n,kk))::(r.map fun (n,k)=>if (k==acY&&X.env.scope.kind== .function&&X.env.kindOf n==some .cell) then (n,acZ) else (n,k)))=some .local:=h';simp only [abx] at h
                   cases hx:y'==n with
                   |true=>
                    rw [hx] at h;cases h
                    split at h''<;>simp [abx,hx] at h''
                   |false=>
                    rw [hx] at h
                    split at h''<;>(simp only [abx,hx] at h'';exact ih h h'')
                 exact this g4 z
             · exact z
           · rcases lk with ⟨kk,_⟩| ⟨kk,c',hc',cell'⟩
             · exfalso;have kk':X.env.scope.names.lookup y'=some .local:=kk;rcases g3 with z|z<;>(rw [z] at kk';cases kk')
             · obtain ⟨c2,hc2⟩:=S.free (y',.free) (abS g4) rfl
               have:c2=c':=by
                 have:=S.cls _ _ hc2;rw [hc'] at this;exact (aaH this).symm
               subst this;obtain ⟨o,ho,hd⟩:=cell';exact ⟨c2,lk2 (fun q=>by rw [S.zk _ q] at g4;cases g4) hc2,o,old _ _ ho,hd⟩
       · exfalso
         have hi':i=m+js.length:=by
           have hl:=(aav.mp hN1).1;rw [S.len] at hl;omega
         subst hi';have no:=S.last y hN1;rcases h3 with z|z|z<;>
         · obtain ⟨k',m1,_⟩:=zQ z;exact no _ m1 rfl
   · rcases lk1 h with ⟨q,rfl⟩| ⟨_,h⟩
     · exact ⟨none,hcl₁ _ q⟩
     · obtain ⟨v',o,ho,hd⟩:=I3.cell y c' (S.cls y c' h);exact ⟨v',o,old _ _ ho,hd⟩
   · show (wU m js σ a).length=N.length;rw [S.len];simp [wU];omega
  have kC:EnvOk X.K (Gc im G env σ) H2 (wV im m js env) (wU m js σ a) (upd H2 a (.lst [])):=jbu k2 ha
  have fC: ∀b∈fp,FpOk (j6 z X N scope cl C s3 (upd H2 a (.lst [])) fp) [] (upd H2 a (.lst [])) b:=fun b hb'=>by
   obtain ⟨z0,z1,z2,z3,z4,z5⟩:=f3 b hb';exact ⟨z0,(XO.exf b hb').1,XO.exfs b hb',.inl hb',(XO.exf b hb').2,fun p hp=>absurd hp (by simp [uO])⟩
  have stC:=T.keep 0 _ _ st2 fun b hb' o e=>old b o (aac _ e)
  have loop:adX (model X.prog X.w) X.A (.compLoop (.ListComp elt [⟨tg,iter,ifs,0⟩] scope pos) 0 (.ref it) (.ref a) (compEnvC scope (clZ z cl C) C X.env))
     (compPost (model X.prog X.w) X.A X.xe use Q' (.ref a) C) {s2 with heap:=h₁,toks:=s2.toks+([]:List (Str×Value)).length}:=by
   refine X1 (fun n s'=> ∃i σ' H' env',n=ds.length+1-i/\i<=ds.length/\Inv (j6 z X N scope cl C s3 (upd H2 a (.lst [])) fp) [] σ' H' s'/\tn i s'.heap/\(∀b∈fp,H' b=none)/\(∀b,j4 env' σ' b->b=a)/\
       EnvOk X.K (Gc im G env σ) H2 env' σ' H'/\Frm (wV im m js env) (wU m js σ a) (upd H2 a (.lst [])) env' σ' H'/\wD (m+js.length) t c fe (ds.drop i) env'= .ok envF) ?_ (ds.length+1)
     ⟨0,_,_,_,rfl,abe _,I4,stC,fun b hb'=>(fC b hb').1,?_,kC,Frm.refl (Same.refl _),by simpa using e2⟩
   · rintro n s' ⟨i,σ',H',env',rfl,hi',Ic,st,fr,hs',kc,fc,ec⟩;have hP:=pst env σ H' (Frm.refl kc.base);obtain ⟨w1,w2,w3⟩:=wk i H' hP;have fpk: ∀ {H':Hp},(∀b∈fp,H' b=none)-> ∀b∈fp,FpOk (j6 z X N scope cl C s3 (upd H2 a (.lst [])) fp) [] H' b:=fun hn b hb'=>⟨hn b hb',(fC b hb').2⟩
     by_cases hlt:i<ds.length
     · have hd:i<ds.length:=by omega
       rw [abX hd] at ec;obtain ⟨env1,e5,ec⟩:=jd ec;obtain ⟨b,e6,ec⟩:=jd ec;refine thn (T.item (j6 z X N scope cl C s3 (upd H2 a (.lst [])) fp) rfl rfl rfl rfl i [] s' σ' H' (fun _ _=>False) Ic (fpk fr) st (w1 hlt)) fun r s4 ⟨u,hr,h4⟩=>?_
       subst hr;refine thn h4 fun _ s5 ⟨x,H5,I5,r5,y5,st5,fr5⟩=>?_
       have wkA: ∀b,(Sf G env σ b/\H2 b≠none)->Sf (Gc im G env σ) env' σ' b:=fun b z=>⟨fun o=>(by
         rw [hs' b o] at z
         exact z.2 ha),z.1.2,fun _=>z.1.1⟩
       obtain ⟨sm5,rd'⟩:Same H' H5/\Rep X.K (Sf (Gc im G env σ) env' σ') H5 x ds[i]:=by
         rcases w2 _ (aad hd) x H5 y5 with ⟨rfl,rd⟩| ⟨p,vs,es,hp,rfl,rfl,ed,rds⟩
         · exact ⟨Same.refl _,(rd.inDom.grow kc.base).weak wkA⟩
         · refine ⟨Same.upd hp,?_⟩;rw [ed];exact .tup ju (((rds.inDom.grow kc.base).weak wkA).grow (Same.upd hp))
       have kc5:=kc.grow sm5;have I5':=I5.pinned (fpk fr5) (T.obj _ _ st5);refine thn (DGt _ s5 σ' H5 x u (fun σ1 Hn=>Hn=H5/\EnvOk X.K (Gc im G env σ) H2 env1 σ1 H5/\Frm env' σ' H5 env1 σ1 H5) I5' r5 ⟨_,H2,env',ds[i],env1,kc5,rd',e5,fun σ1 k1 f1=>⟨rfl,k1,f1⟩⟩) fun _ s6 ⟨σ6,H6,I6,z6,k6,ff6⟩=>?_
       subst z6
       have ow6: ∀b,j4 env1 σ6 b->b=a:=fun b o=>by
         rcases ff6.more b o with z|z
         · exact hs' b z
         · obtain ⟨uu,hu⟩:=k6.there o;rw [z] at hu;cases hu
       refine thn (DTc _ s6 σ6 H6 (fun b' Hn=>b'=b/\Same H6 Hn) I6 ⟨_,H2,env1,b,k6,e6,fun Hn sn=>⟨rfl,sn⟩⟩) fun ok s7 ⟨H7,I7,z7,sm7⟩=>?_
       subst z7;have k7:=k6.grow sm7;have fr7:=((fc.trans (Frm.refl sm5)).trans ff6).trans (Frm.refl sm7)
       have out: ∀ {s8:aaf} {σ8:L2.St} {H8:Hp} {env8:Sl},Inv (j6 z X N scope cl C s3 (upd H2 a (.lst [])) fp) ([]++Xj fp s5.heap) σ8 H8 s8->(∀b,j4 env8 σ8 b->b=a)->EnvOk X.K (Gc im G env σ) H2 env8 σ8 H8->
           Frm (wV im m js env) (wU m js σ a) (upd H2 a (.lst [])) env8 σ8 H8->wD (m+js.length) t c fe (ds.drop (i+1)) env8= .ok envF->
           ∃mm,mm<ds.length+1-i/\ ∃i σ' H' env',mm=ds.length+1-i/\i<=ds.length/\Inv (j6 z X N scope cl C s3 (upd H2 a (.lst [])) fp) [] σ' H' s8/\tn i s8.heap/\(∀b∈fp,H' b=none)/\(∀b,j4 env' σ' b->b=a)/\
             EnvOk X.K (Gc im G env σ) H2 env' σ' H'/\Frm (wV im m js env) (wU m js σ a) (upd H2 a (.lst [])) env' σ' H'/\wD (m+js.length) t c fe (ds.drop i) env'= .ok envF:=by
         intro s8 σ8 H8 env8 I8 ow8 k8 f8 e8;refine ⟨ds.length+1-(i+1),by omega,i+1,σ8,H8,env8,rfl,hlt,I8.unpinned,T.keep _ _ _ st5 fun b hb' o e=>(I8.pin (b,o) (aaU _ (aaU _ (yq hb' e)))).1,fun b hb'=>?_,ow8,k8,f8,e8⟩;obtain ⟨o,e,_⟩:=T.obj _ _ st5 b hb';exact (I8.pin (b,o) (aaU _ (aaU _ (yq hb' e)))).2.1
       cases ok with
       |false=>
         rw [if_neg aaN] at ec ⊢;exact out I7 ow6 k7 fr7 ec
       |true=>
         rw [if_pos rfl] at ec ⊢;obtain ⟨vd,e7,ec⟩:=jd ec;obtain ⟨acc,e8,ec⟩:=jd ec;obtain ⟨hz,ec⟩:=jq ec;refine thn (DEe _ s7 σ6 H7 (fun y Hn=>Same H7 Hn/\Rep X.K (Sf (Gc im G env σ) env1 σ6) Hn y vd) I7 ⟨_,H2,env1,vd,k7,e7,fun y Hn sn rn _=>⟨sn,rn⟩⟩) fun yv s8 ⟨y,H8,I8,ry,sm8,rep8⟩=>?_
         have k8:=k7.grow sm8;have hi8:=Jt e8;obtain ⟨a8,xs8,ha8,hx8,rs8⟩:=Js k8 hi8;have ea:=ow6 a8 ⟨_,_,hi8,ha8⟩;subst ea;have W:=k8.write hi8 ha8 hx8 (rs8.append (.cons rep8 .nil))
         refine thn (Xt _ s8 σ6 H8 (.ref a) [y] (.ref a) [yv] (fun _ Hn=>Hn=upd H8 a (.lst (xs8++[y]))) I8 rfl (.cons ry .nil)
           ⟨a,xs8,y,rfl,rfl,hx8,by rw [rs8.length];exact hz,rfl⟩) fun _ s9 ⟨_,H9,I9,_,z9⟩=>?_
         subst z9;exact out I9 (fun b o=>ow6 b ((J0 hi8).mp o)) W.1 ((fr7.trans (Frm.refl sm8)).trans W.2) ec
     · have he:i=ds.length:=by omega
       rw [adD (by omega)] at ec;cases ec;refine thn (T.done (j6 z X N scope cl C s3 (upd H2 a (.lst [])) fp) rfl rfl rfl rfl i [] s' σ' H' (fun _ _=>False) Ic (fpk fr) st (w3 (by omega))) fun r s4 ⟨hr,I5⟩=>?_
       subst hr;have hiF:=Jt e3;obtain ⟨aF,xsF,haF,hxF,rsF⟩:=Js kc hiF;have ea:=hs' aF ⟨_,_,hiF,haF⟩;subst ea;obtain ⟨mm,hn,_⟩:=I5.loc;refine hend a C s4 H' mm _ hn (fun h' hsb=>?_) (I3.fpOk (aag _) I5.free) (sm.trans kc.base) (.lst hxF (k.new a (Same.free sm ha)) ?_) (qh sm ha)
       rotate_left
       · cases him:im with
         |true=>exact rsF.imm (himF him)
         |false=>exact rsF.weak fun c z=>⟨⟨z.2.2 him,z.2.1⟩,Xm kc hiF haF c z⟩
       have nC: ∀b o,H' b=some o->b≠C:=fun b o e z=>by
         have:=I5.free;rw [z] at e;have e':H' C=none:=this;rw [e] at e';cases e'
       have B:=I5.base;have ltC: ∀b o,s3.heap.get? b=some o->b≠C:=fun b o e=>aaF (aar e)
       have U:Un (frs X.stack) fp (upd H2 a (.lst [])) H' s3.heap h':=⟨fun b o e n hb' hx'=>(hsb.2 b (ltC b o e)).trans (B.keep b o e n hb' hx'),
         fun b o e n hb' hx'=>let ⟨sl,z⟩:=B.slot b o e n hb' hx';⟨sl,(hsb.2 b (ltC b o e)).trans z⟩,B.free,
         fun b o e hx'=>let ⟨o',z⟩:=B.there b o e hx';⟨o',(hsb.2 b (ltC b o e)).trans z⟩,B.tups,B.frzs,B.tbls⟩
       refine Inv.call' I3 I5.os U (fun b o e=>(I5.hok b o e).stay (fun c' u hc' qq=>(hsb.2 c' ?_).trans qq) (fun _ z=>z) fun _ _ z=>z) I5.bare (fun b hb'=>?_)
       · rcases hc' with z|z
         · rw [z];exact nC b o e
         · exact nC c' _ z
       · obtain ⟨z0,z1,z2,z3,z4,z5⟩:=f3 b hb';exact ⟨z3,z1,z4,z5⟩
   · exact fun b o=>UD o
  exact codeAny_compStart_list loop (T.self _ 0 _ _ _ stC loop))
def zX (im:Bool) (N:List Str) (m:Nat) (js:List Nat) (S:CompSc z X scope cl N m js) (hc:X.calm=true) (hi:DI X tg iter fi)
   (hb: ∀(C:Addr) (s:aaf) (H:Hp) (fp:List Addr),N.Nodup->DG (j6 z X N scope cl C s H fp) tg t/\DTs (j6 z X N scope cl C s H fp) ifs c/\DE (j6 z X N scope cl C s H fp) .s elt fe)
   (hs: ∀x,acd iter X.env x=pure x:=by intro _;rfl):
   DE X .t (.ListComp elt [⟨tg,iter,ifs,0⟩] scope pos) (qQ im m js fi t c fe):=by
 with_unfolding_all exact (by
  rintro pins s σ H Q I ⟨G,H0,env,d,k,ef,q⟩;rw [eval_ListComp]
  exact X0 none (EP X pins σ Q) im N m js S hc hi (fun C s H fp=>hb C s H fp S.nd) hs I k ef fun a C s' H' mm r hn hinv hfp sm rep nt=>⟨mm,hn,fun h' hsb=>⟨.ref a,H',hinv h' hsb,rfl,q _ H' sm rep nt⟩⟩)
def jbD (sl:D->Slot) (i:Nat) {x:Str} {p ps:Pos} (hW: ∀ {G:Ue} {H0 H H1:Hp} {env:Sl} {σ:L2.St} {v:V} {d:D},EnvOk X.K G H0 env σ H->Same H H1->Rep X.K (Sf G env σ) H1 v d->NewTop H v->EnvOk X.K G H0 (env.set i (sl d)) (σ.set i (some v)) H1/\Frm env σ H (env.set i (sl d)) (σ.set i (some v)) H1) (hN:X.N.Nodup) (im:Bool) (N:List Str) (m:Nat) (js:List Nat) (S:CompSc z X scope cl N m js) (hc:X.calm=true) (hi:DI X tg iter fi)
   (hb: ∀(C:Addr) (s:aaf) (H:Hp) (fp:List Addr),N.Nodup->DG (j6 z X N scope cl C s H fp) tg t/\DTs (j6 z X N scope cl C s H fp) ifs c/\DE (j6 z X N scope cl C s H fp) .s elt fe)
   (hxi:X.N[i]?=some x) (hx:Loc X.env.scope x) (hf:T7 X x)
   (hsw:acq (.ListComp elt [⟨tg,iter,ifs,0⟩] scope pos) (some (.Name x p)) ps.line X.env=pure true) (hs: ∀x,acd iter X.env x=pure x):
   DS X (.Assign [.Name x p] (.ListComp elt [⟨tg,iter,ifs,0⟩] scope pos) ps) (fun env=>qQ im m js fi t c fe env>>=fun d=> .ok (.nx (env.set i (sl d)))):=by
 with_unfolding_all exact (by
  rintro pins s σ H E I ⟨G,H0,env,o,k,ef,q⟩;obtain ⟨d,e1,e2⟩:=jd ef;cases e2;rw [exec_Assign_Name_used _ _ _ _ hsw];refine aaa (wpAny_standAt (aaa ?_));refine aaa (thn (X0 (some (assign (.Name x p) X.env)) (fun _ s'=>SP X pins E .next s') im N m js S hc hi (fun C s H fp=>hb C s H fp S.nd) hs I k e1 fun a C s' H' mm r hn hinv hfp sm rep nt=>?_) fun _ s' hq=>aae (aae hq));have I':=hinv s'.heap ⟨rfl,fun _ _=>rfl⟩;obtain ⟨W1,W2⟩:=hW k sm rep nt;obtain ⟨f0,f1,f2,f3,f4,f5⟩:=hfp;refine wpAny_assign_Name (Xb I' hN hxi hx (show RelV (.ref a) (.ref a) from rfl) (fun s2 I2 hsb=>?_) hf);obtain ⟨b,hsb,hbb⟩:=hsb
  have hCb:C≠b:=by
   rcases hbb with z|z
   · rw [z];exact f1
   · exact fun e=>f4 _ _ z e.symm
  refine ⟨mm,hn.sameBut hsb hCb,fun h' hs'=>⟨_,H',?_,q _ _ W1 W2⟩⟩
  exact I2.turned (fun b o hb e=>(hs'.2 b hb).trans e) f0 f1 f3 f4 f5)
def jbC (i:Nat) {x:Str} {p ps:Pos} (hN:X.N.Nodup) (im:Bool) (N:List Str) (m:Nat) (js:List Nat) (S:CompSc z X scope cl N m js) (hc:X.calm=true) (hi:DI X tg iter fi)
  (hb: ∀(C:Addr) (s:aaf) (H:Hp) (fp:List Addr),N.Nodup->DG (j6 z X N scope cl C s H fp) tg t/\DTs (j6 z X N scope cl C s H fp) ifs c/\DE (j6 z X N scope cl C s H fp) .s elt fe)
  (hxi:X.N[i]?=some x:=by rfl) (hx:Loc X.env.scope x:=by first|exact acg rfl|exact abA rfl) (hf:T7 X x:=by first|exact .inl rfl|exact .inr rfl|assumption)
  (hsw:acq (.ListComp elt [⟨tg,iter,ifs,0⟩] scope pos) (some (.Name x p)) ps.line X.env=pure true:=by rfl) (hs: ∀x,acd iter X.env x=pure x:=by intro _;rfl):
  DS X (.Assign [.Name x p] (.ListComp elt [⟨tg,iter,ifs,0⟩] scope pos) ps) (jC i (qQ im m js fi t c fe)):=
 jbD .shr i (fun k s r nt=>⟨(k.grow s).setS r,.set s fun _ _ z _=>by cases z⟩) hN im N m js S hc hi hb hxi hx hf hsw hs
end
def qC (n:Nat) (ds:List D):Sl:=ds.map .shr++aaP (n-ds.length) .un
def JJ {K:aab} {N:List Str} (r:Reps K B H vs ds):EnvOk K (fun a=>H a=none\/B a) H (qC N.length ds) (start N vs) H:=by
 have hl:=r.length
 have no: ∀(i:Nat) (d:D),(qC N.length ds)[i]?≠some (.own d):=fun i d h=>by
   unfold qC at h
   by_cases q:i<ds.length
   · rw [aaz (by simpa using q),aaE] at h
     cases e:ds[i]? with
     |none=>rw [e] at h;cases h
     |some x=>rw [e] at h;cases h
   · rw [aaq (by simpa using q),abk] at h
     split at h<;>cases h
 refine ⟨by simp [L2.start,qC,hl],Same.refl H,fun _ z=> .inl z,fun i d h=>?_,fun i d h=>(no i d h).elim,fun i j d e a h=>(no i d h).elim⟩;unfold qC at h
 by_cases q:i<ds.length
 · rw [aaz (by simpa using q),aaE] at h
   cases e:ds[i]? with
   |none=>rw [e] at h;cases h
   |some x=>
     rw [e] at h;cases h;obtain ⟨v,h1,h2⟩:=r.get e;refine ⟨v,?_,h2.weak fun a z=>⟨fun o=>?_,.inr z⟩⟩
     · unfold L2.start;rw [aaz (by simp;omega),aaE,h1];rfl
     · obtain ⟨i',d',z,_⟩:=o;exact no i' d' z
 · rw [aaq (by simpa using q),abk] at h
   split at h<;>cases h
section
variable {P:aay} {w:World} {K:aab} {mg:Yx} {base:Heap}
def Meets (fr:Bool) (n:Nat) (g:TH) (ds:List D) (d:D):Prop:=(∃fr',g (qC n ds)= .ok (.rt fr' d)/\(fr=true->fr'=true))\/(d= .non/\ ∃env',g (qC n ds)= .ok (.nx env'))
def jd8 {x:Str} {st:Stmt} {k:Nat} {fr:Bool} {F:TD} {g:TH} (Fu:Fun K x qual st f fd) (S:FnScope N ps (jh st))
    (hb: ∀(cdv:Value) (A:aaV) (outer:List Env) (s:aaf) (H:Hp) (E:XK),Room k (A.deeper (ac4 qual (jh st) s.heap.objs.size f cdv))->DSs (cxOf CX0 P w K mg base N qual (jh st) f cdv A outer s H E).nox (jI st) g)
    (hF: ∀ds d,ds.length=ps.length->F ds= .ok d->Meets fr N.length g ds d):
    FnOk P w K mg base CX0 (k+1) f fd ps (spF K fr ps.length F):=by
 with_unfolding_all exact (by
  refine Fu.ok S (fun vs H Q E ⟨B,ds,d,hl,_⟩=>hl) (fun cdv A outer s H vs Q E hr h=>?_);obtain ⟨B,ds,d,hl,r,e,q⟩:=h;refine ⟨_,hb cdv A outer s H E hr,?_⟩;have kk:=JJ (N:=N) r;rcases hF ds d (by rw [←r.length];exact hl) e with ⟨fr',z,hf⟩| ⟨rfl,env',z⟩
  · exact ⟨_,H,_,_,kk,z,fun v H' s r nt=>q v H' s r fun hh=>nt (hf hh)⟩
  · exact ⟨_,H,_,_,kk,z,fun σ' H' k' f'=>q .non H' k'.base .non fun _ a e=>by cases e⟩)
end
open PySem.W in
theorem jeC {ns:List Int} (h:WData.layableAll [WData.list (ns.map WData.int)]=true): ∀n∈ns,abE n<=2^20:=fun n hn=>by
 have h1:=layableW_arg h _ aap;have h2:=layableW_item h1 (.int n) (aat.mpr ⟨n,hn,rfl⟩);have h3:=(layableW_iff.mp h2).2.2;simpa only [WData.weight,abE] using h3
open PySem.W PySem.Calls Att in
theorem Kh {l:ae9} {n:Nat} {q:aay} {loose:List Str} {XP:(Str->Option Value)->Heap->Prop} {YP:World->Heap->Prop} {d:DefRec}
  (hn:l.most=some n) (hdf:d.params.defaults=[])
  (call: ∀(w:World) (s₀ s₁:aaf) (mg mb:Yx) (fa:Addr) (o:Obj) (pm cd doc:Value) (a:Addr) (vs:List Value) (ns:List Int),
   Ground q loose [] XP w s₀ mg mb s₁.heap->YP w s₁.heap->
   s₁.heap.get? fa=some o->o.data= .func (docDef d.name d.params d.body d.scope pm cd doc)->s₁.heap.CodeRec cd d.name->mg d.name=some (.ref fa)->
   s₁.heap.get? a=some {cls:= .type "list",data:= .seq vs.toArray}->IntsAre vs ns->ns.length<=n->(∀n∈ns,abE n<=2^20)->s₁.gens= #[]->
   adX (model l.prog w) callerA (.call (.ref fa) ⟨[.ref a],[]⟩) (fun r s'=>r= .ok (.ret (.bool true))/\OldK s₁.heap s'.heap/\s'.os=s₁.os/\aeS s'.gens) s₁):
  WalkO q loose XP YP l.row.toRowW d [] (fun f vs=>PySem.call f vs):=by
 intro w s₀ s₁ mg mb G Y fa o pm cd doc dV kV ho hd hcd hD hmg hg args vals as hpre hlay hrd hwl hlo;obtain rfl:dV= .none:=Dflts.none hD hdf;obtain rfl:kV= .none:=Dflts.noKw hD;obtain ⟨a,vs,ns,rfl,rfl,hobj,hints,hlen⟩:=U9 hn hpre hwl;refine enter_call (acI (call w s₀ s₁ mg mb fa o pm cd doc a vs ns G Y ho (fd_plain hd) hcd hmg hobj hints hlen (jeC hlay) hg) fun r s' hq=>?_);obtain ⟨rfl,h2,h3,h4⟩:=hq;exact ⟨.inl ⟨.bool true,.bool true,[],rfl,fun _=>rfl,.bool true,kF l _,fun _=>⟨List.Pairwise.nil,fun _ hm=>(nomatch hm)⟩⟩,h2,h3,h4⟩
def ja1 {K:aab} {xs:List V} (hO:Only H) (h:SqL K H a xs):LsK K H a xs:=by
 rcases h with (h|h)|h
 · rcases hO a with z| ⟨o,ys,z⟩
   · rw [z] at h;cases h
   · rw [z] at h;cases h
 · exact .inl h
 · exact .inr h
theorem Va {K:aab} {A:Ue}: ∀ns:List Int,Reps K A H (ns.map V.int) (ns.map D.int)
 | []=> .nil
 |n::r=> .cons (.int n) (Va r)
def walk_law {l:ae9} {n k:Nat} {q:aay} {loose:List Str} {XP:(Str->Option Value)->Heap->Prop} {YP:World->Heap->Prop} {d:DefRec} {K:Params->aab} {F:TD} {x:Str}
  (hn:l.most=some n) (hn2:n<=aak) (hdf:d.params.defaults=[]) (hr:Room k callerA)
  (hY: ∀(w:World) (h:Heap),YP w h->(K w.params).In h)
  (hF: ∀(w:World) (mg:Yx) (fa:Addr) (h:Heap),(K w.params).In h->h.Ns aam mg->mg d.name=some (.ref fa)->
   ∃fd:abJ,(∀(s:aaf) (u:Value),BindsTo s fd ⟨[u],[]⟩ [(x,u)])/\
    ∀base:Heap,(K w.params).In base->base.Ns aam mg->FnOk l.prog w (K w.params) mg base CX0 k fa fd [x] (spF (K w.params) true 1 F))
  (ht: ∀ns:List Int,ns.length<=n->(∀i∈ns,abE i<=2^20)->F [.scr (ns.map D.int)]= .ok (.bl true)):
  PySem.W.WalkO q loose XP YP l.row.toRowW d [] (fun f vs=>PySem.call f vs):=by
 refine Kh hn hdf fun w s₀ s₁ mg mb fa o pm cd doc a vs ns G Y ho hd hcd hmg hobj hints hlen hbits hg=>?_
 have KX:=hY w _ Y;obtain ⟨fd,hb,hFn⟩:=hF w mg fa _ KX G.T.g hmg;refine jbd KX G.T.g G.T.b G.T.builtins G.T.nolimit hg hobj hints (aaw hlen hn2) hr hFn hb (fun H hO hS=>?_) fun H e s' h=>h
 exact ⟨Any,_,_,rfl,.cons (.lsk (ja1 hO hS) (Va ns)) .nil,ht ns hlen hbits,fun v H' _ r _=>r.blE⟩
section
variable {X:Cx} {K:aab}
def iOp (C:Int->Int->Prop) [∀i j,Decidable (C i j)] (g:Int->Int->D):D->D->Res D
 | .int i,.int j=>must (C i j) (.ok (g i j))
 |_,_=> .stuck
def YW {C:Int->Int->Prop} [∀i j,Decidable (C i j)] {g:Int->Int->D} {a b:D} (h:iOp C g a b= .ok d): ∃i j,a= .int i/\b= .int j/\C i j/\d=g i j:=by
 unfold iOp at h
 split at h
 · obtain ⟨h1,h2⟩:=jq h;cases h2;exact ⟨_,_,rfl,rfl,h1,rfl⟩
 · cases h
def od_I {C C':Int->Int->Prop} [∀i j,Decidable (C i j)] {h:Int->Int->V} {g:Int->Int->D} (w: ∀i j,C i j->C' i j) (r: ∀i j,Sc K (h i j) (g i j)):OpS K (rI C' h) (iOp C g):=by
 intro x y H a b d Q ra rb e q;obtain ⟨i,j,rfl,rfl,hc,rfl⟩:=YW e;exact ⟨i,j,ra.intE,rb.intE,w i j hc,q _ (r i j)⟩
abbrev Qi:Int->Int->Prop:=fun _ _=>True
instance: ∀i j,Decidable (Qi i j):=fun _ _=>inferInstanceAs (Decidable True)
def kW {h:Int->Int->V} {g:Int->Int->D} (r: ∀i j,Sc K (h i j) (g i j)):OpS K (rI0 h) (iOp Qi g):=by
 intro x y H a b d Q ra rb e q;obtain ⟨i,j,rfl,rfl,hc,rfl⟩:=YW e;exact ⟨i,j,ra.intE,rb.intE,q _ (r i j)⟩
def jhX (h:Sc K v d):NewTop H v:=fun a e=>absurd e (h.2 a)
def addD:D->D->Res D
 | .int i,.int j=> .ok (.int (i+j))
 | .str i,.str j=>must (i.length+j.length<=aak) (.ok (.str (i++j)))
 | .lst a,.lst b=>must (a.length+b.length<=aak) (.ok (.lst (a++b)))
 | .tup a,.tup b=>must (a.isEmpty=false/\a.length+b.length<=aak) (.ok (.tup (a++b)))
 |_,_=> .stuck
def j7:OpR X (abP .Add) (fun x y H Q=>rI0 (fun i j=> .int (i+j)) x y H Q\/(∃i j,x= .str i/\y= .str j/\i.length+j.length<=aak/\Q (.str (i++j)) H)\/rCat x y H Q\/jc8 X.K x y H Q):=
 op_add.or (op_add_str.or (op_cat.or jdy))
def Reps.len_app {A:Ue} {xs:List V} {a b:List D} (r:Reps K A H xs a) (s:Reps K A H ys b) (h:a.length+b.length<=aak):xs.length+ys.length<=aak:=by rw [r.length,s.length];exact h
def orA {A:Ue}: ∀c,A c->(H c=none\/A c):=fun _ z=> .inr z
def qK:OpD K (fun x y H Q=>rI0 (fun i j=> .int (i+j)) x y H Q\/(∃i j,x= .str i/\y= .str j/\i.length+j.length<=aak/\Q (.str (i++j)) H)\/rCat x y H Q\/jc8 K x y H Q) addD:=by
 intro A x y H a b d Q ra rb e q;unfold addD at e
 split at e
 · cases e;exact .inl ⟨_,_,ra.intE,rb.intE,q _ H (Same.refl H) (.int _) (jhX (jhK (K:=K) _))⟩
 · obtain ⟨h1,h2⟩:=jq e;cases h2;have hl: ∀i j:Str,i.length+j.length<=aak->(i++j).length<=aak:=fun i j h=>by rw [ad9];exact h
   exact .inr (.inl ⟨_,_,ra.strE.1,rb.strE.1,h1,q _ H (Same.refl H) (.str _ (hl _ _ h1)) (jhX (jhW (K:=K) _ (hl _ _ h1)))⟩)
 · obtain ⟨h3,h4⟩:=jq e;cases h4;obtain ⟨l,xs,rfl,hl,_,rx⟩:=ra.lstE;obtain ⟨l',ys,rfl,hl',_,ry⟩:=rb.lstE;refine .inr (.inr (.inl ⟨l,l',xs,ys,rfl,rfl,hl,hl',rx.low.len_app ry.low h3,fun p hp=>q _ _ (Same.upd hp) ?_ (qh (Same.refl H) hp)⟩));exact .lst ju (.inl hp) (((rx.low.append ry.low).laid hp).weak fun c z=>⟨.inr z.1,z.2⟩)
 · obtain ⟨⟨h3,h4⟩,h5⟩:=jq e;cases h5;obtain ⟨l,xs,rfl,hl,rx⟩:=ra.tupE;obtain ⟨l',ys,rfl,hl',ry⟩:=rb.tupE;refine .inr (.inr (.inr ⟨l,l',xs,ys,rfl,rfl,.of hl,.of hl',fun z=>?_,rx.len_app ry h4,fun z=>?_,fun z p hp=>q _ _ (Same.upd hp) ?_ (qh (Same.refl H) hp)⟩))
   · subst z;cases rx;cases h3
   · subst z;cases ry;rw [abC] at q;refine q _ H (Same.refl H) (.tup hl (rx.weak orA)) fun a e o q' m=>?_
     cases e;rw [hl] at q';cases q';exact m
   · exact .tup ju (((rx.append ry).weak orA).grow (Same.upd hp))
 · cases e
def yL:OpS K (rI0 fun i j=> .int (i-j)) (iOp Qi fun i j=> .int (i-j)):=kW fun i j=>jhK _
abbrev MulC:Int->Int->Prop:=fun i j=>abE i+abE j<=134217728
def QH:OpR X (abP .Mult) (rI MulC fun i j=> .int (i*j)):=opI fun _ _ _ _ _ _ _ hc q=>mul_int q (IntMulOk.of_le (aag _) (aag _) hc)
def Xq:OpS K (rI MulC fun i j=> .int (i*j)) (iOp MulC fun i j=> .int (i*j)):=od_I (fun _ _ h=>h) fun i j=>jhK _
abbrev DivC:Int->Int->Prop:=fun _ j=>0<j/\j<1073741824
def QL:OpS K (rI CDiv fun i j=> .int (i/j)) (iOp DivC fun i j=> .int (i/j)):=od_I (fun _ _ h=>h) fun i j=>jhK _
abbrev PosC:Int->Int->Prop:=fun _ j=>0<j
def wL:OpS K (rI (fun _ j=>0<j) fun i j=> .int (i%j)) (iOp PosC fun i j=> .int (i%j)):=od_I (fun _ _ h=>h) fun i j=>jhK _
abbrev PowC:Int->Int->Prop:=fun i j=>0<=j/\j<=1000000/\i.natAbs<2^64
def jck:OpS K (rI CPow fun i j=> .int (i^j.toNat)) (iOp PowC fun i j=> .int (i^j.toNat)):=od_I (fun _ _ h=>h) fun i j=>jhK _
def jdG:OpS K (rI0 fun i j=> .bl (decide (i<j))) (iOp Qi fun i j=> .bl (decide (i<j))):=kW fun i j=>jhG _
def Zo:OpS K (rI0 fun i j=> .bl (decide (i<=j))) (iOp Qi fun i j=> .bl (decide (i<=j))):=kW fun i j=>jhG _
def jfM:OpS K (rI0 fun i j=> .bl (decide (j<i))) (iOp Qi fun i j=> .bl (decide (j<i))):=kW fun i j=>jhG _
def jdH:OpS K (rI0 fun i j=> .bl (decide (j<=i))) (iOp Qi fun i j=> .bl (decide (j<=i))):=kW fun i j=>jhG _
def inS (i j:Str):Bool:=!(ads j i 0 j.length 1).isEmpty
def inD:D->D->Res D
 | .str i,.str j=> .ok (.bl (inS i j))
 |_,_=> .stuck
def jfK:OpS K (fun x y H Q=> ∃i j,x= .str i/\y= .str j/\Q (.bl (!(ads j i 0 j.length 1).isEmpty)) H) inD:=by
 intro x y H a b d Q ra rb e q;unfold inD at e
 split at e
 · cases e;exact ⟨_,_,ra.strE.1,rb.strE.1,q _ (jhG _)⟩
 · cases e
def D.isNon:D->Bool
 | .non=>true
 |_=>false
def isN:D->D->Res D
 |a,.non=> .ok (.bl a.isNon)
 |_,_=> .stuck
def KQ:OpS K (fun x y H Q=>y= .non/\Q (.bl (decide (x= .non))) H) isN:=by
 intro x y H a b d Q ra rb e q;unfold isN at e
 split at e
 · cases e;refine ⟨rb.nonE,?_⟩;have:decide (x=V.non)=a.isNon:=by cases ra<;>simp [D.isNon]
   rw [this];exact q _ (jhG _)
 · cases e
def lenD:List D->Res D
 | [.lst ds]=> .ok (.int ds.length)
 | [.scr ds]=> .ok (.int ds.length)
 | [.tup ds]=> .ok (.int ds.length)
 | [.str z]=> .ok (.int z.length)
 |_=> .stuck
def jR:CallR X (.builtin "len") (fun xs H Q=>(∃p ys,xs=[.ref p]/\(SqL X.K H p ys\/SqT X.K H p ys)/\Q (.int ys.length) H)\/(∃z,xs=[.str z]/\z.length<=aak/\Q (.int z.length) H)):=call_len_seq.or X8
def zA:Yk K (fun xs H Q=>(∃p ys,xs=[.ref p]/\(SqL K H p ys\/SqT K H p ys)/\Q (.int ys.length) H)\/(∃z,xs=[.str z]/\z.length<=aak/\Q (.int z.length) H)) lenD:=by
 intro xs H ds d Q r e q;unfold lenD at e
 split at e
 · cases e;obtain ⟨v,rfl,r1⟩:=r.one;obtain ⟨p,ys,rfl,hp,_,ry⟩:=r1.lstE;exact .inl ⟨p,ys,rfl,.inl (.of hp),by rw [ry.length];exact q _ (jhK _)⟩
 · cases e;obtain ⟨v,rfl,r1⟩:=r.one;obtain ⟨p,ys,rfl,hp,ry⟩:=r1.scrE;exact .inl ⟨p,ys,rfl,.inl hp.sql,by rw [ry.length];exact q _ (jhK _)⟩
 · cases e;obtain ⟨v,rfl,r1⟩:=r.one;obtain ⟨p,ys,rfl,hp,ry⟩:=r1.tupE;exact .inl ⟨p,ys,rfl,.inr (.of hp),by rw [ry.length];exact q _ (jhK _)⟩
 · cases e;obtain ⟨v,rfl,r1⟩:=r.one;obtain ⟨rfl,hz⟩:=r1.strE;exact .inr ⟨_,rfl,hz,q _ (jhK _)⟩
 · cases e
def Qx:List D->Res D
 | [.lst ds]=>(.ok (.tup ds))
 | [.tup ds]=>(.ok (.tup ds))
 |_=> .stuck
def UQ {p:Addr} {xs:List V} (h:H p=some (.tup xs)):NewTop H (.ref p):=fun a e o q m=>by
 cases e;rw [h] at q;cases q;exact m
def Qu:Zf K (fun xs H Q=> ∃p ys,xs=[.ref p]/\((SqL K H p ys/\ ∀l,H l=none->Q (.ref l) (upd H l (.tup ys)))\/(SqT K H p ys/\Q (.ref p) H))) Qx:=by
 intro A xs H ds d Q r e q;unfold Qx at e
 split at e
 · cases e;obtain ⟨v,rfl,r1⟩:=r.one;obtain ⟨p,ys,rfl,hp,_,ry⟩:=r1.lstE;exact ⟨p,ys,rfl,.inl ⟨.of hp,fun l hl=>q _ _ (Same.upd hl) (.tup ju ((ry.low.weak orA).grow (Same.upd hl))) (qh (Same.refl H) hl)⟩⟩
 · cases e;obtain ⟨v,rfl,r1⟩:=r.one;obtain ⟨p,ys,rfl,hp,ry⟩:=r1.tupE;exact ⟨p,ys,rfl,.inr ⟨.of hp,q _ H (Same.refl H) (.tup hp (ry.weak orA)) (UQ hp)⟩⟩
 · cases e
def vq:List D->Res D
 | [.lst ds]=>(.ok (.lst ds))
 | [.tup ds]=>(.ok (.lst ds))
 |_=> .stuck
def jeA:Zf K (fun xs H Q=> ∃p ys,xs=[.ref p]/\(SqL K H p ys\/SqT K H p ys)/\ ∀l,H l=none->Q (.ref l) (upd H l (.lst ys))) vq:=by
 intro A xs H ds d Q r e q;unfold vq at e
 split at e
 · cases e;obtain ⟨v,rfl,r1⟩:=r.one;obtain ⟨p,ys,rfl,hp,_,ry⟩:=r1.lstE;exact ⟨p,ys,rfl,.inl (.of hp),fun l hl=>q _ _ (Same.upd hl) (.lst ju (.inl hl) ((ry.low.laid hl).weak fun c z=>⟨.inr z.1,z.2⟩)) (qh (Same.refl H) hl)⟩
 · cases e;obtain ⟨v,rfl,r1⟩:=r.one;obtain ⟨p,ys,rfl,hp,ry⟩:=r1.tupE;exact ⟨p,ys,rfl,.inr (.of hp),fun l hl=>q _ _ (Same.upd hl) (.lst ju (.inl hl) ((ry.laid hl).weak fun c z=>⟨.inr z.1,z.2⟩)) (qh (Same.refl H) hl)⟩
 · cases e
def minD:List D->Res D
 | [.int i,.int j]=> .ok (.int (if j<i then j else i))
 |_=> .stuck
def jcN:Yk K (fun xs H Q=> ∃i j,xs=[.int i,.int j]/\Q (.int (if j<i then j else i)) H) minD:=by
 intro xs H ds d Q r e q;unfold minD at e
 split at e
 · cases e;obtain ⟨v,v',rfl,r1,r2⟩:=r.two;cases r1.intE;cases r2.intE;exact ⟨_,_,rfl,q _ (jhK _)⟩
 · cases e
def tyN:D->Option String
 | .non=>some "NoneType"
 | .bl _=>some "bool"
 | .int _=>some "int"
 | .str _=>some "str"
 | .tup _=>some "tuple"
 | .lst _=>some "list"
 | .scr _=>none
 | .dic _ _=>some "dict"
 | .dit _ _=>some "dict"
 | .exn _=>none
 | .fdc _ _=>none
 | .hdc _ _=>none
 | .obj _ _ _=>none
def jgJ {A:Ue} {n:String} (r:Rep K A H v d) (h:tyN d=some n):TyOf K H v (.type n):=by
 cases r with
 |non=>cases h;exact .non
 |bl b=>cases h;exact .bl b
 |int i=>cases h;exact .int i
 |str x _=>cases h;exact .str x
 |tup e _=>cases h;exact .tup e
 |lst e _ _=>cases h;exact .lst e
 |lsk _ _=>cases h
 |dic e _ _ _ _=>cases h;exact .dK e
 |dit e _ _ _ _=>cases h;exact .dT e
 |exn _ _ _=>cases h
 |fdc _ _ _ _=>cases h
 |hdc _ _ _ _=>cases h
 |obj _ _ _ _ _=>cases h
def isTy (T n:String):Bool:=n==T|| (T== "int" &&n== "bool")
def IsTy (T:String):Prop:= ∀(K:aab) (n:String),n∈["NoneType", "bool", "int", "str", "tuple", "list", "dict"]->aaT K (.type n) (.type T)=some (isTy T n)
def jeV {n:String} (h:tyN d=some n):n∈["NoneType", "bool", "int", "str", "tuple", "list", "dict"]:=by
 cases d<;>first| (cases h;done)| (cases h;decide)
def QS {T:String} (h: ∀(K:aab),aaT K (.type "NoneType") (.type T)=some (isTy T "NoneType")/\aaT K (.type "bool") (.type T)=some (isTy T "bool")/\aaT K (.type "int") (.type T)=some (isTy T "int")/\
  aaT K (.type "str") (.type T)=some (isTy T "str")/\aaT K (.type "tuple") (.type T)=some (isTy T "tuple")/\aaT K (.type "list") (.type T)=some (isTy T "list")/\aaT K (.type "dict") (.type T)=some (isTy T "dict")):IsTy T:=by
 intro K n hn;obtain ⟨h1,h2,h3,h4,h5,h6,h7⟩:=h K;simp at hn;rcases hn with rfl|rfl|rfl|rfl|rfl|rfl|rfl<;>assumption
def Qp:IsTy "int" :=QS fun K=>⟨rfl,rfl,rfl,rfl,rfl,rfl,rfl⟩
def XG:IsTy "bool" :=QS fun K=>⟨rfl,rfl,rfl,rfl,rfl,rfl,rfl⟩
def jbh:IsTy "str" :=QS fun K=>⟨rfl,rfl,rfl,rfl,rfl,rfl,rfl⟩
def qL:IsTy "tuple" :=QS fun K=>⟨rfl,rfl,rfl,rfl,rfl,rfl,rfl⟩
def QT:IsTy "list" :=QS fun K=>⟨rfl,rfl,rfl,rfl,rfl,rfl,rfl⟩
def isiD (T:String) (d:D):Res D:=match tyN d with
 |some n=> .ok (.bl (isTy T n))
 |none=> .stuck
def jbX (T:String) (h:IsTy T):CallR X (.builtin "isinstance") (fun xs H Q=> ∃x d,xs=[x,.ty T]/\Rep X.K Any H x d/\ ∃b,isiD T d= .ok (.bl b)/\Q (.bl b) H):=by
 rintro pins s σ H xs us Q I r ⟨x,d,ex,rp,b,e,q⟩;subst ex;obtain ⟨u,w',rfl,r1,r2⟩:=Yp r;cases (show w'=adG T from r2);unfold isiD at e
 split at e
 · rename_i n hn;cases e;refine vG I r1 (jgJ rp hn) (h X.K n (jeV hn)) fun tk=>⟨.bl _,H,I.tok tk,rfl,q⟩
 · cases e
def isiF (T:String) (f:TK):Sl->Res D:=fun env=>f env>>=isiD T
def za (T:String) (Ty:Str) {l l':Lv} {f:TK} {p p2 pos:Pos} (ht:IsTy T) (he:DE X l e f) (hg:Gl X "isinstance") (hm:X.mg "isinstance" =none) (hg2:Gl X Ty) (hm2:X.mg Ty=none) (hv:aba Ty=some (.type T))
   (hn:Ty≠ "__name__" :=by decide) (hd:Z0 Ty:=by decide) (hs:aai [e,.Name Ty p2] X.env=(false,eval e X.env)::aai [.Name Ty p2] X.env:=by exact jk rfl)
   (hs2:aai [.Name Ty p2] X.env=(false,eval (.Name Ty p2) X.env)::aai [] X.env:=by exact jk rfl) (hpl:(abo pos (aai [.Name Ty p2] X.env)).any (·.1)=false:=by exact jz rfl):
   DE X l' (.Call (.Name "isinstance" p) [e,.Name Ty p2] [] pos) (isiF T f):=by
 with_unfolding_all exact (
  PE.imp (xg (jbX T ht) hg hm aei (qg he (qg (kI (v:= .ty T) hg2 hm2 hv rfl hn hd) wJ hs2) hs) (by decide) (by decide) hs hpl) fun σ H Q=>by
   rintro ⟨G,H0,env,d,k,ef,q⟩;obtain ⟨a,e1,e2⟩:=jd ef;refine ⟨G,H0,env,a,k,e1,fun v H' s r _=>?_⟩
   have hb: ∃b,d= .bl b:=by
    unfold isiD at e2
    split at e2
    · cases e2;exact ⟨_,rfl⟩
    · cases e2
   obtain ⟨b,rfl⟩:=hb
   exact ⟨v,a,rfl,r.weak Lv.weak_b,b,e2,q _ H' s (.bl b) (jhG (K:=X.K) b).T⟩)
def Zb:List D->Option (List Bool)
 | []=>some []
 | .bl b::r=>(Zb r).map (b:: ·)
 |_=>none
theorem Za: ∀ {ds:List D} {bs:List Bool},Zb ds=some bs->ds=bs.map D.bl
 | [],bs,h=>by cases h;rfl
 |d::r,bs,h=>by
  cases d with
  |bl b=>
   simp only [Zb,abR] at h;obtain ⟨bs',h1,rfl⟩:=h;rw [Za h1];rfl
  |_=>cases h
def jbZ (bs:List Bool):Zb (bs.map D.bl)=some bs:=by
 induction bs with
 |nil=>rfl
 |cons b r ih=>simp [Zb,ih]
def allD:List D->Res D
 | [.lst ds]=>match Zb ds with
  |some bs=> .ok (.bl (bs.all id))
  |none=> .stuck
 |_=> .stuck
theorem JY {A:Ue}: ∀ {bs:List Bool} {xs:List V},Reps K A H xs (bs.map D.bl)->xs=bs.map V.bl
 | [],_,.nil=>rfl
 |b::bs,_,.cons h t=>by rw [h.blE,JY t];rfl
theorem JR: ∀ {bs:List Bool} {us:List Value},Vals (bs.map V.bl) us->us=bs.map aca
 | [],_,.nil=>rfl
 |b::bs,_,.cons h t=>by
  rw [JR t];have:_=aca b:=h;rw [this];rfl
def xY (hc:X.calm=true):CallR X (.builtin "all") (fun xs H Q=> ∃(p:Addr) (bs:List Bool),xs=[.ref p]/\SqL X.K H p (bs.map V.bl)/\Q (.bl (bs.all id)) H):=by
 rintro pins s σ H xs us Q I r ⟨p,bs,ex,hq,q⟩;subst ex;obtain ⟨u,rfl,ru⟩:=Jj r;cases ru;obtain ⟨its,rv,pl,hz⟩:=I.list hq;have hits:=JR rv;subst hits;refine call_all_walk (abU pl.isList ?_)
 have hne:p≠s.heap.objs.size:=by
   obtain ⟨o,n,e,_⟩:=pl;exact aaF (aar e)
 refine ⟨s.heap.objs.size,_,_,_,_,_,fun i=>(bs[i]?).getD true,rfl,afe (show X.A.in1.handled=none from I.ok.hd hc) s.heap.objs.size p hne (bs.map aca).toArray,⟨⟨_,aao _ rfl,rfl,rfl⟩,pl.isList.at fun o e=>aac _ e⟩,?_,fun h' tk kk=>?_⟩
 · intro i v s' Q' E' hP hQ;have hP':(bs.map aca)[i]?=some v:=by simpa using hP
   rw [aaE] at hP'
   cases e:bs[i]? with
   |none=>rw [e] at hP';cases hP'
   |some b=>
    rw [e] at hP';cases hP';dsimp only at hQ;rw [e] at hQ;exact abG hQ
 · have hn:(bs.map aca).toArray.size=bs.length:=by simp
   have e:((aa5 (bs.map aca).toArray.size).all fun i=>(bs[i]?).getD true)=bs.all id:=by
    rw [hn,aej,abw,abw]
    constructor
    · intro hh b hb;obtain ⟨i,hi,rfl⟩:=List.mem_iff_getElem.mp hb;have:=hh i (aaM.mpr hi);rw [aad hi] at this;exact this
    · intro hh i hi;have hi':=aaM.mp hi;rw [aad hi'];exact hh _ (aa9 hi')
   rw [e];refine ⟨.bl _,H,?_,rfl,q⟩
   exact I.kept fun b o e=>kk b o (by
    intro z;have hb:b=s.heap.objs.size:=by simpa using z
    exact absurd (aar e) (by rw [hb];exact abq _)) (aac _ e)
def X4:Yk K (fun xs H Q=> ∃(p:Addr) (bs:List Bool),xs=[.ref p]/\SqL K H p (bs.map V.bl)/\Q (.bl (bs.all id)) H) allD:=by
 intro xs H ds d Q r e q;unfold allD at e
 split at e
 · split at e
   · rename_i bs hbs;cases e;obtain ⟨v,rfl,r1⟩:=r.one;obtain ⟨p,ys,rfl,hp,_,ry⟩:=r1.lstE;rw [Za hbs] at ry;have:=JY ry;subst this;exact ⟨p,bs,rfl,.of hp,q _ (jhG _)⟩
   · cases e
 · cases e
end
end M
namespace M
open PySem PySem.Spec L2
open PyProof.Rows hiding St
open PySem.SeqAt (EqAt RcAt RcNeAt)
mutual
theorem D.ind {P:D->Prop} (h0:P .non) (h1: ∀b,P (.bl b)) (h2: ∀i,P (.int i)) (h3: ∀x,P (.str x)) (h4: ∀ds,(∀d∈ds,P d)->P (.tup ds)) (h5: ∀ds,(∀d∈ds,P d)->P (.lst ds))
  (h6: ∀ds,(∀d∈ds,P d)->P (.scr ds)) (h7:(∀ks ds,(∀d∈ds,P d)->P (.dic ks ds))/\(∀ks ds,(∀d∈ds,P d)->P (.dit ks ds))/\(∀c,P (.exn c))/\(∀ks ds,(∀d∈ds,P d)->P (.fdc ks ds))/\(∀ks ds,(∀d∈ds,P d)->P (.hdc ks ds))/\ ∀c ns ds,(∀d∈ds,P d)->P (.obj c ns ds)): ∀d,P d
 | .non=>h0
 | .bl b=>h1 b
 | .int i=>h2 i
 | .str x=>h3 x
 | .tup ds=>h4 ds (D.inds h0 h1 h2 h3 h4 h5 h6 h7 ds)
 | .lst ds=>h5 ds (D.inds h0 h1 h2 h3 h4 h5 h6 h7 ds)
 | .scr ds=>h6 ds (D.inds h0 h1 h2 h3 h4 h5 h6 h7 ds)
 | .dic ks ds=>h7.1 ks ds (D.inds h0 h1 h2 h3 h4 h5 h6 h7 ds)
 | .dit ks ds=>h7.2.1 ks ds (D.inds h0 h1 h2 h3 h4 h5 h6 h7 ds)
 | .exn c=>h7.2.2.1 c
 | .fdc ks ds=>h7.2.2.2.1 ks ds (D.inds h0 h1 h2 h3 h4 h5 h6 h7 ds)
 | .hdc ks ds=>h7.2.2.2.2.1 ks ds (D.inds h0 h1 h2 h3 h4 h5 h6 h7 ds)
 | .obj c ns ds=>h7.2.2.2.2.2 c ns ds (D.inds h0 h1 h2 h3 h4 h5 h6 h7 ds)
theorem D.inds {P:D->Prop} (h0:P .non) (h1: ∀b,P (.bl b)) (h2: ∀i,P (.int i)) (h3: ∀x,P (.str x)) (h4: ∀ds,(∀d∈ds,P d)->P (.tup ds)) (h5: ∀ds,(∀d∈ds,P d)->P (.lst ds))
  (h6: ∀ds,(∀d∈ds,P d)->P (.scr ds)) (h7:(∀ks ds,(∀d∈ds,P d)->P (.dic ks ds))/\(∀ks ds,(∀d∈ds,P d)->P (.dit ks ds))/\(∀c,P (.exn c))/\(∀ks ds,(∀d∈ds,P d)->P (.fdc ks ds))/\(∀ks ds,(∀d∈ds,P d)->P (.hdc ks ds))/\ ∀c ns ds,(∀d∈ds,P d)->P (.obj c ns ds)): ∀ds:List D,∀d∈ds,P d
 | [],_,h=>by cases h
 |x::r,d,h=>by
  have p:=D.ind h0 h1 h2 h3 h4 h5 h6 h7 x;have q:=D.inds h0 h1 h2 h3 h4 h5 h6 h7 r;rcases aaG.mp h with z|z
  · rw [z];exact p
  · exact q d z
end
mutual
def D.dep:D->Nat
 | .tup ds=>D.deps ds+1
 | .lst ds=>D.deps ds+1
 |_=>0
def D.deps:List D->Nat
 | []=>0
 |d::ds=>max (D.dep d) (D.deps ds)
end
mutual
def D.eqb:D->Bool
 | .scr _=>false
 | .dic _ _=>false
 | .dit _ _=>false
 | .exn _=>false
 | .fdc _ _=>false
 | .hdc _ _=>false
 | .obj _ _ _=>false
 | .tup ds=>D.eqbs ds
 | .lst ds=>D.eqbs ds
 |_=>true
def D.eqbs:List D->Bool
 | []=>true
 |d::ds=>D.eqb d&&D.eqbs ds
end
mutual
def eqD:D->D->Bool
 | .non,.non=>true
 | .bl a,.bl b=>a==b
 | .bl a,.int j=>(if a then 1 else 0)==j
 | .int i,.bl b=>i==(if b then 1 else 0)
 | .int i,.int j=>i==j
 | .str x,.str y=>x==y
 | .tup a,.tup b=>eqDs a b
 | .lst a,.lst b=>eqDs a b
 |_,_=>false
def eqDs:List D->List D->Bool
 | [],[]=>true
 |a::as,b::bs=>eqD a b&&eqDs as bs
 |_,_=>false
end
theorem yx: ∀ {ds:List D} {d:D},d∈ds->D.dep d<=D.deps ds
 |x::r,d,h=>by
  simp only [D.deps];rcases aaG.mp h with rfl|h
  · omega
  · have:=yx h;omega
theorem JH: ∀ {ds:List D} {d:D},D.eqbs ds=true->d∈ds->D.eqb d=true
 |x::r,d,hb,h=>by
  simp only [D.eqbs,aaD] at hb;rcases aaG.mp h with rfl|h
  · exact hb.1
  · exact JH hb.2 h
theorem xT: ∀ {ds:List D},(∀d∈ds,D.eqb d=true->eqD d d=true)->D.eqbs ds=true->eqDs ds ds=true
 | [],_,_=>by simp [eqDs]
 |d::ds,h,hb=>by
  simp only [D.eqbs,aaD] at hb;simp only [eqDs,aaD];exact ⟨h d aap hb.1,xT (fun x hx=>h x (aal _ hx)) hb.2⟩
def WL (d:D):D.eqb d=true->eqD d d=true:=by
 refine D.ind (P:=fun d=>D.eqb d=true->eqD d d=true) ?_ ?_ ?_ ?_ ?_ ?_ ?_ ?_ d
 · intro _;simp [eqD]
 · intro b _;simp [eqD]
 · intro i _;simp [eqD]
 · intro x _;simp [eqD]
 · intro ds ih hb;simp only [eqD];exact xT ih (by simpa only [D.eqb] using hb)
 · intro ds ih hb;simp only [eqD];exact xT ih (by simpa only [D.eqb] using hb)
 · intro ds ih hb;simp [D.eqb] at hb
 · exact ⟨by intro ks ds ih hb;simp [D.eqb] at hb,by intro ks ds ih hb;simp [D.eqb] at hb,by intro c hb;simp [D.eqb] at hb,by intro ks ds ih hb;simp [D.eqb] at hb,by intro ks ds ih hb;simp [D.eqb] at hb,by intro c ns ds ih hb;simp [D.eqb] at hb⟩
section
variable {K:aab} {H:Hp}
def Reps.inj_of {A:Ue} (h: ∀d∈ds,∀(A A':Ue) v d',D.eqb d=true->D.eqb d'=true->Rep K A H v d->Rep K A' H v d'->d=d') (hb:D.eqbs ds=true) (hb':D.eqbs ds'=true) (r:Reps K A H vs ds) (r':Reps K A' H vs ds'):ds=ds':=by
 induction vs generalizing ds ds' with
 |nil=>cases r;cases r';rfl
 |cons v vs ih=>
  cases r with
  |cons r t=>
   cases r' with
   |cons r' t'=>
    simp only [D.eqbs,aaD] at hb hb';rw [h _ aap _ _ _ _ hb.1 hb'.1 r r',ih (fun d hd=>h d (aal _ hd)) hb.2 hb'.2 t t']
def Rep.inj (d:D): ∀(A A':Ue) v d',D.eqb d=true->D.eqb d'=true->Rep K A H v d->Rep K A' H v d'->d=d':=by
 refine D.ind (P:=fun d=> ∀(A A':Ue) v d',D.eqb d=true->D.eqb d'=true->Rep K A H v d->Rep K A' H v d'->d=d') ?_ ?_ ?_ ?_ ?_ ?_ ?_ ?_ d
 · intro A A' v d' _ _ r r';cases r.nonE;cases r';rfl
 · intro b A A' v d' _ _ r r';cases r.blE;cases r';rfl
 · intro b A A' v d' _ _ r r';cases r.intE;cases r';rfl
 · intro b A A' v d' _ _ r r';cases r.strE.1;cases r';rfl
 · intro ds ih A A' v d' hb hd' r r';obtain ⟨a,xs,rfl,ha,rs⟩:=r.tupE;have hb':D.eqbs ds=true:=by simpa only [D.eqb] using hb
   cases r' with
   |tup e rs'=>
    rw [ha] at e;cases e;rw [Reps.inj_of ih hb' (by simpa only [D.eqb] using hd') rs rs']
   |lst e _ _=>rw [ha] at e;cases e
   |lsk e _=>simp [D.eqb] at hd'
   |dic e _ _ _ _=>rw [ha] at e;cases e
   |dit e _ _ _ _=>rw [ha] at e;cases e
   |exn e _ _=>rw [ha] at e;cases e
   |fdc e _ _ _=>rcases e with ⟨e,_⟩| ⟨o,e⟩<;>(rw [ha] at e;cases e)
   |hdc e _ _ _=>obtain ⟨o,e⟩:=e;rw [ha] at e;cases e
   |obj e _ _ _ _=>rw [ha] at e;cases e
 · intro ds ih A A' v d' hb hd' r r';obtain ⟨a,xs,rfl,ha,_,rs⟩:=r.lstE;have hb':D.eqbs ds=true:=by simpa only [D.eqb] using hb
   cases r' with
   |tup e rs'=>rw [ha] at e;cases e
   |lst e _ rs'=>
    rw [ha] at e;cases e;rw [Reps.inj_of ih hb' (by simpa only [D.eqb] using hd') rs rs']
   |lsk e _=>simp [D.eqb] at hd'
   |dic e _ _ _ _=>rw [ha] at e;cases e
   |dit e _ _ _ _=>rw [ha] at e;cases e
   |exn e _ _=>rw [ha] at e;cases e
   |fdc e _ _ _=>rcases e with ⟨e,_⟩| ⟨o,e⟩<;>(rw [ha] at e;cases e)
   |hdc e _ _ _=>obtain ⟨o,e⟩:=e;rw [ha] at e;cases e
   |obj e _ _ _ _=>rw [ha] at e;cases e
 · intro ds ih A A' v d' hb;simp [D.eqb] at hb
 · exact ⟨by intro ks ds ih A A' v d' hb;simp [D.eqb] at hb,by intro ks ds ih A A' v d' hb;simp [D.eqb] at hb,by intro c A A' v d' hb;simp [D.eqb] at hb,by intro ks ds ih A A' v d' hb;simp [D.eqb] at hb,by intro ks ds ih A A' v d' hb;simp [D.eqb] at hb,by intro c ns ds ih A A' v d' hb;simp [D.eqb] at hb⟩
end
def ux (a b:List D) (j:Nat):Bool:=match a[j]?,b[j]? with
 |some x,some y=>eqD x y
 |_,_=>true
theorem yw: ∀(a b:List D),a.length=b.length->eqDs a b=(aa5 a.length).all (ux a b)
 | [],[],_=>by simp [eqDs]
 |x::a,y::b,h=>by
  have hl:a.length=b.length:=by simpa using h
  rw [aaL,List.range_succ_eq_map,aeU,List.all_map];simp only [eqDs];rw [yw a b hl];congr 1
theorem JI: ∀(a b:List D),a.length≠b.length->eqDs a b=false
 | [],[],h=>absurd rfl h
 | [],y::b,_=>by simp [eqDs]
 |x::a,[],_=>by simp [eqDs]
 |x::a,y::b,h=>by
  simp only [eqDs];rw [JI a b (by simpa using h),Bool.and_false]
def Vp (a b:List D):eqDs a b=((aa5 (min a.length b.length)).all (ux a b)&&a.length==b.length):=by
 by_cases h:a.length=b.length
 · rw [yw a b h,h];simp
 · rw [JI a b h];simp [h]
section
variable {X:Cx} {pins:List (Addr×Obj)} {σ:L2.St} {H:Hp} {s:aaf}
inductive Cm (X:Cx) (H:Hp) (s:aaf):Value->D->Prop where
 |non:Cm X H s .none .non
 |bl (b:Bool):Cm X H s (.bool b) (.bl b)
 |int (i:Int) (t:Tok):Cm X H s (.int i t) (.int i)
 |str (x:Str) (t:Tok):Cm X H s (.str x t) (.str x)
 |tup {a:Addr} {xs:List V} {its:List Value} {ds:List D}:H a=some (.tup xs)->s.heap.IsTuple a its.toArray->Vals xs its->Reps X.K Any H xs ds->Cm X H s (.ref a) (.tup ds)
 |lst {a:Addr} {xs:List V} {its:List Value} {ds:List D}:H a=some (.lst xs)->s.heap.IsList a its.toArray->Vals xs its->Reps X.K Any H xs ds->Cm X H s (.ref a) (.lst ds)
def JM (I:Inv X pins σ H s) (r:Rep X.K Any H v d) (ru:RelV v u) (hb:D.eqb d=true):Cm X H s u d:=by
 cases r with
 |non=>cases ru;exact .non
 |bl b=>cases ru;exact .bl b
 |int i=>obtain ⟨t,rfl⟩:=ru;exact .int i t
 |str x _=>obtain ⟨t,rfl⟩:=ru;exact .str x t
 |tup e rs=>
  cases ru;obtain ⟨its,rv,p,hz⟩:=I.tuple (.of e);exact .tup e p rv rs
 |lst e _ rs=>
  cases ru;obtain ⟨its,rv,p,hz⟩:=I.list (.of e);exact .lst e p.isList rv rs.low
 |lsk _ _=>simp [D.eqb] at hb
 |dic _ _ _ _ _=>simp [D.eqb] at hb
 |dit _ _ _ _ _=>simp [D.eqb] at hb
 |exn _ _ _=>simp [D.eqb] at hb
 |fdc _ _ _ _=>simp [D.eqb] at hb
 |hdc _ _ _ _=>simp [D.eqb] at hb
 |obj _ _ _ _ _=>simp [D.eqb] at hb
def jbv {A:aaV} {xs:List V} {its2:List Value} {a b:List D} (ra:Reps X.K Any H xs a) (rb:Reps X.K Any H ys b) (va:Vals xs its) (vb:Vals ys its2)
  (ih: ∀d∈a,∀(v v':V) (u u':Value) (d':D),Rep X.K Any H v d->RelV v u->Rep X.K Any H v' d'->RelV v' u'->D.eqb d=true->D.eqb d'=true->EqAt A.in1 s u u' (eqD d d')) (ha:D.eqbs a=true) (hb:D.eqbs b=true):
  ∀j (h1:j<its.toArray.size) (h2:j<its2.toArray.size),EqAt A.in1 s its.toArray[j] its2.toArray[j] (ux a b j):=by
 intro j h1 h2;have l1:=va.length;have l2:=vb.length;have l3:=ra.length;have l4:=rb.length;have j1:j<a.length:=by simp at h1;omega
 have j2:j<b.length:=by simp at h2;omega
 obtain ⟨v,e1,r1⟩:=ra.get (aad j1);obtain ⟨v',e2,r2⟩:=rb.get (aad j2);obtain ⟨u,e3,r3⟩:=va.get e1;obtain ⟨u',e4,r4⟩:=vb.get e2
 have g1:its.toArray[j]=u:=by
  have:=aav.mp e3;obtain ⟨_,q⟩:=this;simpa using q
 have g2:its2.toArray[j]=u':=by
  have:=aav.mp e4;obtain ⟨_,q⟩:=this;simpa using q
 rw [g1,g2];have e:ux a b j=eqD a[j] b[j]:=by unfold ux;rw [aad j1,aad j2]
 rw [e];exact ih _ (aa9 j1) v v' u u' _ r1 r3 r2 r4 (JH ha (aa9 j1)) (JH hb (aa9 j2))
def Qr (I:Inv X pins σ H s) (d:D): ∀(A:aaV) (v v':V) (u u':Value) (d':D),A.units+d.dep<cLine->Rep X.K Any H v d->RelV v u->Rep X.K Any H v' d'->RelV v' u'->D.eqb d=true->D.eqb d'=true->EqAt A s u u' (eqD d d'):=by
 refine D.ind (P:=fun d=> ∀(A:aaV) (v v':V) (u u':Value) (d':D),A.units+d.dep<cLine->Rep X.K Any H v d->RelV v u->Rep X.K Any H v' d'->RelV v' u'->D.eqb d=true->D.eqb d'=true->EqAt A s u u' (eqD d d')) ?_ ?_ ?_ ?_ ?_ ?_ ?_ ?_ d
 · intro A v v' u u' d' hu r ru r' ru' hb hb';cases JM I r ru hb;have hu':A.units<cLine:=by simp only [D.dep] at hu;omega
   cases JM I r' ru' hb'<;>simp only [eqD]
   · exact EqAt.same _
   · exact EqAt.none_bool _
   · exact EqAt.none_int _ _
   · exact EqAt.none_str _ _
   · exact EqAt.none_tuple (by assumption) hu'
   · exact EqAt.none_list (by assumption) hu'
 · intro b A v v' u u' d' hu r ru r' ru' hb hb';cases JM I r ru hb;have hu':A.units<cLine:=by simp only [D.dep] at hu;omega
   cases JM I r' ru' hb'<;>simp only [eqD]
   · exact EqAt.bool_none _
   · exact EqAt.bool_bool _ _
   · exact EqAt.bool_int _ _ _
   · exact EqAt.bool_str _ _ _
   · exact EqAt.bool_tuple _ (by assumption) hu'
   · exact EqAt.bool_list _ (by assumption) hu'
 · intro i A v v' u u' d' hu r ru r' ru' hb hb';cases JM I r ru hb;have hu':A.units<cLine:=by simp only [D.dep] at hu;omega
   cases JM I r' ru' hb'<;>simp only [eqD]
   · exact EqAt.int_none _ _
   · exact EqAt.int_bool _ _ _
   · exact EqAt.int_int _ _ _ _
   · exact EqAt.int_str _ _ _ _
   · exact EqAt.int_tuple _ _ (by assumption) hu'
   · exact EqAt.int_list _ _ (by assumption) hu'
 · intro x A v v' u u' d' hu r ru r' ru' hb hb';cases JM I r ru hb;have hu':A.units<cLine:=by simp only [D.dep] at hu;omega
   cases JM I r' ru' hb'<;>simp only [eqD]
   · exact EqAt.str_none _ _
   · exact EqAt.str_bool _ _ _
   · exact EqAt.str_int _ _ _ _
   · exact EqAt.str_str _ _ _ _
   · exact EqAt.str_tuple _ _ (by assumption) hu'
   · exact EqAt.str_list _ _ (by assumption) hu'
 · intro ds ih A v v' u u' d' hu r ru r' ru' hb hb';have hu':A.units<cLine:=by simp only [D.dep] at hu;omega
   have c1:=JM I r ru hb;have c2:=JM I r' ru' hb'
   cases c1 with
   |tup e p rv rs=>
     cases c2 with
     |non=>simp only [eqD];exact EqAt.tuple_none p hu'
     |bl b=>simp only [eqD];exact EqAt.tuple_bool _ p hu'
     |int i t=>simp only [eqD];exact EqAt.tuple_int _ _ p hu'
     |str x t=>simp only [eqD];exact EqAt.tuple_str _ _ p hu'
     |lst e2 p2 rv2 rs2=>simp only [eqD];exact EqAt.tuple_list p p2 hu'
     | @tup a2 xs2 its2 ds2 e2 p2 rv2 rs2=>
      rename_i a1 xs1 its1
      by_cases z:a1=a2
      · subst z;have ed:=Rep.inj _ Any Any _ _ hb hb' (Rep.tup e rs) (Rep.tup e2 rs2);rw [←ed,WL _ hb];exact EqAt.same _
      · have q:=RcAt.tuples p p2 hu' (jbv rs rs2 rv rv2 (fun d hd v v' u u' d' g1 g2 g3 g4 g5 g6=>ih d hd A.in1 v v' u u' d' (by
          have:=yx hd;simp only [D.dep] at hu;show A.units+1+d.dep<cLine
          omega) g1 g2 g3 g4 g5 g6) (by simpa only [D.eqb] using hb) (by simpa only [D.eqb] using hb'))
        have n1:its1.toArray.size=ds.length:=by rw [aah,←rv.length,rs.length]
        have n2:its2.toArray.size=ds2.length:=by rw [aah,←rv2.length,rs2.length]
        rw [n1,n2,←Vp] at q;simp only [eqD];exact EqAt.of_refs z q
 · intro ds ih A v v' u u' d' hu r ru r' ru' hb hb';have hu':A.units<cLine:=by simp only [D.dep] at hu;omega
   have c1:=JM I r ru hb;have c2:=JM I r' ru' hb'
   cases c1 with
   |lst e p rv rs=>
     cases c2 with
     |non=>simp only [eqD];exact EqAt.list_none p hu'
     |bl b=>simp only [eqD];exact EqAt.list_bool _ p hu'
     |int i t=>simp only [eqD];exact EqAt.list_int _ _ p hu'
     |str x t=>simp only [eqD];exact EqAt.list_str _ _ p hu'
     |tup e2 p2 rv2 rs2=>simp only [eqD];exact EqAt.list_tuple p p2 hu'
     | @lst a2 xs2 its2 ds2 e2 p2 rv2 rs2=>
      rename_i a1 xs1 its1;have n1:its1.toArray.size=ds.length:=by rw [aah,←rv.length,rs.length]
      have n2:its2.toArray.size=ds2.length:=by rw [aah,←rv2.length,rs2.length]
      by_cases z:a1=a2
      · subst z
        have ed:D.lst ds=D.lst ds2:=by
          rw [e] at e2;cases e2;rw [Reps.inj_of (fun d _ A A' v d'=>Rep.inj d A A' v d') (by simpa only [D.eqb] using hb) (by simpa only [D.eqb] using hb') rs rs2]
        rw [←ed,WL _ hb];exact EqAt.same _
      · simp only [eqD]
        by_cases hl:ds.length=ds2.length
        · have q:=RcAt.lists p p2 (by rw [n1,n2];exact hl) hu' (jbv rs rs2 rv rv2 (fun d hd v v' u u' d' g1 g2 g3 g4 g5 g6=>ih d hd A.in1 v v' u u' d' (by
           have:=yx hd;simp only [D.dep] at hu;show A.units+1+d.dep<cLine
           omega) g1 g2 g3 g4 g5 g6) (by simpa only [D.eqb] using hb) (by simpa only [D.eqb] using hb'))
          rw [n1,←yw ds ds2 hl] at q;exact EqAt.of_refs z q
        · rw [JI ds ds2 hl];exact EqAt.of_refs z (aew p p2 (by rw [n1,n2];simp [hl]) hu')
 · intro ds ih A v v' u u' d' hu r ru r' ru' hb;simp [D.eqb] at hb
 · exact ⟨by intro ks ds ih A v v' u u' d' hu r ru r' ru' hb;simp [D.eqb] at hb,by intro ks ds ih A v v' u u' d' hu r ru r' ru' hb;simp [D.eqb] at hb,by intro c A v v' u u' d' hu r ru r' ru' hb;simp [D.eqb] at hb,by intro ks ds ih A v v' u u' d' hu r ru r' ru' hb;simp [D.eqb] at hb,by intro ks ds ih A v v' u u' d' hu r ru r' ru' hb;simp [D.eqb] at hb,by intro c ns ds ih A v v' u u' d' hu r ru r' ru' hb;simp [D.eqb] at hb⟩
def KG (I:Inv X pins σ H s) {A:aaV} {d':D} (hu:A.units+d.dep<cLine) (r:Rep X.K Any H v d) (ru:RelV v u) (r':Rep X.K Any H v' d') (ru':RelV v' u') (hb:D.eqb d=true) (hb':D.eqb d'=true):
  RcAt A s u u' (eqD d d')/\RcNeAt A s u u' (!eqD d d'):=by
 have hu':A.units<cLine:=by omega
 have c1:=JM I r ru hb;have c2:=JM I r' ru' hb'
 cases c1 with
 |non=>
  cases c2<;>simp only [eqD,acK,abn]
  · exact ⟨RcAt.none_none,RcNeAt.none_none⟩
  · exact ⟨RcAt.none_bool _,RcNeAt.none_bool _⟩
  · exact ⟨RcAt.none_int _ _,RcNeAt.none_int _ _⟩
  · exact ⟨RcAt.none_str _ _,RcNeAt.none_str _ _⟩
  · exact ⟨RcAt.none_tuple (by assumption) hu',RcNeAt.none_tuple (by assumption) hu'⟩
  · exact ⟨RcAt.none_list (by assumption) hu',RcNeAt.none_list (by assumption) hu'⟩
 |bl b=>
  cases c2<;>simp only [eqD,acK,abn]
  · exact ⟨RcAt.bool_none _,RcNeAt.bool_none _⟩
  · exact ⟨RcAt.bool_bool _ _,RcNeAt.bool_bool _ _⟩
  · exact ⟨RcAt.bool_int _ _ _,RcNeAt.bool_int _ _ _⟩
  · exact ⟨RcAt.bool_str _ _ _,RcNeAt.bool_str _ _ _⟩
  · exact ⟨RcAt.bool_tuple _ (by assumption) hu',RcNeAt.bool_tuple _ (by assumption) hu'⟩
  · exact ⟨RcAt.bool_list _ (by assumption) hu',RcNeAt.bool_list _ (by assumption) hu'⟩
 |int i t=>
  cases c2<;>simp only [eqD,acK,abn]
  · exact ⟨RcAt.int_none _ _,RcNeAt.int_none _ _⟩
  · exact ⟨RcAt.int_bool _ _ _,RcNeAt.int_bool _ _ _⟩
  · exact ⟨RcAt.int_int _ _ _ _,RcNeAt.int_int _ _ _ _⟩
  · exact ⟨RcAt.int_str _ _ _ _,RcNeAt.int_str _ _ _ _⟩
  · exact ⟨RcAt.int_tuple _ _ (by assumption) hu',RcNeAt.int_tuple _ _ (by assumption) hu'⟩
  · exact ⟨RcAt.int_list _ _ (by assumption) hu',RcNeAt.int_list _ _ (by assumption) hu'⟩
 |str x t=>
  cases c2<;>simp only [eqD,acK,abn]
  · exact ⟨RcAt.str_none _ _,RcNeAt.str_none _ _⟩
  · exact ⟨RcAt.str_bool _ _ _,RcNeAt.str_bool _ _ _⟩
  · exact ⟨RcAt.str_int _ _ _ _,RcNeAt.str_int _ _ _ _⟩
  · exact ⟨RcAt.str_str _ _ _ _,RcNeAt.str_str _ _ _ _⟩
  · exact ⟨RcAt.str_tuple _ _ (by assumption) hu',RcNeAt.str_tuple _ _ (by assumption) hu'⟩
  · exact ⟨RcAt.str_list _ _ (by assumption) hu',RcNeAt.str_list _ _ (by assumption) hu'⟩
 | @tup a1 xs1 its1 ds e p rv rs=>
  cases c2 with
  |non=>simp only [eqD,abn];exact ⟨RcAt.tuple_none p hu',RcNeAt.tuple_none p hu'⟩
  |bl b=>simp only [eqD,abn];exact ⟨RcAt.tuple_bool _ p hu',RcNeAt.tuple_bool _ p hu'⟩
  |int i t=>simp only [eqD,abn];exact ⟨RcAt.tuple_int _ _ p hu',RcNeAt.tuple_int _ _ p hu'⟩
  |str x t=>simp only [eqD,abn];exact ⟨RcAt.tuple_str _ _ p hu',RcNeAt.tuple_str _ _ p hu'⟩
  |lst e2 p2 rv2 rs2=>simp only [eqD,abn];exact ⟨RcAt.tuple_list p p2 hu',RcNeAt.tuple_list p p2 hu'⟩
  | @tup a2 xs2 its2 ds2 e2 p2 rv2 rs2=>
    have n1:its1.toArray.size=ds.length:=by rw [aah,←rv.length,rs.length]
    have n2:its2.toArray.size=ds2.length:=by rw [aah,←rv2.length,rs2.length]
    have el:=jbv rs rs2 rv rv2 (fun d hd v v' u u' d' g1 g2 g3 g4 g5 g6=>Qr I d A.in1 v v' u u' d' (by
      have:=yx hd;simp only [D.dep] at hu;show A.units+1+d.dep<cLine
      omega) g1 g2 g3 g4 g5 g6) (by simpa only [D.eqb] using hb) (by simpa only [D.eqb] using hb')
    have q:=RcAt.tuples p p2 hu' el;have q2:=RcNeAt.tuples p p2 hu' el;rw [n1,n2,←Vp] at q q2;simp only [eqD];exact ⟨q,q2⟩
 | @lst a1 xs1 its1 ds e p rv rs=>
  cases c2 with
  |non=>simp only [eqD,abn];exact ⟨RcAt.list_none p hu',RcNeAt.list_none p hu'⟩
  |bl b=>simp only [eqD,abn];exact ⟨RcAt.list_bool _ p hu',RcNeAt.list_bool _ p hu'⟩
  |int i t=>simp only [eqD,abn];exact ⟨RcAt.list_int _ _ p hu',RcNeAt.list_int _ _ p hu'⟩
  |str x t=>simp only [eqD,abn];exact ⟨RcAt.list_str _ _ p hu',RcNeAt.list_str _ _ p hu'⟩
  |tup e2 p2 rv2 rs2=>simp only [eqD,abn];exact ⟨RcAt.list_tuple p p2 hu',RcNeAt.list_tuple p p2 hu'⟩
  | @lst a2 xs2 its2 ds2 e2 p2 rv2 rs2=>
    have n1:its1.toArray.size=ds.length:=by rw [aah,←rv.length,rs.length]
    have n2:its2.toArray.size=ds2.length:=by rw [aah,←rv2.length,rs2.length]
    simp only [eqD]
    by_cases hl:ds.length=ds2.length
    · have el:=jbv rs rs2 rv rv2 (fun d hd v v' u u' d' g1 g2 g3 g4 g5 g6=>Qr I d A.in1 v v' u u' d' (by
       have:=yx hd;simp only [D.dep] at hu;show A.units+1+d.dep<cLine
       omega) g1 g2 g3 g4 g5 g6) (by simpa only [D.eqb] using hb) (by simpa only [D.eqb] using hb')
      have q:=RcAt.lists p p2 (by rw [n1,n2];exact hl) hu' el;have q2:=RcNeAt.lists p p2 (by rw [n1,n2];exact hl) hu' el;rw [n1,←yw ds ds2 hl] at q q2;exact ⟨q,q2⟩
    · rw [JI ds ds2 hl];exact ⟨aew p p2 (by rw [n1,n2];simp [hl]) hu',RcNeAt.lists_lengths p p2 (by rw [n1,n2];simp [hl]) hu'⟩
end
section
variable {X:Cx}
def W8:D->D->Bool
 | .lst a,.lst b=>a.length !=b.length
 |_,_=>false
def W6 {a b:D} (h:W8 a b=true):eqD a b=false:=by
 unfold W8 at h
 split at h
 · simp only [eqD];exact JI _ _ (by simpa using h)
 · cases h
def EqC (a b:D):Prop:=(D.eqb a=true/\D.eqb b=true/\a.dep<=190)\/W8 a b=true
instance (a b:D):Decidable (EqC a b):=inferInstanceAs (Decidable (_\/_))
def rEqD (K:aab) (neg:Bool):R2:=fun x y H Q=> ∃a b,Rep K Any H x a/\Rep K Any H y b/\EqC a b/\Q (.bl (if neg then !eqD a b else eqD a b)) H
def W7 {s:aaf} (I:Inv X pins σ H s) {A:aaV} {d':D} (hu:A.units<cLine) (r:Rep X.K Any H v d) (ru:RelV v u) (r':Rep X.K Any H v' d') (ru':RelV v' u') (h:W8 d d'=true):
   RcAt A s u u' false/\RcNeAt A s u u' true:=by
 unfold W8 at h
 split at h
 · obtain ⟨a,xs,rfl,ha,_,rs⟩:=r.lstE;obtain ⟨a',xs',rfl,ha',_,rs'⟩:=r'.lstE;cases ru;cases ru';obtain ⟨its,rv,p,_⟩:=I.list (.of ha);obtain ⟨its',rv',p',_⟩:=I.list (.of ha')
   have e:(its.toArray.size !=its'.toArray.size)=true:=by
    rw [aah,aah,←rv.length,←rv'.length,rs.length,rs'.length];exact h
   exact ⟨aew p.isList p'.isList e hu,RcNeAt.lists_lengths p.isList p'.isList e hu⟩
 · cases h
def zG (hu:X.A.units+200<cLine):OpR X (abr .Eq) (rEqD X.K false):=by
 rintro pins s σ H x y v u Q I rx ry ⟨a,b,ra,rb,hc,q⟩;rcases hc with ⟨ha,hb,hd⟩|hc
 · exact (KG I (by omega) ra rx rb ry ha hb).1 X.prog X.w X.xe _ ⟨.bl _,H,I,rfl,q⟩
 · have q':Q (.bl false) H:=by have:=W6 hc;simpa [this] using q
   exact (W7 I (by omega) ra rx rb ry hc).1 X.prog X.w X.xe _ ⟨.bl _,H,I,rfl,q'⟩
def Zw (hu:X.A.units+200<cLine):OpR X (abr .NotEq) (rEqD X.K true):=by
 rintro pins s σ H x y v u Q I rx ry ⟨a,b,ra,rb,hc,q⟩;rcases hc with ⟨ha,hb,hd⟩|hc
 · exact (KG I (by omega) ra rx rb ry ha hb).2 X.prog X.w X.xe _ ⟨.bl _,H,I,rfl,q⟩
 · have q':Q (.bl true) H:=by have:=W6 hc;simpa [this] using q
   exact (W7 I (by omega) ra rx rb ry hc).2 X.prog X.w X.xe _ ⟨.bl _,H,I,rfl,q'⟩
def eqR (a b:D):Res D:=must (EqC a b) (.ok (.bl (eqD a b)))
def neR (a b:D):Res D:=must (EqC a b) (.ok (.bl (!eqD a b)))
def yH {K:aab}:OpS K (rEqD K false) eqR:=fun x y H a b d Q ra rb e q=>by
 obtain ⟨h1,e2⟩:=jq e;cases e2;exact ⟨a,b,ra,rb,h1,q _ (jhG _)⟩
def Uk {K:aab}:OpS K (rEqD K true) neR:=fun x y H a b d Q ra rb e q=>by
 obtain ⟨h1,e2⟩:=jq e;cases e2;exact ⟨a,b,ra,rb,h1,q _ (jhG _)⟩
def Room.u200 {k:Nat} {A:aaV} (r:Room k A):A.units+200<cLine:=by have:=r.un;omega
end
end M
namespace PySem
open Builtin
def wM:fillsNumberSlot (.type "tuple") "mul" =pure false:=
 fillsNumberSlot_seq adZ.lookup (by decide+kernel) F.slot_tuple_rmul.lookup (by decide+kernel)
def Jp:seqRepeat? (.type "tuple")=pure (some (.builtin "tuple.__mul__")):=by
 unfold seqRepeat?;rw [seqSlot_of (name:= "__mul__") adZ.lookup (by decide+kernel),seqSlot_of (name:= "__rmul__") F.slot_tuple_rmul.lookup (by decide+kernel)];rfl
def xH (a:Int) (t:Tok) (l:Addr) (items:Array Value) (n:Nat) (dd:Option Addr) (sl:Array (Option Value)):
  Meets (acF.«int.__rmul__» ⟨[.int a t,.ref l],[]⟩) (fun _ R s=>s.heap.get? l=some {cls:= .type "tuple",dict:=dd,data:= .seq items n,slots:=sl}/\R (.ok (.ret Value.notImplemented)) s):=
 .of_wp fun prog w A R s h=>by obtain ⟨hp,g,d,tk,os⟩:=s;obtain ⟨hl,h⟩:=h;wp_walk;exact ⟨_,rfl,h⟩
end PySem
namespace M
open PySem PySem.Spec L2
open PyProof.Rows hiding St
section
variable {X:Cx} {K:aab}
def WH {prog:aay} {w:World} {A:aaV} {E:Ud} {s:aaf} {t:Addr} {lo:Option Int} {Q:Ud} (ht:IsTup s.heap t items) (hs:s.heap.IsSliceOf sl vl vu .none) (pl:IsPart vl lo) (pu:IsPart vu hi)
  (hw:HT.sIx items.size 0 lo=0/\HT.sIx items.size items.size hi=items.size) (h:Q (.ref t) s):wpAny (model prog w) A (getItem (.ref t) (.ref sl)) Q E s:=by
 obtain ⟨os,hos,hcs,hds⟩:=id hs;have hTs:s.TypeIs (.ref sl) "slice" :=⟨os,hos,hcs⟩
 unfold getItem
 try with_reducible refine aa4 ?_
 first|refine aaa (aae ?_)|skip
 refine aaa (wpAny_sequenceKey ht.typeIs (by decide) ?_)
 refine aaa (abl ht.typeIs aa7
  (abD aa7 ht.typeIs entry_tuple_getitem ?_ (args_tuple_getitem _ _)))
 show wpAny _ _ (aer (.ref t)>>=_) _ _ s;refine aaa (aeI ht ?_);refine aaa (adP hTs ?_);rw [if_pos (by decide)];refine aaa (HT.sliceApplied_gen hs pl pu ?_)
 have hyes:(((HT.sIx items.size 0 lo:Nat):Int)==0&&(1:Int)==1&&(HT.sIx items.size items.size hi-HT.sIx items.size 0 lo)==items.size)=true:=by
  rw [hw.1,hw.2];simp
 show wpAny _ _ (if (((HT.sIx items.size 0 lo:Nat):Int)==0&&(1:Int)==1&&(HT.sIx items.size items.size hi-HT.sIx items.size 0 lo)==items.size)=true then _ else _) _ _ s;rw [if_pos hyes];unfold Builtin.Tuple.tupleIsExact;refine aaa (aaa (adP ht.typeIs (aae ?_)));rw [if_pos (by decide)]
 first
  |exact aaa (adl (aaa (aae (aae ⟨_,rfl,aae h⟩))))
  |exact aaa (adl (aae ⟨_,rfl,aae h⟩))
  |exact aaa (adl (aaa (aae ⟨_,rfl,aae h⟩)))
def rSlW (K:aab):V->Option Int->Option Int->Hp->VK->Prop:=fun x lo hi H Q=> ∃a xs,x= .ref a/\SqT K H a xs/\(HT.sIx xs.length 0 lo=0/\HT.sIx xs.length xs.length hi=xs.length)/\Q (.ref a) H
def sl_whole:SlR X (rSlW X.K):=by
 rintro pins s σ H x v vl vu lo hi sl Q I rx hs pl pu ⟨a,xs,ex,hx,hw,q⟩;subst ex;cases rx;obtain ⟨its,r,ht,hz⟩:=I.tuple hx;have hlen:its.toArray.size=xs.length:=by rw [aah];exact r.length.symm
 exact ⟨"tuple",_,aa7.lookup,ht.typeIs,WH ht hs pl pu (by rw [hlen];exact hw) ⟨.ref a,H,I,rfl,q⟩⟩
def cutS (z:Str) (lo hi:Option Int):Str:=
 if ((aaK lo hi 1 z.length).length==z.length)=true then z else ⟨((aaK lo hi 1 z.length).filterMap (z.cps[·]?)).toArray⟩
def VB (z:Str) (lo hi:Option Int):(cutS z lo hi).length<=z.length:=by
 unfold cutS
 split
 · exact aag _
 · show ((aaK lo hi 1 z.length).filterMap (z.cps[·]?)).toArray.size<=z.length;rw [aah];exact aaw (List.length_filterMap_le _ _) (PyProof.Rows.indices_len_le lo hi z.length)
def rSlS:V->Option Int->Option Int->Hp->VK->Prop:=fun x lo hi H Q=> ∃z,x= .str z/\z.length<=aak/\Q (.str (cutS z lo hi)) H
def kJ {v:Value} {o:Option Int} (h:IsPart v o): ∃p:Option (Int×Tok),v=partValue p/\p.map (·.1)=o:=by
 cases h with
 |none=>exact ⟨none,rfl,rfl⟩
 |int i t=>exact ⟨some (i,t),rfl,rfl⟩
def je8:SlR X rSlS:=by
 rintro pins s σ H x v vl vu lo hi sl Q I rx hs pl pu ⟨z,ex,hz,q⟩;subst ex;obtain ⟨t,rfl⟩:=rx;obtain ⟨l,rfl,el⟩:=kJ pl;obtain ⟨u,rfl,eu⟩:=kJ pu;refine ⟨"str",_,F.slot_str_getitem.lookup,typeIs_str s z t,wpAny_getItem_str_slice (st:=none) hs rfl ?_⟩;have hp:slicePicked z l u none=aaK lo hi 1 z.length:=by unfold slicePicked;rw [el,eu];rfl
 unfold sliceMade;rw [hp]
 by_cases hc:((aaK lo hi 1 z.length).length==z.length)=true
 · have e:cutS z lo hi=z:=by unfold cutS;rw [if_pos hc]
   rw [e] at q;rw [if_pos (by simpa using hc)];exact ⟨.str z,H,I,⟨t,rfl⟩,q⟩
 · have e:cutS z lo hi=⟨((aaK lo hi 1 z.length).filterMap (z.cps[·]?)).toArray⟩:=by unfold cutS;rw [if_neg hc]
   have hl:=VB z lo hi;rw [e] at q hl;rw [if_neg (by simpa using hc)];exact ⟨aaw hl hz,.str _,H,I.tok _,⟨_,rfl⟩,q⟩
def slD:D->Option Int->Option Int->Res D
 | .tup ds,lo,hi=>(.ok (.tup (cutD ds lo hi)))
 | .lst ds,lo,hi=>(.ok (.lst (cutD ds lo hi)))
 | .str z,lo,hi=> .ok (.str (cutS z lo hi))
 |_,_,_=> .stuck
def uP {lo:Option Int} (h1:HT.sIx ds.length 0 lo=0) (h2:HT.sIx ds.length ds.length hi=ds.length):cutD ds lo hi=ds:=by
 unfold cutD;rw [h1,h2];simp
def jcY {A:Ue} {x:V} {a:D} {lo:Option Int} {Q:VK} (r3:Rep X.K A H x a) (e4:slD a lo hi= .ok d) (q: ∀v H',Same H H'->Rep X.K (fun c=>H c=none\/A c) H' v d->NewTop H v->Q v H'):
  rSlT X.K x lo hi H Q\/rSlW X.K x lo hi H Q\/rSlL X.K x lo hi H Q\/rSlS x lo hi H Q:=by
 cases a with
 |tup ds=>
  cases e4;obtain ⟨b,xs,rfl,hb,rs⟩:=r3.tupE;have hl:=rs.length
  by_cases hw:HT.sIx xs.length 0 lo=0/\HT.sIx xs.length xs.length hi=xs.length
  · refine .inr (.inl ⟨b,xs,rfl,.of hb,hw,?_⟩);rw [hl] at hw;rw [uP hw.1 hw.2] at q;exact q _ H (Same.refl H) (.tup hb (rs.weak orA)) (UQ hb)
  · exact .inl ⟨b,xs,rfl,.of hb,hw,fun p hp=>q _ _ (Same.upd hp) (.tup ju (((Kg rs).weak orA).grow (Same.upd hp))) (qh (Same.refl H) hp)⟩
 |lst ds=>
  cases e4;obtain ⟨b,xs,rfl,hb,_,rs⟩:=r3.lstE;exact .inr (.inr (.inl ⟨b,xs,rfl,.of hb,fun p hp=>q _ _ (Same.upd hp) (.lst ju (.inl hp) (((Kg rs.low).laid hp).weak fun c z=>⟨.inr z.1,z.2⟩)) (qh (Same.refl H) hp)⟩))
 |str z=>
  cases e4;obtain ⟨rfl,hz⟩:=r3.strE;have hl:=aaw (VB z lo hi) hz;exact .inr (.inr (.inr ⟨z,rfl,hz,q _ H (Same.refl H) (.str _ hl) (jhX (jhW (K:=X.K) _ hl))⟩))
 |_=>cases e4
def wo {lo hi:Option Expr} {p2 pos:Pos} {f:TK} {fl fh:Sl->Res (Option Int)} (he:DE X .s e f) (hl:DO X lo fl) (hh:DO X hi fh):
   DE X .t (.Subscript e (.Slice lo hi none p2) pos) (zF f fl fh slD):=by
 with_unfolding_all exact (
  PE.imp (KN (sl_tup.or (sl_whole.or (sl_list.or je8))) he hl hh) fun σ H Q=>by
   rintro ⟨G,H0,env,d,k,ef,q⟩;obtain ⟨a,e1,ef⟩:=jd ef;obtain ⟨lo',e2,ef⟩:=jd ef;obtain ⟨hi',e3,e4⟩:=jd ef;refine ⟨G,H0,env,a,k,e1,fun x H1 s1 r1 _=>⟨G,H0,env,lo',k.grow s1,e2,fun H2 s2=>⟨G,H0,env,hi',(k.grow s1).grow s2,e3,fun H3 s3=>?_⟩⟩⟩;have sm:=s1.trans (s2.trans s3)
   exact jcY ((r1.grow s2).grow s3) e4 fun v H4 s4 r4 nt=>q v H4 (sm.trans s4) (r4.weak fun c z=>z.elim (fun z=>k.new c (Same.free sm z)) fun z=>z) (nt.grow sm))
def MtD (K:aab) (r:V->List V->Hp->VK->Prop) (g:D->List D->Res D):Prop:= ∀(x:V) (xs:List V) (H:Hp) (a:D) (ds:List D) (d:D) (Q:VK),Rep K Any H x a->Reps K Any H xs ds->g a ds= .ok d->(∀v,Sc K v d->Q v H)->r x xs H Q
def je5 {A:Ue} (r:Rep K A H v (.str z)):tyV K "str" v H:=by rw [r.strE.1];exact rfl
def smF (f:TK) (fa:TF) (g:Str->List D->Res D):Sl->Res D:=fun env=>f env>>=fun a=>match a with
 | .str z=>fa env>>=fun ds=>g z ds
 |_=> .stuck
def jhj {l1 l2 l':Lv} {o e:Expr} {es:List Expr} {name:Str} {apos cpos:Pos} {id:String} {r:V->List V->Hp->VK->Prop} {g:Str->List D->Res D} {f:TK} {fa:TF}
   (slot:PySem.Slot "str" name id) (hty:typeOf (.builtin id)=pure (.type "method_descriptor")) (hm:MtR X id r) (hr:MtD X.K r (fun a ds=>match a with| .str z=>g z ds|_=> .stuck)) (ho:DE X l1 o f) (ha:DA X l2 (e::es) fa)
   (hbase:ab7 o name X.env (eval o X.env)=eval o X.env:=by rfl)
   (hfew:((abo cpos (aai (e::es) X.env)).all (fun x=>!x.1)&&(acs cpos (abt [] X.env)).all (fun x=>x.1.isSome)
    &&decide ((e::es).length+([]:List acS).length+(if ([]:List acS).isEmpty then 0 else 1)<30))=true:=by exact JF rfl rfl)
   (hline:(apos.endLine==cpos.line)=true:=by rfl) (hs:T9 X e es:=by exact jk rfl) (hplain:T8 X cpos es:=by exact jz rfl):
   DE X l' (.Call (.Attribute o name apos) (e::es) [] cpos) (smF f fa g):=by
 with_unfolding_all exact (
  PE.imp (jaU PySem.F.plainAttrs_str slot hty hm ho ha hbase hfew hline hs hplain) fun σ H Q=>by
   rintro ⟨G,H0,env,d,k,ef,q⟩;obtain ⟨a,e1,e2⟩:=jd ef
   cases a with
   |str z=>
    obtain ⟨ds,e3,e4⟩:=jd e2;refine ⟨G,H0,env,_,k,e1,fun x H1 s1 r1 _=>⟨je5 r1,G,H0,env,ds,k.grow s1,e3,fun xs H2 s2 r2=>?_⟩⟩;exact hr x xs H2 (.str z) ds d Q ((r1.grow s2).weak Lv.weak_b) (r2.weak Lv.weak_b) e4 fun v sc=>q v H2 (s1.trans s2) (sc.1 _ _) sc.T
   |_=>cases e2)
def jdL:MtR X "str.find" (fun x xs H Q=> ∃z y,x= .str z/\xs=[.str y]/\Q (.int (Txt.find z y)) H):=by
 rintro pins s σ H x xs v us Q I rx rv ⟨z,y,ex,exs,q⟩;subst ex exs;obtain ⟨t,rfl⟩:=rx;obtain ⟨u,rfl,ru⟩:=Jj rv;obtain ⟨t',rfl⟩:=ru;exact SC.find ⟨.int _,H,I.tok _,⟨_,rfl⟩,q⟩
def jbq (z:Str):List D->Res D
 | [.str y]=> .ok (.int (Txt.find z y))
 |_=> .stuck
def jdM:MtD K (fun x xs H Q=> ∃z y,x= .str z/\xs=[.str y]/\Q (.int (Txt.find z y)) H) (fun a ds=>match a with| .str z=>jbq z ds|_=> .stuck):=by
 intro x xs H a ds d Q ra rs e q
 cases a with
 |str z=>
  dsimp only at e;unfold jbq at e
  split at e
  · cases e;obtain ⟨v,rfl,r1⟩:=rs.one;exact ⟨z,_,ra.strE.1,by rw [r1.strE.1],q _ (jhK _)⟩
  · cases e
 |_=>cases e
def cD:Sl->Res D:=fun _=> .ok (.dic [] [])
def yy:DE X .t (.Dict [] [] pos) cD:=by
 with_unfolding_all exact (PE.imp jaR fun σ H Q=>by
  rintro ⟨G,H0,env,d,k,ef,q⟩;cases ef
  exact fun p hp=>q _ _ (Same.upd hp) (.dic ju (k.new p hp) rfl rfl .nil) (qh (Same.refl H) hp))
end
end M
namespace PySem.AutoSeq1
open PySem Builtin
def tuple_mulG (l:Addr) (items:Array Value) (n:Nat) (dd:Option Addr) (sl:Array (Option Value)) (x:Int) (u:Tok) (h2:2<=x) (h3:x<1000000) (hne:items.isEmpty=false) (hsz:items.size*x.toNat<=aak)
  (hz:(List.foldl (fun x1 x2=>x1++x2) #[] (aaP x.toNat items)).size<=aak):
  Meets (acF.«tuple.__mul__» ⟨[.ref l,.int x u],[]⟩) (fun _ R s=>s.heap.get? l=some {cls:= .type "tuple",dict:=dd,data:= .seq items n,slots:=sl}/\
   R (.ok (.ret (aau s.heap.objs.size))) {s with heap:=s.heap.push {cls:=adG "tuple",data:=Data.seq (List.foldl (fun x1 x2=>x1++x2) #[] (aaP x.toNat items))}}):=
 .of_wp fun prog w A R s h=>by
  obtain ⟨hp,g,d,tk,os⟩:=s;obtain ⟨hl,h⟩:=h;have f1:=idx_int;have f2:=sub_tuple_tuple
  have hx:((items.size:Int)*x)=((items.size*x.toNat:Nat):Int):=by
   have:(x.toNat:Int)=x:=by omega
   rw [Int.natCast_mul,this]
  have hs:=ab4
  have c1: ¬(decide (x< -2^63)||decide (x>=2^63))=true:=by
   intro z;simp at z;omega
  have c2: ¬(items.isEmpty||x==1)=true:=by
   rw [hne];intro z;simp at z;omega
  have c3: ¬(decide (x<=0)||items.isEmpty)=true:=by
   rw [hne];intro z;simp at z;omega
  have c4: ¬((items.size:Int)*x>(2^63-1)/8):=by rw [hx];omega
  have c5: ¬Tuple.tupleTooMany ((items.size:Int)*x)=true:=by
   unfold Tuple.tupleTooMany;rw [hx];intro z;have:=of_decide_eq_true z;omega
  wp_walk using aeg hl
  rw [if_neg c1];refine aaa (aeI ⟨_,hl,rfl,n,rfl⟩ ?_);dsimp only;rw [if_neg c2];rw [if_neg c3];rw [if_neg c4];rw [if_neg c5]
  first
   |exact aaa (aa8 (aae ⟨_,rfl,h⟩) hz)
   |exact aaa (aa8 (aae h) hz)
   | (trace_state;exact aaa (aa8 (aaa (aae (aae h))) hz))
end PySem.AutoSeq1
namespace M
open PySem PySem.Spec L2
open PyProof.Rows hiding St
section
variable {X:Cx}
def jaH (K:aab):R2:=fun x y H Q=> ∃l k xs,x= .ref l/\y= .int k/\H l=some (.tup xs)/\2<=k/\k<1000000/\xs.isEmpty=false/\xs.length*k.toNat<=aak/\
 ∀p,H p=none->Q (.ref p) (upd H p (.tup (aaP k.toNat xs).flatten))
def op_repT:OpR X (abP .Mult) (jaH X.K):=by
 intro pins s σ H x y v u Q I rx ry h;obtain ⟨l,k,xs,rfl,rfl,hH,h1,h2,h3,hz,q⟩:=h;cases rx;obtain ⟨t,rfl⟩:=ry;obtain ⟨its,r,⟨ob,e,hc,n,hd⟩,z⟩:=I.tuple (.of hH);have hl:=r.length;obtain ⟨c2,dd2,dt2,sl2⟩:=ob;have hc':=hc;have hd':=hd;subst hc' hd'
 have hnew:List.foldl (fun x1 x2=>x1++x2) #[] (aaP k.toNat its.toArray)=(aaP k.toNat its).flatten.toArray:=by
  have:=XR its k.toNat [];rw [aek] at this;exact this
 have hne:its.toArray.isEmpty=false:=by
  cases r with
  |nil=>cases h3
  |cons _ _=>rfl
 have hlen:its.toArray.size*k.toNat<=aak:=by rw [aah,←hl];exact hz
 have hlen2:(aaP k.toNat its).flatten.length<=aak:=by rw [vt,Nat.mul_comm,←hl];exact hz
 refine wpAny_binaryOp_repeat_ref (by decide) ⟨_,e,rfl⟩ (fun s'=>typeIs_int s' k t) wM F.fills_int_mul ael Jp F.slot_int_index.lookup
  (adK ael (typeIs_int s k t) F.entry_int_rmul (F.args_int_rmul_2 _ _) (xH k t l its.toArray n dd2 sl2)
   ⟨e,rfl,⟨_,e,rfl⟩,adK adZ ⟨_,e,rfl⟩ F.entry_tuple_mul (F.args_tuple_mul_2 _ _) (AutoSeq1.tuple_mulG l its.toArray n dd2 sl2 k t h1 h2 hne hlen (by rw [hnew,aah];exact hlen2)) ⟨e,?_⟩⟩)
 rw [hnew];refine ⟨.ref s.heap.objs.size,_,I.laid (fun b ob q=>aac _ q) (aag _) ?_,rfl,q _ (I.hok.fresh (aag _))⟩;exact ⟨by rw [vt,Nat.mul_comm];exact hz,_,r.rep k.toNat,IsTup.new _ _⟩
def repT:D->D->Res D
 | .tup ds,.int k=>must (2<=k/\k<1000000/\ds.isEmpty=false/\ds.length*k.toNat<=aak) (.ok (.tup (aaP k.toNat ds).flatten))
 |_,_=> .stuck
def jdE {K:aab}:OpD K (jaH K) repT:=by
 intro A x y H a b d Q ra rb e q;unfold repT at e
 split at e
 · obtain ⟨⟨h2,h3,h4,h5⟩,e2⟩:=jq e;cases e2;cases rb.intE;obtain ⟨p,xs,rfl,hp,rs⟩:=ra.tupE;refine ⟨p,_,xs,rfl,rfl,hp,h2,h3,by rw [←rs.isEmpty];exact h4,by rw [rs.length];exact h5,fun p' hp'=>q _ _ (Same.upd hp') (.tup ju ?_) (qh (Same.refl H) hp')⟩;exact ((rs.rep _).weak orA).grow (Same.upd hp')
 · cases e
end
abbrev subI:D->D->Res D:=iOp Qi fun i j=> .int (i-j)
abbrev mulI:D->D->Res D:=iOp MulC fun i j=> .int (i*j)
abbrev divI:D->D->Res D:=iOp DivC fun i j=> .int (i/j)
abbrev modI:D->D->Res D:=iOp PosC fun i j=> .int (i%j)
abbrev powI:D->D->Res D:=iOp PowC fun i j=> .int (i^j.toNat)
abbrev ltI:D->D->Res D:=iOp Qi fun i j=> .bl (decide (i<j))
abbrev leI:D->D->Res D:=iOp Qi fun i j=> .bl (decide (i<=j))
abbrev gtI:D->D->Res D:=iOp Qi fun i j=> .bl (decide (j<i))
abbrev geI:D->D->Res D:=iOp Qi fun i j=> .bl (decide (j<=i))
structure Av (P:aay) (w:World) (K:aab) (mg:Yx) (base:Heap) (k:Nat) (x:Str) (ps:List Str) (fr:Bool) (F:TD):Prop where
 ex: ∃f fd,FnOk P w K mg base CX0 k f fd ps (spF K fr ps.length F)/\mg x=some (.ref f)/\aaZ K (.ref f)=true/\Binds K fd ps []
def Av.mono {K:aab} {k:Nat} {x:Str} {F:TD} (h:Av P w K mg base j x ps fr F) (hj:j<=k):Av P w K mg base k x ps fr F:=
 let ⟨f,fd,a,b⟩:=h.ex
 ⟨f,fd,a.mono hj,b⟩
section
variable {X:Cx} {k:Nat} {x:Str} {ps:List Str} {fr:Bool} {F:TD} {e:Expr} {es:List Expr} {p pos:Pos} {g:TF}
def Av.call (A:Av X.prog X.w X.K X.mg X.base k x ps fr F) (hr:Room k X.A) (ha:DA X .s (e::es) g) (hn:ps.length=n:=by rfl) (hg:Gl X x:=by rfl) (hdb:Z0 x:=by decide)
  (he:T9 X e es:=by exact jk rfl) (hpl:T8 X pos es:=by exact jz rfl):DE X .s (.Call (.Name x p) (e::es) [] pos) (jy n F g):=by
 subst hn;obtain ⟨f,fd,h1,h2,h3,h4⟩:=A.ex;exact jes h1 hr hg h2 h3 h4 Uh ha hdb he hpl
def Av.callT (A:Av X.prog X.w X.K X.mg X.base k x ps true F) (hr:Room k X.A) (ha:DA X .s (e::es) g) (hn:ps.length=n:=by rfl) (hg:Gl X x:=by rfl) (hdb:Z0 x:=by decide)
  (he:T9 X e es:=by exact jk rfl) (hpl:T8 X pos es:=by exact jz rfl):DE X .t (.Call (.Name x p) (e::es) [] pos) (jy n F g):=by
 subst hn;obtain ⟨f,fd,h1,h2,h3,h4⟩:=A.ex;exact jbL h1 hr hg h2 h3 h4 Uh ha hdb he hpl
def Av.callA (A:Av X.prog X.w X.K X.mg X.base k x ps fr F) (hr:Room k X.A) (ha:DA X .b (e::es) g) (hn:ps.length=n:=by rfl) (hg:Gl X x:=by rfl) (hdb:Z0 x:=by decide)
  (he:T9 X e es:=by exact jk rfl) (hpl:T8 X pos es:=by exact jz rfl):DE X .b (.Call (.Name x p) (e::es) [] pos) (jy n F g):=by
 subst hn;obtain ⟨f,fd,h1,h2,h3,h4⟩:=A.ex;exact jbM h1 hr hg h2 h3 h4 Uh ha hdb he hpl
end
def runF (fr:Bool) (n:Nat) (g:TH) (ds:List D):Res D:=match g (qC n ds) with
 | .ok (.rt fr' d)=>if fr=true/\fr'=false then .stuck else .ok d
 | .ok (.nx _)=> .ok .non
 |_=> .stuck
def JX (h:runF fr n g ds= .ok d):Meets fr n g ds d:=by
 unfold runF at h
 split at h
 · rename_i fr' d' e
   split at h
   · cases h
   · rename_i hn;cases h;refine .inl ⟨fr',e,fun hf=>?_⟩
     cases fr' with
     |true=>rfl
     |false=>exact absurd ⟨hf,rfl⟩ hn
 · rename_i env' e;cases h;exact .inr ⟨rfl,env',e⟩
 · cases h
section
variable {P:aay} {w:World} {K:aab} {mg:Yx} {base:Heap}
def jhp {x:Str} {st:Stmt} {k:Nat} (fr:Bool) {g:TH} (Fu:Fun K x x st f fd) (hmg:mg x=some (.ref f)) (S:FnScope N ps (jh st)) (hbi:Binds K fd ps [])
  (hb: ∀(cdv:Value) (A:aaV) (outer:List Env) (s:aaf) (H:Hp) (E:XK),Room k (A.deeper (ac4 x (jh st) s.heap.objs.size f cdv))->DSs (cxOf CX0 P w K mg base N x (jh st) f cdv A outer s H E).nox (jI st) g):
  Av P w K mg base (k+1) x ps fr (runF fr N.length g):=
 ⟨f,fd,jd8 Fu S hb fun ds d _ h=>JX h,hmg,Fu.kp,hbi⟩
def jeF {x:Str} {st:Stmt} {k:Nat} (fr:Bool) (Fu:Fun K x x st f fd) (hmg:mg x=some (.ref f)) (hbi:Binds K fd ps []):Av P w K mg base k x ps fr (fun _=> .stuck):=
 ⟨f,fd,⟨fun vs H Q E ⟨B,ds,d,hl,_⟩=>hl,fun A outer s H args us vs Q E _ _ _ _ ⟨B,ds,d,_,_,e,_⟩=>by cases e⟩,hmg,Fu.kp,hbi⟩
end
def UA {P:aay} {w:World} {K:aab} {mg:Yx} {base:Heap} {x:Str} {st:Stmt} {k:Nat} (fr:Bool) {g:TH} (Fu:Fun K x x st f fd) (S:FnScope N ps (jh st))
 (hb: ∀(cdv:Value) (A:aaV) (outer:List Env) (s:aaf) (H:Hp) (E:XK),Room k (A.deeper (ac4 x (jh st) s.heap.objs.size f cdv))->DSs (cxOf CX0 P w K mg base N x (jh st) f cdv A outer s H E).nox (jI st) g):
 FnOk P w K mg base CX0 (k+1) f fd ps (spF K fr ps.length (runF fr N.length g)):=jd8 Fu S hb fun ds d _ h=>JX h
def jgo {b:Expr} {p pos:Pos} (i:Nat) {x:Str} (hb:DE X l2 b f2) (hN:X.N[i]?=some x:=by rfl) (hv:Vis X.env.scope x:=by first|exact acg rfl|exact abA (acg rfl)|exact abA (abA rfl))
   (hd:Z0 x:=by decide) (hcd:Zh x:=by decide) (hs:WW b:=by intro _ _;rfl):DE X .s (.Subscript (.Name x p) b pos) (two (rdB i) f2 ixD):=by
 with_unfolding_all exact (
  PE.imp (jdo jcp (xu hN hv hd hcd) hb hs) fun σ H Q=>by
   rintro ⟨G,H0,env,d,k,ef,q⟩;obtain ⟨a',e1,ef⟩:=jd ef;obtain ⟨b',e2,e3⟩:=jd ef;rcases YB e1 with z|z
   · obtain ⟨v,h1,h2⟩:=k.shr i a' z;exact ⟨v,h1,G,H0,env,b',k,e2,fun y H2 s2 r2 _=>jfJ (h2.grow s2) (r2.weak Lv.weak_b) e3 fun v r3=>q v H2 s2 r3 trivial⟩
   · obtain ⟨v,h1,h0,h2⟩:=k.own i a' z;refine ⟨_,h1,G,H0,env,b',k,e2,fun y H2 s2 r2 _=>?_⟩;have h3:=(k.grow s2).own i a' z;obtain ⟨v2,g1,_,g2⟩:=h3;rw [h1] at g1;cases g1
     cases g2 with
     |lst e r=>
      cases b' with
      |int j=>
       cases (r2.weak Lv.weak_b).intE;unfold ixD at e3;dsimp only at e3
       cases e5:atI _ j with
       |none=>rw [e5] at e3;cases e3
       |some d'=>
        rw [e5] at e3;cases e3;obtain ⟨v',e6,r6⟩:=WU r e5;exact .inl ⟨_,_,j,v',rfl,rfl,.of e,e6,q v' H2 s2 r6 trivial⟩
      |_=>cases e3
     |dic e _ _ r=>cases b'<;>cases e3
     |dit e _ _ r=>cases b'<;>cases e3
     |obj e _ _ r=>cases b'<;>cases e3)
def Ye:aba "min" =some (.builtin "min"):=by decide+kernel
def yz:aba "list" =some (.type "list"):=by decide+kernel
def jhn (N0:List Str) (sc0 scope:Scope) (N:List Str) (m:Nat) (js:List Nat):Bool:=(aa5 js.length).all fun k=>match N[m+k]?,(js[k]?).bind (N0[·]?) with
 |some y,some y'=>y==y'&&(sc0.names.lookup y==some .cell||sc0.names.lookup y==some .free)&&scope.names.lookup y==some .free
 |_,_=>false
def scOk (z:Option Str) (N0:List Str) (sc0 scope:Scope) (cl:List (Str×Addr)) (N:List Str) (m:Nat) (js:List Nat):Bool:=
 (scope.names.all fun x=>x.2 != .local||scope.names.lookup x.1==some .local)&&(scope.names.all fun x=>x.2 != .cell||z==some x.1)&&(match z with
   |some y=>scope.names.lookup y==some .cell
   |none=>true)&&(scope.names.all fun y=>y.2 != .free||cl.any fun p=>p.1==y.1)&&
  jhn N0 sc0 scope N m js&&(match N[m+js.length]? with
   |some y=>scope.names.all fun p=>p.1 !=y
   |none=>true)&&N.length==m+js.length+1
def UH {y:Str} (h:(cl.any fun p=>p.1==y)=true): ∃c,cl.lookup y=some c:=by
 induction cl with
 |nil=>cases h
 |cons p r ih=>
  obtain ⟨n,c⟩:=p;rw [ad8,Bool.or_eq_true] at h;simp only [abx]
  cases e:y==n with
  |true=>exact ⟨c,rfl⟩
  |false=>
   rcases h with h|h
   · have:n=y:=by simpa using h
     subst this;simp at e
   · exact ih h
def AllC (cells:List (Str×Addr)):List (Str×Addr)->Prop
 | []=>True
 |p::r=>cells.lookup p.1=some p.2/\AllC cells r
theorem AllC.mem: ∀ {cl:List (Str×Addr)},AllC cells cl-> ∀p∈cl,cells.lookup p.1=some p.2
 |_::_,h,p,hp=>(aaG.mp hp).elim (fun e=>e▸h.1) (AllC.mem h.2 p)
def zC (z:Option Str) {m:Nat} {js:List Nat} (clos:closureFor scope X.env=pure cl) (kind:scope.kind= .function) (nd:N.Nodup) (cl2:AllC X.env.cells cl)
   (h:scOk z X.N X.env.scope scope cl N m js=true) (made: ∀n,cellsFrom (n+1) scope.names cl=clZ z cl n:=by intro _;rfl) (pushed: ∀h,pushCells h scope.names=jdc z h:=by intro _;rfl):CompSc z X scope cl N m js:=by
 simp only [scOk,aaD,abw,beq_iff_eq] at h;obtain ⟨⟨⟨⟨⟨⟨h1,h2⟩,h7⟩,h3⟩,h4⟩,h5⟩,h6⟩:=h;refine ⟨clos,kind,fun x hx e=>?_,fun y hy e=>?_,made,pushed,fun y e=>by rw [e] at h7;exact beq_iff_eq.mp h7,fun x c e=>cl2.mem (x,c) (abS e),fun y hy e=>?_,nd,h6,fun k j e=>?_,fun y e p hp=>?_⟩
 · have:=h1 x hx;rw [e] at this;simpa using this
 · have:=h2 y hy;rw [e] at this;simpa using this
 · have:=h3 y hy;rw [e] at this;exact UH (by simpa using this)
 · have hk:=(aav.mp e).1;have:=abw.mp h4 k (aaM.mpr hk);rw [e] at this;simp at this
   cases e1:N[m+k]? with
   |none=>rw [e1] at this;cases this
   |some y=>
    cases e2:X.N[j]? with
    |none=>rw [e1,e2] at this;cases this
    |some y'=>
     rw [e1,e2] at this;simp at this;obtain ⟨⟨g1,g2⟩,g3⟩:=this;subst g1;exact ⟨y,rfl,rfl,g2,g3⟩
 · rw [e] at h5;have:=abw.mp h5 p hp;simpa using this
end M
namespace M
open PySem PySem.Spec L2
def zg {body:D->Sl->Res Out} (h:body d env= .ok (.nx env')):forD body (d::ds) env=forD body ds env':=by
 show (body d env>>=_)=_;rw [h];rfl
theorem XQ {body:D->Sl->Res Out} (E:α->Sl) (step:α->D->α) (P:List D->α->Prop)
  (hb: ∀d ds a,P (d::ds) a->body d (E a)= .ok (.nx (E (step a d)))/\P ds (step a d)): ∀(ds:List D) (a:α),P ds a->forD body ds (E a)= .ok (.nx (E (ds.foldl step a)))
 | [],a,_=>rfl
 |d::ds,a,h=>by
  obtain ⟨h1,h2⟩:=hb d ds a h;rw [zg h1,XQ E step P hb ds _ h2];rfl
theorem X2 {n:Nat} {t:TC} {fe:TK} {E:D->List D->Sl} (h:D->D) (P:D->Prop)
  (hn: ∀x acc,ownL n (E x acc)= .ok acc) (hs: ∀x acc acc',(E x acc).set n (.own (.lst acc'))=E x acc')
  (ht: ∀x d acc,t d (E x acc)= .ok (E d acc)) (hf: ∀d acc,P d->fe (E d acc)= .ok (h d)):
  ∀(ds:List D) (x:D) (acc:List D),(∀d∈ds,P d)->acc.length+ds.length<=aak-> ∃y,wD n t qp fe ds (E x acc)= .ok (E y (acc++ds.map h))
 | [],x,acc,_,_=>⟨x,by simp [wD]⟩
 |d::ds,x,acc,hP,hl=>by
  simp at hl;obtain ⟨y,hy⟩:=X2 h P hn hs ht hf ds d (acc++[h d]) (fun e he=>hP e (by simp [he])) (by simp;omega);refine ⟨y,?_⟩
  have h1:wD n t qp fe (d::ds) (E x acc)=wD n t qp fe ds (E d (acc++[h d])):=by
   show (t d (E x acc)>>=_)=_;rw [ht];show (fe (E d acc)>>=_)=_;rw [hf d acc (hP d (by simp))];rw [hn];show must _ _=_;rw [jo (by omega),hs]
  rw [h1,hy];simp
def jhm {fe:TK} (h:D->D) (P:D->Prop) (hi:fi env= .ok ds) (hP: ∀d∈ds,P d) (hl:ds.length<=aak)
  (hf: ∀d acc,P d->fe [.shr d,.own (.lst acc)]= .ok (h d)):qQ false 1 [] fi (gN 0) qp fe env= .ok (.lst (ds.map h)):=by
 show (fi env>>=_)=_;rw [hi];show (wD 1 (gN 0) qp fe ds [.un,.own (.lst [])]>>=_)=_
 cases ds with
 |nil=>rfl
 |cons d ds=>
  simp at hl;obtain ⟨y,hy⟩:=X2 (n:=1) (t:=gN 0) h P (fun _ _=>rfl) (fun _ _ _=>rfl) (fun _ _ _=>rfl) hf ds d [h d] (fun e he=>hP e (by simp [he])) (by simp;omega)
  have h1:wD 1 (gN 0) qp fe (d::ds) [.un,.own (.lst [])]=wD 1 (gN 0) qp fe ds [.shr d,.own (.lst [h d])]:=by
   show (fe [.shr d,.own (.lst [])]>>=_)=_;rw [hf d [] (hP d (by simp))];exact jo (c:=([]:List D).length<aak) (by simp;omega)
  rw [h1,hy];rfl
variable {env env':Sl} {f f1 f2 f3:TK} {g g1 g2:TH} {t t1 t2:TJ} {fa:TF} {i:Nat} {d:D} {b:Bool}
@[simp] theorem JG {β:Type} {a:α} {f:α->Res β}:(Res.ok a>>=f)=f a:=rfl
@[simp] theorem jcC {β:Type} {c:Prop} [Decidable c] {a b:Res α} {f:α->Res β}:((if c then a else b)>>=f)=if c then a>>=f else b>>=f:=by split<;>rfl
def outK (g:TH):Out->Res Out
 | .nx e=>g e
 |o=> .ok o
@[simp] theorem kO:outK g (.nx env)=g env:=rfl
@[simp] theorem kN:outK g (.rt fr d)= .ok (.rt fr d):=rfl
@[simp] theorem Q5:seqO g1 g2 env=(g1 env>>=outK g2):=by
 show (g1 env>>=_)=_;congr 1;funext o;cases o<;>rfl
@[simp] theorem jec:setO i f env=(f env>>=fun d=> .ok (.nx (env.set i (Ua d)))):=rfl
@[simp] theorem Vl:jC i f env=(f env>>=fun d=> .ok (.nx (env.set i (.shr d)))):=rfl
@[simp] theorem Y2:retO f env=(f env>>=fun d=> .ok (.rt true d)):=rfl
@[simp] theorem jed:retS f env=(f env>>=fun d=> .ok (.rt false d)):=rfl
@[simp] theorem jcB:nxO env= .ok (.nx env):=rfl
@[simp] theorem Vn:ifO t g1 g2 env=(t env>>=fun b=>if b=true then g1 env else g2 env):=rfl
@[simp] theorem uv:andB t1 t2 env=(t1 env>>=fun b=>if b=true then t2 env else .ok false):=rfl
@[simp] theorem XS:orB t1 t2 env=(t1 env>>=fun b=>if b=true then .ok true else t2 env):=rfl
@[simp] theorem Y3:notB t env=(t env>>=fun b=> .ok (!b)):=rfl
def asBD:D->Res Bool
 | .bl b=> .ok b
 |_=> .stuck
@[simp] theorem jal:asBD (.bl b)= .ok b:=rfl
@[simp] theorem ur:asB f env=(f env>>=asBD):=rfl
@[simp] theorem ul {h:D->D->Res D}:two f1 f2 h env=(f1 env>>=fun x=>f2 env>>=fun y=>h x y):=rfl
@[simp] theorem jge {j:Int}:cI j env= .ok (.int j):=rfl
@[simp] theorem jgf:cB b env= .ok (.bl b):=rfl
@[simp] theorem WJ:jc f fa env=(f env>>=fun d=>fa env>>=fun ds=> .ok (d::ds)):=rfl
@[simp] theorem um:nil1 env= .ok []:=rfl
@[simp] theorem ut {h:TD}:app fa h env=(fa env>>=h):=rfl
@[simp] theorem jbt {F:TD}:jy n F fa env=(fa env>>=fun ds=>must (ds.length=n) (F ds)):=rfl
@[simp] theorem jeb:tupF fa env=(fa env>>=fun ds=>must (ds.length<=aak) (.ok (.tup ds))):=rfl
@[simp] theorem jee:lstF fa env=(fa env>>=fun ds=>must (ds.length<=aak) (.ok (.lst ds))):=rfl
@[simp] theorem WI {T:String}:isiF T f env=(f env>>=isiD T):=rfl
@[simp] theorem uq:ifD t f1 f2 env=(t env>>=fun b=>if b=true then f1 env else f2 env):=rfl
@[simp] theorem uo:itF f env=(f env>>=jbf):=rfl
@[simp] theorem Y4:forO fi tt g env=(fi env>>=fun ds=>forD (qo tt g) ds env):=rfl
@[simp] theorem jbs {fl fh:Sl->Res (Option Int)} {h:D->Option Int->Option Int->Res D}:zF f fl fh h env=(f env>>=fun a=>fl env>>=fun lo=>fh env>>=fun hi=>h a lo hi):=rfl
@[simp] theorem jbr:yG f env=(f env>>=asI):=rfl
@[simp] theorem jcA:rdS i env=match env[i]? with|some (.shr d)=> .ok d|_=> .stuck:=rfl
def toK (g:Res D) (w:Bool):D->Res D
 | .bl b=>if b=w then g else .ok (.bl b)
 |_=> .stuck
@[simp] theorem jgd {w:Bool}:toB f1 f2 w env=(f1 env>>=toK (f2 env) w):=by
 show (f1 env>>=_)=_;congr 1
def chK (f:Res D) (g':D->D->Res D) (y:D):D->Res D
 | .bl true=>f>>=fun w=>g' y w
 | .bl false=> .ok (.bl false)
 |_=> .stuck
@[simp] theorem jcM {r:Res D} {h:D->D->Res D} {y:D}:chK r h y (.bl b)=if b=true then r>>=fun w=>h y w else .ok (.bl false):=by cases b<;>rfl
@[simp] theorem Vo {h h':D->D->Res D}:yI f1 f2 f3 h h' env=(f1 env>>=fun x=>f2 env>>=fun y=>h x y>>=chK (f3 env) h' y):=by
 show (f1 env>>=_)=_;congr 1
@[simp] theorem jcD {C:Int->Int->Prop} [∀i j,Decidable (C i j)] {h:Int->Int->D} {m n:Int}:iOp C h (.int m) (.int n)=if C m n then .ok (h m n) else .stuck:=rfl
def runK (fr:Bool):Out->Res D
 | .rt fr' d=>if fr=true/\fr'=false then .stuck else .ok d
 | .nx _=> .ok .non
 |_=> .stuck
def Vm {o:Out} (h:g (qC n ds)= .ok o):runF fr n g ds=runK fr o:=by
 unfold runF;rw [h];cases o<;>rfl
def kids:D->List D
 | .tup (_::r)=>r
 |_=>[]
mutual
def num:D->Nat
 | .tup (_::r)=>1+nums r
 |_=>1
def nums:List D->Nat
 | []=>0
 |d::r=>num d+nums r
end
mutual
def hgt:D->Nat
 | .tup (_::r)=>1+hgts r
 |_=>1
def hgts:List D->Nat
 | []=>0
 |d::r=>max (hgt d) (hgts r)
end
mutual
def pts:D->List D
 | .tup (x::r)=> .tup (x::r)::ptss r
 |d=>[d]
def ptss:List D->List D
 | []=>[]
 |d::r=>pts d++ptss r
end
def jdI:D->Bool| .scr _=>false| .exn _=>false| .fdc _ _=>false| .hdc _ _=>false| .obj _ _ _=>false|_=>true
mutual
def fine:D->Bool
 | .scr _=>false
 | .exn _=>false
 | .fdc _ _=>false
 | .hdc _ _=>false
 | .obj _ _ _=>false
 | .tup ds=>decide (ds.length<=11)&&fines ds
 |_=>true
def fines:List D->Bool
 | []=>true
 |d::r=>fine d&&fines r
end
def jfN (d:D):num d=1+nums (kids d):=by
 cases d with
 |tup ds=>cases ds<;>simp [num,kids,nums]
 |_=>simp [num,kids,nums]
def jct (d:D):hgt d=1+hgts (kids d):=by
 cases d with
 |tup ds=>cases ds<;>simp [hgt,kids,hgts]
 |_=>simp [hgt,kids,hgts]
def jfo (d:D):pts d=d::ptss (kids d):=by
 cases d with
 |tup ds=>cases ds<;>simp [pts,kids,ptss]
 |_=>simp [pts,kids,ptss]
def Wt (a b:List D):nums (a++b)=nums a+nums b:=by
 induction a with
 |nil=>simp [nums]
 |cons d r ih=>simp [nums,ih];omega
def jbp (h:fine d=true):jdI d=true:=by
 cases d<;>first|rfl| (simp [fine] at h)
theorem Vk: ∀ {ds:List D},(∀d∈ds,fine d=true)->fines ds=true
 | [],_=>rfl
 |x::r,h=>by simp only [fines,aaD];exact ⟨h x (by simp),Vk fun d hd=>h d (by simp [hd])⟩
def uk (h:fine d=true):fines (kids d)=true/\(kids d).length<=10:=by
 cases d with
 |tup ds=>
  cases ds with
  |nil=>exact ⟨rfl,by simp [kids]⟩
  |cons x r=>
   simp only [fine,fines,aaD,decide_eq_true_eq,aaL] at h;exact ⟨h.2.2,by simp only [kids];omega⟩
 |_=>exact ⟨rfl,by simp [kids]⟩
def jd0 (d:D):1<=hgt d:=by rw [jct];omega
mutual
theorem YC: ∀d:D,(pts d).length=num d
 | .tup (x::r)=>by simp [pts,num,ptss_len r];omega
 | .tup []=>by simp [pts,num]
 | .non=>by simp [pts,num]
 | .bl _=>by simp [pts,num]
 | .int _=>by simp [pts,num]
 | .str _=>by simp [pts,num]
 | .lst _=>by simp [pts,num]
 | .scr _=>by simp [pts,num]
 | .dic _ _=>by simp [pts,num]
 | .dit _ _=>by simp [pts,num]
 | .exn _=>by simp [pts,num]
 | .fdc _ _=>by simp [pts,num]
 | .hdc _ _=>by simp [pts,num]
 | .obj _ _ _=>by simp [pts,num]
theorem ptss_len: ∀ds:List D,(ptss ds).length=nums ds
 | []=>rfl
 |d::r=>by simp [ptss,nums,YC d,ptss_len r]
end
def atI_nat {xs:List α} {k:Nat}:atI xs (k:Int)=xs[k]?:=by
 unfold atI ixN
 by_cases h:k<xs.length
 · rw [if_pos (by omega),if_pos (by omega)];simp
 · rw [if_pos (by omega),if_neg (by omega)];simp;omega
def ix0 {x:D} {r:List D}:ixD (.tup (x::r)) (.int 0)= .ok x:=by
 have:=atI_nat (xs:=x::r) (k:=0);simp only [ixD];rw [show ((0:Int))=((0:Nat):Int) from rfl,this];rfl
section
variable {env env':Sl} {f f1 f2 f3:TK} {g g1 g2:TH} {t t1 t2:TJ} {fa:TF} {i:Nat} {d x y z:D} {b:Bool} {ds:List D}
def je {h:D->D->Res D} (h1:f1 env= .ok x) (h2:f2 env= .ok y) (h3:h x y= .ok z):two f1 f2 h env= .ok z:=by rw [ul,h1,JG,h2,JG,h3]
def jt (h:f env= .ok d):jC i f env= .ok (.nx (env.set i (.shr d))):=by rw [Vl,h];rfl
def jc0 (h:f env= .ok d):setO i f env= .ok (.nx (env.set i (Ua d))):=by rw [jec,h];rfl
def j3 (h:f env= .ok d):retO f env= .ok (.rt true d):=by rw [Y2,h];rfl
def Z4 (h:f env= .ok d):retS f env= .ok (.rt false d):=by rw [jed,h];rfl
def ji (h:g1 env= .ok (.nx env')):seqO g1 g2 env=g2 env':=by rw [Q5,h];rfl
def Jm (h:g1 env= .ok (.rt fr d)):seqO g1 g2 env= .ok (.rt fr d):=by rw [Q5,h];rfl
def if_t (h:t env= .ok true):ifO t g1 g2 env=g1 env:=by rw [Vn,h];rfl
def if_f (h:t env= .ok false):ifO t g1 g2 env=g2 env:=by rw [Vn,h];rfl
def jb (h1:f env= .ok d) (h2:fa env= .ok ds):jc f fa env= .ok (d::ds):=by rw [WJ,h1,JG,h2];rfl
def jY {h:TD} (h1:fa env= .ok ds) (h2:h ds= .ok d):app fa h env= .ok d:=by rw [ut,h1,JG,h2]
def jw {F:TD} (h1:fa env= .ok ds) (hn:ds.length=n) (h2:F ds= .ok d):jy n F fa env= .ok d:=by rw [jbt,h1,JG,jo hn,h2]
def qR (h1:fa env= .ok ds) (hn:ds.length<=aak):tupF fa env= .ok (.tup ds):=by rw [jeb,h1,JG,jo hn]
def wg (h1:fa env= .ok ds) (hn:ds.length<=aak):lstF fa env= .ok (.lst ds):=by rw [jee,h1,JG,jo hn]
def jx (h:f env= .ok (.bl b)):asB f env= .ok b:=by rw [ur,h];rfl
def YM (h1:t1 env= .ok b) (h2:t2 env= .ok b2):orB t1 t2 env= .ok (b||b2):=by rw [XS,h1,JG,h2];cases b<;>rfl
def qr (h1:t1 env= .ok b):notB t1 env= .ok (!b):=by rw [Y3,h1];rfl
def zZ (h1:ownL i env= .ok ds) (h2:f env= .ok d) (h3:ds.length<aak):qx i f env= .ok (.nx (env.set i (.own (.lst (ds++[d]))))):=by
 show (ownL i env>>=_)=_;rw [h1];rw [h2];exact jo h3
def wc {fl fh:Sl->Res (Option Int)} {h:D->Option Int->Option Int->Res D} {lo:Option Int} (h1:f env= .ok x) (h2:fl env= .ok lo) (h3:fh env= .ok hi) (h4:h x lo hi= .ok z):zF f fl fh h env= .ok z:=by
 rw [jbs,h1,JG,h2,JG,h3,JG,h4]
def zH {j:Int} (h:f env= .ok (.int j)):yG f env= .ok (some j):=by rw [jbr,h];rfl
def zw (h:fi env= .ok ds):forO fi tt g env=forD (qo tt g) ds env:=by rw [Y4,h];rfl
def zr (h:f env= .ok d) (h2:jbf d= .ok ds):itF f env= .ok ds:=by rw [uo,h,JG,h2]
def ZN (h:f env= .ok d) (hd:d.imm=true):chk f env= .ok d:=by
 show (f env>>=_)=_;rw [h];exact jo hd
def jgW {h:Str->List D->Res D} (h1:f env= .ok (.str zz)) (h2:fa env= .ok ds) (h3:h zz ds= .ok d):smF f fa h env= .ok d:=by
 show (f env>>=_)=_;rw [h1];rw [h2];exact h3
end
def XI {C:Int->Int->Prop} [∀i j,Decidable (C i j)] {g:Int->Int->D} {i j:Int} (h:C i j):iOp C g (.int i) (.int j)= .ok (g i j):=if_pos h
def Jq {i j:Int} (h:PowC i j):powI (.int i) (.int j)= .ok (.int (i^j.toNat)):=XI h
def Zx {i j:Int} (h:MulC i j):mulI (.int i) (.int j)= .ok (.int (i*j)):=XI h
def zp {i j:Int} (h:0<j):modI (.int i) (.int j)= .ok (.int (i%j)):=XI h
def uG {i j:Int} (h:0<j/\j<1073741824):divI (.int i) (.int j)= .ok (.int (i/j)):=XI h
def qm {t:TC} {env':Sl} (h:t d env= .ok env'):qo t g d env=g env':=by
 show (t d env>>=g)=_;rw [h];rfl
def zP (h:g (qC n ds)= .ok (.rt true d)):runF fr n g ds= .ok d:=by rw [Vm h];simp [runK]
def kj (h:g (qC n ds)= .ok (.rt false d)):runF false n g ds= .ok d:=by rw [Vm h];simp [runK]
def xc {j:Int} (h:fa env= .ok [.int j]) (hb: -(2^62)<=j/\j<2^62):rngF fa env= .ok (q0 0 j.toNat):=by
 show (fa env>>=rng1)=_;rw [h];exact jo hb
def Kj {a b:List D} (h1:a.isEmpty=false) (h2:a.length+b.length<=aak):addD (.tup a) (.tup b)= .ok (.tup (a++b)):=jo ⟨h1,h2⟩
def jeM {a b:List D} (h2:a.length+b.length<=aak):addD (.lst a) (.lst b)= .ok (.lst (a++b)):=jo h2
def y6 {a b:Int}:eqR (.int a) (.int b)= .ok (.bl (a==b)):=by
 unfold eqR;rw [jo (by left;simp [D.eqb,D.dep])];simp [eqD]
theorem xj {body:D->Sl->Res Out} (I:List D->Sl->Prop)
  (hb: ∀d ds env,I (d::ds) env-> ∃env',body d env= .ok (.nx env')/\I ds env'): ∀(ds:List D) (env:Sl),I ds env-> ∃env',forD body ds env= .ok (.nx env')/\I [] env'
 | [],env,h=>⟨env,rfl,h⟩
 |d::ds,env,h=>by
  obtain ⟨e1,h1,h2⟩:=hb d ds env h;obtain ⟨e2,h3,h4⟩:=xj I hb ds e1 h2;exact ⟨e2,by rw [zg h1,h3],h4⟩
def ZF (lo:Int) (n:Nat):q0 lo (n+1)= .int lo::q0 (lo+1) n:=by
 unfold q0;rw [List.range_succ_eq_map,aaB,abb];congr 1
 · simp
 · apply aem;intro i _;simp only [Function.comp_apply];congr 1;omega
def Xv {lo:Int} (h:d∈q0 lo n): ∃k:Int,d= .int k/\lo<=k/\k<lo+n:=by
 unfold q0 at h;obtain ⟨i,hi,e⟩:=aat.mp h;have:=aaM.mp hi;exact ⟨_,e.symm,by omega,by omega⟩
def zt (lo:Int) (n:Nat):(q0 lo n).length=n:=by simp [q0]
def jaj {xs:List α} {i:Int} (h0:0<=i) (h1:i<xs.length): ∃x,atI xs i=some x/\x∈xs:=by
 obtain ⟨k,rfl⟩:=adx h0;have hk:k<xs.length:=by omega
 exact ⟨xs[k],by rw [M.atI_nat];exact aad hk,aa9 hk⟩
def ixS {z:Str} {i:Int} (h0:0<=i) (h1:i<z.length): ∃c,ixD (.str z) (.int i)= .ok (.str ⟨#[c]⟩):=by
 obtain ⟨c,hc,_⟩:=jaj (xs:=z.cps.toList) h0 (by simpa [Str.length] using h1);exact ⟨c,by simp only [ixD];rw [hc]⟩
def ixL {ds:List D} {i:Int} (h0:0<=i) (h1:i<ds.length): ∃d,ixD (.lst ds) (.int i)= .ok d/\d∈ds:=by
 obtain ⟨c,hc,hm⟩:=jaj h0 h1;exact ⟨c,by simp only [ixD];rw [hc],hm⟩
open Builtin.Int (intBits)
theorem WE {k:Nat}: ∀ {ds:List D},(∀d∈ds,hgt d<=k)->hgts ds<=k
 | [],_=>by simp [hgts]
 |d::ds,h=>by
  simp only [hgts];have:=h d (by simp);have:=WE (ds:=ds) fun e he=>h e (by simp [he])
  omega
theorem WD: ∀ {ds:List D} {d:D},d∈ds->hgt d<=hgts ds
 |x::r,d,h=>by
  simp only [hgts];rcases aaG.mp h with rfl|h
  · omega
  · have:=WD h;omega
end M
namespace M
open PySem PySem.Spec L2
open PyProof.Rows hiding St
def keyD:D->Option Key
 | .int i=>some (.inl i)
 | .str x=>some (.inr x)
 |_=>none
def hasK (ks:List Key) (k:Key):Bool:=ks.any fun x=>decide (x=k)
def valD (ks:List Key) (ds:List D) (k:Key):Option D:=((ks.zip ds).find? fun p=>decide (p.1=k)).map (·.2)
def Z6 (ks:List Key) (k:Key):List Key:=if hasK ks k=true then ks else ks++[k]
def Z7 (ks:List Key) (ds:List D) (k:Key) (d:D):List D:=if hasK ks k=true then (ks.zip ds).map (fun p=>if p.1=k then d else p.2) else ds++[d]
section
variable {K:aab} {A:Ue} {H:Hp}
def Wz {k:Key} (r:Rep K A H y d) (h:keyD d=some k):y=kV k:=by
 cases r with
 |int i=>cases h;rfl
 |str x _=>cases h;rfl
 |_=>cases h
theorem Z5: ∀ {kvs:List (Key×V)} {ds:List D} (k:Key),Reps K A H (kvs.map (·.2)) ds->(∀d,valD (kvs.map (·.1)) ds k=some d-> ∃v,valV kvs k=some v/\Rep K A H v d)/\(valD (kvs.map (·.1)) ds k=none->valV kvs k=none)
 | [],ds,k,r=>⟨fun d h=>by simp [valD] at h,fun _=>rfl⟩
 | (k',v)::kvs,ds,k,r=>by
  cases r with
  | @cons _ _ _ d' _ ds' r1 r2=>
   have ih:=Z5 k r2
   by_cases hk:k'=k
   · subst hk;have e1:valD ((((k',v)::kvs)).map (·.1)) (d'::ds') k'=some d':=by simp [valD]
     have e2:valV ((k',v)::kvs) k'=some v:=by simp [valV]
     rw [e1,e2];exact ⟨fun d h=>by cases h;exact ⟨v,rfl,r1⟩,fun h=>by cases h⟩
   · have e1:valD ((((k',v)::kvs)).map (·.1)) (d'::ds') k=valD (kvs.map (·.1)) ds' k:=by simp [valD,hk]
     have e2:valV ((k',v)::kvs) k=valV kvs k:=by simp [valV,hk]
     rw [e1,e2];exact ih
def jeK (kvs:List (Key×V)) (k:Key):(kvs.any fun kv=>decide (kv.1=k))=hasK (kvs.map (·.1)) k:=by
 unfold hasK;rw [afa];rfl
theorem KC (k:Key) (rv:Rep K A H v d): ∀ {kvs:List (Key×V)} {ds:List D},Reps K A H (kvs.map (·.2)) ds->Reps K A H ((kvs.map (fun kv=>if kv.1=k then (kv.1,v) else kv)).map (·.2)) (((kvs.map (·.1)).zip ds).map (fun p=>if p.1=k then d else p.2))
 | [],_,.nil=> .nil
 | (k',v')::kvs,_,.cons r1 r2=>by
  have ih:=KC k rv r2
  by_cases hk:k'=k
  · simp only [aaB,ab3,hk,if_true];exact .cons rv (by simpa [hk] using ih)
  · simp only [aaB,ab3,hk,if_false];exact .cons r1 ih
def jc5 {kvs:List (Key×V)} (k:Key) (r:Reps K A H (kvs.map (·.2)) ds) (rv:Rep K A H v d):
   (putK kvs k v).map (·.1)=Z6 (kvs.map (·.1)) k/\Reps K A H ((putK kvs k v).map (·.2)) (Z7 (kvs.map (·.1)) ds k d):=by
 unfold putK Z6 Z7;rw [jeK]
 by_cases h:hasK (kvs.map (·.1)) k=true
 · rw [if_pos h,if_pos h,if_pos h];refine ⟨?_,KC k rv r⟩;rw [abb];apply aem;intro p _;simp
   split<;>rfl
 · rw [if_neg h,if_neg h,if_neg h];refine ⟨by simp,?_⟩;rw [aa3];exact r.append (.cons rv .nil)
def Rep.dicE (r:Rep K A H v (.dic ks ds)): ∃a kvs,v= .ref a/\H a=some (.dK kvs)/\A a/\kvs.map (·.1)=ks/\Reps K (fun c=>A c/\c≠a) H (kvs.map (·.2)) ds:=by
 cases r with
 |dic e a k1 k2 r=>subst k2;exact ⟨_,_,rfl,e,a,k1,r⟩
end
def KO {K:aab} {G:Ue} (k:EnvOk K G H0 env σ H) (hi:env[i]?=some (.own (.dic ks ds))): ∃a kvs,σ[i]?=some (some (.ref a))/\H a=some (.dK kvs)/\kvs.map (·.1)=ks/\Reps K (Sf G env σ) H (kvs.map (·.2)) ds:=by
 obtain ⟨a,h1,h0,h2⟩:=k.own i _ hi
 cases h2 with
 |dic e k1 k2 r=>subst k2;exact ⟨a,_,h1,e,k1,r⟩
def ownK (i:Nat) (env:Sl):Res (List Key×List D):=match env[i]? with
 |some (.own (.dic ks ds))=> .ok (ks,ds)
 |_=> .stuck
def jaW {p:List Key×List D} (h:ownK i env= .ok p):env[i]?=some (.own (.dic p.1 p.2)):=by
 unfold ownK at h
 split at h
 · cases h;assumption
 · cases h
def EnvOk.putD {K:aab} {G:Ue} {kvs:List (Key×V)} {v:V} {d:D} {kk:Key} (k:EnvOk K G H0 env σ H) (hi:env[i]?=some (.own (.dic ks ds))) (ha:σ[i]?=some (some (.ref a))) (hx:H a=some (.dK kvs)) (hk:kvs.map (·.1)=ks)
  (r:Reps K (Sf G env σ) H (kvs.map (·.2)) ds) (rv:Rep K (Sf G env σ) H v d):EnvOk K G H0 (env.set i (.own (.dic (Z6 ks kk) (Z7 ks ds kk d)))) σ (upd H a (.dK (putK kvs kk v)))/\Frm env σ H (env.set i (.own (.dic (Z6 ks kk) (Z7 ks ds kk d)))) σ (upd H a (.dK (putK kvs kk v))):=by
 subst hk;obtain ⟨p1,p2⟩:=jc5 kk r rv;exact k.writeG hi ha hx trivial fun A' H' st e w=> .dic e p1 rfl (p2.stay st w)
section
variable {X:Cx} {K:aab}
variable {a b:Expr} {f1 f2:TK} {l2:Lv} {pos p:Pos}
def lenK:List D->Res D
 | [.dic ks _]=> .ok (.int ks.length)
 |_=> .stuck
def uU:Yk K (fun xs H Q=> ∃a kvs,xs=[V.ref a]/\H a=some (.dK kvs)/\Q (.int kvs.length) H) lenK:=by
 intro xs H ds d Q r e q;unfold lenK at e
 split at e
 · cases e;obtain ⟨v,rfl,r1⟩:=r.one;obtain ⟨p,kvs,rfl,hp,_,rfl,_⟩:=r1.dicE;exact ⟨p,kvs,rfl,hp,by rw [←aaj];exact q _ (jhK _)⟩
 · cases e
def jg2:V->List V->Hp->VK->Prop:=fun x xs H Q=> ∃a kvs k z,x= .ref a/\xs=[kV k,z]/\H a=some (.dK kvs)/\Q ((valV kvs k).getD z) H
def jdK (hu:X.A.units+1<cLine):MtR X "dict.get" jg2:=by
 intro pins s σ H x xs v us Q I rx rs h;obtain ⟨a,kvs,k,z,rfl,rfl,ha,q⟩:=h;obtain rfl:v=aau a:=rx
 obtain ⟨u1,u2,rfl,r1,r2⟩: ∃u1 u2,us=[u1,u2]/\RelV (kV k) u1/\RelV z u2:=by
  cases rs with
  |cons h1 t=>cases t with|cons h2 t=>cases t;exact ⟨_,_,rfl,h1,h2⟩
 exact jgp hu I (DGet.k ha) r1 r2 fun w' s' I' rw'=>⟨_,H,I',rw',q⟩
def get2:D->List D->Res D
 | .dic ks ds,[kd,z]=>match keyD kd with
  |some k=> .ok ((valD ks ds k).getD z)
  |none=> .stuck
 |_,_=> .stuck
def uf (f f1 f2:TK):Sl->Res D:=fun env=>f env>>=fun a=>f1 env>>=fun kd=>f2 env>>=fun z=>get2 a [kd,z]
def uL {o:Expr} {f fz:TK} {apos cpos:Pos} (hu:X.A.units+1<cLine) (ho:DE X .s o f) (h1:DE X l1 e1 fk) (h2:DE X .s e2 fz)
   (hbase:ab7 o "get" X.env (eval o X.env)=eval o X.env:=by rfl)
   (hfew:((abo cpos (aai [e1,e2] X.env)).all (fun x=>!x.1)&&(acs cpos (abt [] X.env)).all (fun x=>x.1.isSome)
    &&decide ([e1,e2].length+([]:List acS).length+(if ([]:List acS).isEmpty then 0 else 1)<30))=true:=by exact JF rfl rfl)
   (hline:(apos.endLine==cpos.line)=true:=by rfl) (hs:aai [e1,e2] X.env=(false,eval e1 X.env)::aai [e2] X.env:=by exact jk rfl) (hplain:(abo cpos (aai [e2] X.env)).any (·.1)=false:=by exact jz rfl)
   (hs2:aai [e2] X.env=(false,eval e2 X.env)::aai [] X.env:=by exact jk rfl):
   DE X .s (.Call (.Attribute o "get" apos) [e1,e2] [] cpos) (uf f fk fz):=by
 with_unfolding_all exact (
  PE.imp (jaU PySem.F.plainAttrs_dict adR PySem.F.type_dict_get (jdK hu) ho (qg h1 (qg h2 wJ hs2) hs) hbase hfew hline hs hplain) fun σ H Q=>by
   rintro ⟨G,H0,env,d,k,ef,q⟩;obtain ⟨a',e1,ef⟩:=jd ef;obtain ⟨kd,e2,ef⟩:=jd ef;obtain ⟨z,e3,e4⟩:=jd ef
   cases a' with
   |dic ks ds=>
    unfold get2 at e4;dsimp only at e4
    cases hkk:keyD kd with
    |none=>rw [hkk] at e4;cases e4
    |some kk=>
     rw [hkk] at e4;cases e4;refine ⟨G,H0,env,_,k,e1,fun x H1 s1 r1 _=>?_⟩;obtain ⟨p,kvs,rfl,hp,_,rfl,r⟩:=r1.dicE;refine ⟨.inr (.inr (.inl ⟨rfl,.inl ⟨kvs,hp⟩⟩)),G,H0,env,_,k.grow s1,e2,fun y H2 s2 r2 _=>⟨G,H0,env,_,(k.grow s1).grow s2,e3,fun w H3 s3 r3 _=>?_⟩⟩;have hp3:=s3 _ _ (s2 _ _ hp);refine ⟨p,kvs,kk,w,rfl,by rw [Wz (r2.weak Lv.weak_b) hkk],hp3,?_⟩;have rr:=((r.low.grow s2).grow s3)
     cases hval:valD (kvs.map (·.1)) ds kk with
     |none=>
      rw [(Z5 kk rr).2 hval];exact q _ H3 ((s1.trans s2).trans s3) (by rw [hval];exact r3) trivial
     |some d'=>
      obtain ⟨v,g1,g2⟩:=(Z5 kk rr).1 _ hval;rw [g1];exact q _ H3 ((s1.trans s2).trans s3) (by rw [hval];exact g2) trivial
   |_=>cases e4)
end
section
variable {X:Cx} {K:aab} {l1 l2:Lv} {e1 e2:Expr} {fk fv:TK} {pos cpos apos p:Pos} {x:Str}
def uE (i:Nat) (fk fv:TK):Sl->Res Out:=fun env=>ownK i env>>=fun q=>fv env>>=fun d=>fk env>>=fun kd=>match keyD kd with
 |some k=>must (q.1.length<aak) (.ok (.nx (env.set i (.own (.dic (Z6 q.1 k) (Z7 q.1 q.2 k d))))))
 |none=> .stuck
def jej (i:Nat) (hu:X.A.units+1<cLine) (hk:DE X l1 e1 fk) (hv:DE X .s e2 fv) (hN:X.N[i]?=some x:=by rfl) (hvs:Vis X.env.scope x:=by first|exact acg rfl|exact abA (acg rfl)|exact abA (abA rfl))
   (hd:Z0 x:=by decide) (hcd:Zh x:=by decide)
   (hs:acq e2 (some (.Subscript (.Name x p) e1 apos)) pos.line X.env=pure false:=by rfl):
   DS X (.Assign [.Subscript (.Name x p) e1 apos] e2 pos) (uE i fk fv):=by
 with_unfolding_all exact (
  PS.imp (kB hu (xu hN hvs hd hcd) hk hv hs) fun E σ H=>by
   rintro ⟨G,H0,env,o,k,ef,q⟩;obtain ⟨ks,c1,ef⟩:=jd ef;obtain ⟨d,c2,ef⟩:=jd ef;obtain ⟨kd,c3,c4⟩:=jd ef;have hi:=jaW c1;obtain ⟨a,kvs,ha,hx,hkk,rs⟩:=KO k hi
   cases hkey:keyD kd with
   |none=>rw [hkey] at c4;cases c4
   |some kk=>
    rw [hkey] at c4;obtain ⟨hz,c5⟩:=jq c4;cases c5;refine ⟨G,H0,env,d,k,c2,fun v H1 s1 r1 _=>⟨.ref a,ha,G,H0,env,kd,k.grow s1,c3,fun y H2 s2 r2 _=>?_⟩⟩;have hx2:=s2 _ _ (s1 _ _ hx);have hy:=Wz (r2.weak Lv.weak_b) hkey;subst hy;have hl:kvs.length<aak:=by rw [←hkk,aaj] at hz;exact hz
    refine ⟨a,_,rfl,DPut.k hx2 hl,?_⟩;have W:=((k.grow s1).grow s2).putD (kk:=kk) hi ha hx2 hkk ((rs.grow s1).grow s2) (r1.grow s2)
    exact q σ _ W.1 ((W.2.grow s2).grow s1))
end
end M
namespace M
open PySem PySem.W PyProof.Rows
def Wk (lt:Nat->Nat->Bool) (n:Nat) (R:α->Prop):KasT α->Prop
 | .ret a=>R a
 | .ask i j k=>i<n/\j<n/\Wk lt n R (k (lt i j))
theorem Wk.bind {β:Type} {lt:Nat->Nat->Bool} {R:α->Prop} {R':β->Prop} {f:α->KasT β} (hf: ∀a,R a->Wk lt n R' (f a)): ∀ {t:KasT α},Wk lt n R t->Wk lt n R' (t.bind f)
 | .ret a,h=>hf a h
 | .ask i j k,h=>⟨h.1,h.2.1,Wk.bind hf h.2.2⟩
theorem Wk.imp {lt:Nat->Nat->Bool} {R R':α->Prop} (hr: ∀a,R a->R' a): ∀ {t:KasT α},Wk lt n R t->Wk lt n R' t
 | .ret a,h=>hr a h
 | .ask i j k,h=>⟨h.1,h.2.1,Wk.imp hr h.2.2⟩
theorem jco {lt:Nat->Nat->Bool} {n:Nat} {R:α->Prop} {Q:α->aaf->Prop} {P:aaf->Prop} {cmp:Nat->Nat->(Bool->aaf->Prop)->aaf->Prop}
  (hc: ∀i j C s,i<n->j<n->P s->(∀s',P s'->C (lt i j) s')->cmp i j C s) (hQ: ∀a s,R a->P s->Q a s): ∀(t:KasT α) (s:aaf),Wk lt n R t->P s->t.kasWp cmp Q s
 | .ret a,s,h,hs=>hQ a s h hs
 | .ask i j k,s,h,hs=>hc i j _ s h.1 h.2.1 hs fun s' hs'=>jco hc hQ _ s' h.2.2 hs'
structure Ord (lt:Nat->Nat->Bool) (n:Nat):Prop where
 asym: ∀i j,lt i j=true->lt j i=false
 trans: ∀i j k,i<n->j<n->k<n->lt i j=true->lt j k=true->lt i k=true
 total: ∀i j,i<n->j<n->i≠j->lt i j=true\/lt j i=true
abbrev at0 (p:Array Nat) (i:Nat):Nat:=p.getD i 0
structure Pm (p:Array Nat) (n:Nat):Prop where
 size:p.size=n
 perm:p.toList.Perm (aa5 n)
def Je (h:i<p.size):p[i]?=some (at0 p i):=by
 rw [aaA h];simp [at0,aeN,h]
def Pm.lt (h:Pm p n) (hi:i<n):at0 p i<n:=by
 have hi':i<p.size:=by rw [h.size];exact hi
 have:at0 p i∈p.toList:=by simp [at0,aeN,hi']
 exact aaM.mp (h.perm.mem_iff.mp this)
def Pm.ne (h:Pm p n) (hi:i<n) (hj:j<n) (hij:i≠j):at0 p i≠at0 p j:=by
 have nd:=h.perm.nodup_iff.mpr adg;have hi':i<p.toList.length:=by simp [h.size,hi]
 have hj':j<p.toList.length:=by simp [h.size,hj]
 intro e;have e1:at0 p i=p.toList[i]:=by simp [at0,aeN,h.size,hi]
 have e2:at0 p j=p.toList[j]:=by simp [at0,aeN,h.size,hj]
 rw [e1,e2] at e;have pw:=abY.mp nd;rcases Nat.lt_or_gt_of_ne hij with z|z
 · exact pw i j hi' hj' z e
 · exact pw j i hj' hi' z e.symm
def Pm.of {q:Array Nat} (h:Pm p n) (hs:q.size=p.size) (hp:q.Perm p):Pm q n:=⟨by rw [hs,h.size],(Array.perm_iff_toList_perm.mp hp).trans h.perm⟩
def Pm.rev (h:Pm p n) (i j:Nat):Pm (kas_rev p i j) n:=h.of (mirror_size _ _ _ _) (mirror_perm _ _ _ _)
def jak {k:Nat} (h:Pm p n) (hj:j<=n) (hk:k<n):at0 (kas_rev p 0 j) k=if k<j then at0 p (j-1-k) else at0 p k:=by
 have hR:=h.rev 0 j;have e:=getElem?_mirror_all (i:=0) (by rw [h.size];exact hj) k;have e1:=Je (by rw [hR.size];exact hk);unfold kas_rev at e1;rw [e] at e1;simp only [abe,true_and,Nat.zero_add] at e1
 split at e1
 · rename_i hkj;rw [if_pos hkj];rw [Je (by rw [h.size];omega)] at e1;exact (aaH e1).symm
 · rename_i hkj;rw [if_neg hkj];rw [Je (by rw [h.size];exact hk)] at e1;exact (aaH e1).symm
section
variable {lt:Nat->Nat->Bool} {n:Nat} (O:Ord lt n)
def Up (lt:Nat->Nat->Bool) (p:Array Nat) (k:Nat):Prop:= ∀i j,i<j->j<k->lt (at0 p i) (at0 p j)=true
def Down (lt:Nat->Nat->Bool) (p:Array Nat) (k:Nat):Prop:= ∀i j,i<j->j<k->lt (at0 p j) (at0 p i)=true
include O
theorem Up.snoc {k:Nat} (hp:Pm p n) (hk:k+1<n) (h:Up lt p (k+1)) (hl:lt (at0 p k) (at0 p (k+1))=true):Up lt p (k+2):=fun i j hij hj=>by
 by_cases e:j=k+1
 · subst e
   by_cases e2:i=k
   · subst e2;exact hl
   · exact O.trans _ _ _ (hp.lt (by omega)) (hp.lt (by omega)) (hp.lt hk) (h i k (by omega) (by omega)) hl
 · exact h i j hij (by omega)
theorem Down.snoc {k:Nat} (hp:Pm p n) (hk:k+1<n) (h:Down lt p (k+1)) (hl:lt (at0 p (k+1)) (at0 p k)=true):Down lt p (k+2):=fun i j hij hj=>by
 by_cases e:j=k+1
 · subst e
   by_cases e2:i=k
   · subst e2;exact hl
   · exact O.trans _ _ _ (hp.lt hk) (hp.lt (by omega)) (hp.lt (by omega)) hl (h i k (by omega) (by omega))
 · exact h i j hij (by omega)
theorem jeR (hp:Pm p n) (hi:i<n) (hj:j<n) (hij:i≠j) (h:lt (at0 p i) (at0 p j)=false):lt (at0 p j) (at0 p i)=true:=by
 rcases O.total _ _ (hp.lt hi) (hp.lt hj) (hp.ne hi hj hij) with z|z
 · rw [h] at z;cases z
 · exact z
theorem jeI (hp:Pm p n): ∀(f m:Nat),1<=m->m+f=n->Up lt p m->Wk lt n (fun r=>m<=r/\r<=n/\Up lt p r/\(r<n->lt (at0 p r) (at0 p (r-1))=true)) (kas_asc p f m)
 |0,m,h1,h2,h=>⟨aag _,by omega,h,fun z=>by omega⟩
 |f+1,m,h1,h2,h=>by
  refine ⟨hp.lt (by omega),hp.lt (by omega),?_⟩
  cases hc:lt (p.getD m 0) (p.getD (m-1) 0) with
  |true=>
   exact ⟨aag _,by omega,h,fun _=>hc⟩
  |false=>
   have hup:Up lt p (m+1):=by
    have e:m=(m-1)+1:=by omega
    have hl:=jeR O hp (by omega) (by omega) (by omega) hc;rw [e] at h ⊢;exact Up.snoc O hp (by omega) h (by rw [←e];exact hl)
   have ih:=jeI hp f (m+1) (by omega) (by omega) hup;exact Wk.imp (fun r ⟨a,b,c,d⟩=>⟨by omega,b,c,d⟩) ih
theorem jcG (hp:Pm p n): ∀(f m:Nat),1<=m->m+f=n->Down lt p m->Wk lt n (fun r=>r.1=p/\m<=r.2.1/\r.2.1<=n/\Down lt p r.2.1/\r.2.2=0) (kas_desc f p m 0)
 |0,m,h1,h2,h=>⟨rfl,aag _,(show m<=n by omega),h,rfl⟩
 |f+1,m,h1,h2,h=>by
  refine ⟨hp.lt (by omega),hp.lt (by omega),?_⟩
  cases hc:lt (p.getD m 0) (p.getD (m-1) 0) with
  |true=>
   have hdn:Down lt p (m+1):=by
    have e:m=(m-1)+1:=by omega
    have hl:=hc;rw [e] at h ⊢;exact Down.snoc O hp (by omega) h (by rw [←e];exact hl)
   have ih:=jcG hp f (m+1) (by omega) (by omega) hdn;exact Wk.imp (fun r ⟨a,b,c,d,e⟩=>⟨a,by omega,c,d,e⟩) ih
  |false=>
   have hl:=jeR O hp (by omega) (by omega) (by omega) hc;refine ⟨hp.lt (by omega),hp.lt (by omega),?_⟩;show Wk lt n _ (if lt (at0 p (m-1)) (at0 p m)=true then _ else _);rw [if_pos hl];exact ⟨rfl,aag _,(show m<=n by omega),h,rfl⟩
theorem Down.rev {k:Nat} (hp:Pm p n) (hk:k<=n) (h:Down lt p k):Up lt (kas_rev p 0 k) k:=fun i j hij hj=>by
 rw [jak hp hk (by omega),jak hp hk (by omega),if_pos (by omega),if_pos hj];exact h _ _ (by omega) (by omega)
theorem jeZ {k:Nat} (hp:Pm p n) (h1:1<=k) (hk:k<=n) (h:Down lt p k):Wk lt n (fun r=>1<=r.1/\r.1<=n/\Pm r.2 n/\Up lt r.2 r.1) (kas_tail3 k n p):=by
 unfold kas_tail3;refine Wk.bind (fun r ⟨a,b,c,_⟩=>?_) (jeI O (hp.rev 0 k) (n-k) k h1 (by omega) (Down.rev O hp hk h));exact ⟨by omega,b,hp.rev 0 k,c⟩
theorem jex (hp:Pm p n) (hn:1<=n):Wk lt n (fun r=>1<=r.1/\r.1<=n/\Pm r.2 n/\Up lt r.2 r.1) (kas_count n p):=by
 unfold kas_count;refine Wk.bind (fun r ⟨a,b,c,d⟩=>?_) (jeI O hp (n-1) 1 (aag _) (by omega) (fun i j hij hj=>by omega))
 by_cases e:r=n
 · subst e;rw [if_pos (by simp)];exact ⟨a,b,hp,c⟩
 · rw [if_neg (by simpa using e)]
   by_cases h1:r>1
   · rw [if_pos h1];refine ⟨hp.lt (by omega),hp.lt (by omega),?_⟩;have:lt (p.getD 0 0) (p.getD (r-1) 0)=true:=c 0 (r-1) (by omega) (by omega);show Wk lt n _ (if lt (p.getD 0 0) (p.getD (r-1) 0)=true then _ else _);rw [if_pos this];exact ⟨a,b,hp,c⟩
   · rw [if_neg h1];have hr:r=1:=by omega
     subst hr;unfold kas_descPart
     have hd:Down lt p 2:=fun i j hij hj=>by
      have:i=0/\j=1:=by omega
      obtain ⟨rfl,rfl⟩:=this;exact d (by omega)
     refine Wk.bind (fun q ⟨q1,q2,q3,q4,q5⟩=>?_) (jcG O hp (n-2) 2 (by omega) (by omega) hd);rw [if_neg (by omega),q1];exact jeZ O hp (by omega) q3 q4
theorem YG {k:Nat} (hp:Pm p n) (hk:k<n) (hu:Up lt p k): ∀(f l r:Nat),l<=r->r<=k->r-l<=f->(∀i,i<l->lt (at0 p i) (at0 p k)=true)->(∀i,r<=i->i<k->lt (at0 p k) (at0 p i)=true)->
  Wk lt n (fun m=>m<=k/\(∀i,i<m->lt (at0 p i) (at0 p k)=true)/\ ∀i,m<=i->i<k->lt (at0 p k) (at0 p i)=true) (kas_place p k f l r)
 |0,l,r,h1,h2,h3,hl,hr=>⟨by omega,hl,fun i a b=>hr i (by omega) b⟩
 |f+1,l,r,h1,h2,h3,hl,hr=>by
  unfold kas_place
  by_cases e:l>=r
  · rw [if_pos e];exact ⟨by omega,hl,fun i a b=>hr i (by omega) b⟩
  · rw [if_neg e];have hm:(l+r)/2<r:=by omega
    refine ⟨hp.lt hk,hp.lt (by omega),?_⟩
    cases hc:lt (p.getD k 0) (p.getD ((l+r)/2) 0) with
    |true=>
     refine YG hp hk hu f l ((l+r)/2) (by omega) (by omega) (by omega) hl fun i a b=>?_
     by_cases e2:i=(l+r)/2
     · rw [e2];exact hc
     · exact O.trans _ _ _ (hp.lt hk) (hp.lt (show (l+r)/2<n by omega)) (hp.lt (by omega)) hc (hu _ _ (by omega) b)
    |false=>
     have hl2:=jeR O hp hk (by omega) (by omega) hc;refine YG hp hk hu f ((l+r)/2+1) r (by omega) h2 (by omega) (fun i a=>?_) hr
     by_cases e2:i=(l+r)/2
     · rw [e2];exact hl2
     · exact O.trans _ _ _ (hp.lt (by omega)) (hp.lt (show (l+r)/2<n by omega)) (hp.lt hk) (hu _ _ (by omega) (by omega)) hl2
theorem ZR {k l:Nat} (hp:Pm p n) (hk:k<n) (hl:l<=k) (hi:i<n):at0 (bubble p k (k-l)) i=if i=l then at0 p k else if l<i/\i<=k then at0 p (i-1) else at0 p i:=by
 have hB:Pm (bubble p k (k-l)) n:=hp.of (bubble_size _ _ _) (bubble_perm _ _ _);have e:=getElem?_bubble (by rw [hp.size];exact hk) (k-l) (by omega) i;rw [Je (by rw [hB.size];exact hi)] at e;have ekl:k-(k-l)=l:=by omega
 rw [ekl] at e
 split at e
 · rename_i z;rw [if_pos z];rw [Je (by rw [hp.size];exact hk)] at e;exact aaH e
 · rename_i z;rw [if_neg z]
   split at e
   · rename_i z2;rw [if_pos z2];rw [Je (by rw [hp.size];omega)] at e;exact aaH e
   · rename_i z2;rw [if_neg z2];rw [Je (by rw [hp.size];exact hi)] at e;exact aaH e
theorem jgt : ∀ (f : Nat) (p : Array Nat) (k : Nat), Pm p n -> k + f = n -> Up lt p k -> Wk lt n (fun q => Pm q n /\ Up lt q n) (kas_bin f p k)
  | 0, p, k, hp, hk, h => ⟨hp, by have : k = n := by omega
                                  rw [this] at h; exact h⟩
  | f + 1, p, k, hp, hk, h => by
    unfold kas_bin
    refine Wk.bind (fun l ⟨a, b, c⟩ => ?_) (YG O hp (by omega) h k 0 k (by omega) (aag _) (by omega) (fun i z => by omega) (fun i z w => by omega))
    refine jgt f _ (k + 1) (hp.of (bubble_size _ _ _) (bubble_perm _ _ _)) (by omega) fun i j hij hj => ?_
    rw [ZR O hp (by omega) a (by omega), ZR O hp (by omega) a (by omega)]
    by_cases e1 : i = l
    · rw [if_pos e1, if_neg (by omega), if_pos (by omega)]
      exact c _ (by omega) (by omega)
    · rw [if_neg e1]
      by_cases e2 : l < i /\ i <= k
      · rw [if_pos e2, if_neg (by omega), if_pos (by omega)]
        exact h _ _ (by omega) (by omega)
      · rw [if_neg e2]
        by_cases e3 : j = l
        · rw [if_pos e3]; exact b _ (by omega)
        · rw [if_neg e3]
          by_cases e4 : l < j /\ j <= k
          · rw [if_pos e4]
            by_cases e5 : i = j - 1
            · omega
            · exact h _ _ (by omega) (by omega)
          · rw [if_neg e4]; exact h _ _ hij (by omega)
theorem je7 (hn:1<=n):Wk lt n (fun q=>Pm q n/\Up lt q n) (kas_sort n):=by
 have hp:Pm (adm (aa5 n)) n:=⟨by simp,by simp⟩
 unfold kas_sort;refine Wk.bind (fun r ⟨a,b,c,d⟩=>?_) (jex O hp hn)
 by_cases e:r.1<n
 · rw [if_pos e];have:max r.1 1=r.1:=by omega
   rw [this];exact jgt O _ _ _ c (by omega) d
 · rw [if_neg e];have:r.1=n:=by omega
   rw [this] at d;exact ⟨c,d⟩
end
section
variable {prog:aay} {w:World} {A:aaV} {E:Ud} {s:aaf} {a:Addr} {vs:List Value} {n:Nat}
def zN (h:Heap) (a:Addr) (vs:List Value):Heap:=((h.update a (acN fun _=>(#[]:Array Value))).push (ady "tuple" vs.toArray 0)).push (ady "list" #[] 0)
def YK (vs:List Value) (p:Array Nat):List Value:=p.toList.map fun i=>vs.getD i abN
def JT {b:Addr} (hb:b≠a) (e:h.get? b=some o):(zN h a vs).get? b=some o:=
 aac _ (aac _ ((acj _ _ (adh hb)).trans e))
def Wx {P:PySem.Fin->aaf->Prop} {lt:Nat->Nat->Bool} (O:Ord lt vs.length) (κ:SortKind) (ho:s.heap.get? a=some (ady "list" vs.toArray n)) (h2:2<=vs.length) (h64:vs.length<64)
  (hk: ∀Q:SortKind->aaf->Prop,Q κ {s with heap:=zN s.heap a vs}->wpAny (model prog w) A (keyKind' vs.toArray) Q (fun _ _=>False) {s with heap:=zN s.heap a vs})
  (hc: ∀i j C,i<vs.length->j<vs.length->C (lt i j) {s with heap:=zN s.heap a vs}->kas_ask prog w A κ vs i j C {s with heap:=zN s.heap a vs})
  (h: ∀p h' c,Pm p vs.length->Up lt p vs.length->(∀b o,b≠a->s.heap.get? b=some o->h'.get? b=some o)->h'.get? a=some (ady "list" (adm (YK vs p)) c)->P (.done (.ret .none)) {s with heap:=h'}):
  wpAny (model prog w) A (acF.«list.sort» ⟨[.ref a],[]⟩) P E s:=by
 obtain ⟨c1,b1⟩: ∃c1,(s.heap.update a (acN fun _=>(#[]:Array Value))).get? a=some (ady "list" #[] c1):=⟨_,aen ho fun _=> #[]⟩
 have b2:(zN s.heap a vs).get? a=some (ady "list" #[] c1):=aac _ (aac _ b1);have big:vs.length<=aak:=by rw [ab4];omega
 have walk:(kas_sort vs.length).kasWp (kas_ask prog w A κ vs) (fun p t=>t={s with heap:=zN s.heap a vs}/\Pm p vs.length/\Up lt p vs.length) {s with heap:=zN s.heap a vs}:=
  jco (P:=fun t=>t={s with heap:=zN s.heap a vs}) (fun i j C t hi hj ht hC=>by subst ht;exact hc i j C hi hj (hC _ rfl)) (fun p t hp ht=>⟨ht,hp⟩) _ _ (je7 O (by omega)) rfl
 rw [list_sort_plain];refine aaa (listItems_at ho rfl (aaa (listUpdate_at ho rfl (aaa (seqEpoch_at b1 rfl (aaa (wpAny_newTuple (aaa (wpAny_newList (aa4 ?_) (abe _))) (by show vs.length<=aak;exact big))))) (by rw [aah];exact big) (abe _))));dsimp only;have small: ¬vs.toArray.size<2:=by rw [aah];omega
 rw [if_neg small,if_neg small];refine aaa (acn (hk (fun κ' t=>κ'=κ/\t={s with heap:=zN s.heap a vs}) ⟨rfl,rfl⟩) (fun κ' t hkt=>?_) fun _ _ z=>z.elim);obtain ⟨rfl,rfl⟩:=hkt;refine aaa (acn (kat_run (Q:=fun st t=> ∃p:Array Nat,p.size=vs.length/\arrOf st=p.map (kas_item (vs.toArray.zip vs.toArray))/\failedOf st=none/\t={s with heap:=zN s.heap a vs}/\Pm p vs.length/\Up lt p vs.length) rfl h2 h64 (fun p st t z1 z2 z3 z4=>⟨p,z1,z2,z3,z4⟩) walk) ?_ fun _ _ z=>z);rintro ⟨⟨⟩,st⟩ t ⟨p,hp,har,hf,rfl,hpm,hup⟩;dsimp only;have hsz:(adm (YK vs p)).size<=aak:=by rw [aah];unfold YK;rw [aaj,aaI,hp];exact big
 rw [kat_snds rfl har];obtain ⟨c2,hc2⟩: ∃c2,((zN s.heap a vs).update a (acN fun _=>adm (YK vs p))).get? a=some (ady "list" (adm (YK vs p)) c2):=⟨_,aen b2 fun _=>adm (YK vs p)⟩
 refine aaa (seqEpoch_at b2 rfl (aaa (listUpdate_at b2 rfl ?_ (abe _) (aeO hsz))));rw [hf];simp;exact aae (h p _ c2 hpm hup (fun b o hb e=>(acj _ _ (adh hb)).trans (JT hb e)) hc2)
end
def DAt (h:Heap) (d:Addr) (ks:List Value) (ep:Nat):Prop:= ∃o es,h.get? d=some o/\o.ExactDict/\o.data= .dict es ep/\es.toList.map (·.key)=ks
section
variable {prog:aay} {w:World} {A:aaV} {E:Ud} {s:aaf} {d it:Addr} {ks:List Value} {ep i:Nat}
def DAt.typeIs (x:DAt s.heap d ks ep):s.TypeIs (.ref d) "dict" :=let ⟨o,es,ho,hc,_⟩:=x;⟨o,ho,hc.1⟩
def DAt.at (x:DAt h d ks ep) (e: ∀o,h.get? d=some o->h'.get? d=some o):DAt h' d ks ep:=let ⟨o,es,ho,r⟩:=x;⟨o,es,e _ ho,r⟩
def DAt.lt (x:DAt h d ks ep):d<h.objs.size:=let ⟨_,_,ho,_⟩:=x;aar ho
def jbN {Q:Ud} (hd:(d==acz)=false) (hm:DAt s.heap d ks ep)
  (hQ:Q (.ref s.heap.objs.size) {s with heap:=s.heap.push {cls:= .type "dict_keyiterator",data:= .fields #[.ref d,.int 0 0,.int ks.length 0,.int ep 0]}}):wpAny (model prog w) A (pyIter (.ref d)) Q E s:=by
 obtain ⟨o,es,ho,hc,hdat,hkeys⟩:=id hm;have T:=hm.typeIs;have hsz:es.size=ks.length:=by rw [←hkeys];simp
 refine wpAny_pyIter_slot T PySem.F.slot_dict_iter (abD PySem.F.slot_dict_iter T PySem.F.entry_dict_iter ?_ (PySem.F.args_dict_iter_1 _));unfold acF.«dict.__iter__» Builtin.Dict.dictSlotNone;refine aaa (aaa (wpAny_notOrdered_dict T (show wpAny _ _ (pure (aau d)) _ _ s from aae ?_)));show wpAny _ _ (afb d>>=_) _ _ s;unfold afb;rw [if_neg (by rw [hd];exact aaN)];refine aaa (aae (aaa (wpAny_dictEntries ho hdat (aaa (wpAny_dictEpoch ho hdat (aaa (aa8 (aae ⟨_,rfl, "dict_keyiterator",_,⟨_,aao _ rfl,rfl⟩,abm.lookup,?_⟩))))))));simpa [rawInt,hsz] using hQ
def jbO {Q:Option Value->aaf->Prop} {k:Value} (hit:s.heap.IsKeyIter it d i ks.length ep) (hm:DAt s.heap d ks ep) (hx:ks[i]?=some k)
  (hQ: ∀h',h'.IsKeyIter it d (i+1) ks.length ep->ab8 it s.heap h'->Q (some k) {s with heap:=h'}):wpAny (model prog w) A (pyNext (.ref it)) Q E s:=by
 obtain ⟨o,ho,hc,hf⟩:=id hit;obtain ⟨od,es,hod,hcd,hdd,hkeys⟩:=id hm;have hsz:es.size=ks.length:=by rw [←hkeys];simp
 have hlt:i<es.size:=by
  rw [hsz];rcases Nat.lt_or_ge i ks.length with z|z
  · exact z
  · rw [abu z] at hx;cases hx
 have hk:es[i].key=k:=by
  have:(es.toList.map (·.key))[i]?=some k:=by rw [hkeys];exact hx
  rw [aaE] at this;simpa [hlt] using this
 unfold pyNext;refine aaa (adz (abl hit.typeIs abm (abD abm hit.typeIs adi ?_ (ac9 _))));refine aaa (aae (aaa (aaa ?_)))
 first|refine aaa (ab5 hit.typeIs (aae (aaa (aeD ho hf ?_))))|refine aaa (acG hit.typeIs (aae (aaa (aeD ho hf ?_))))
 simp only [show aea "dict_keyiterator" =false by decide,abd,if_false];show wpAny _ _ (if (aau d==abN)=true then _ else _) _ _ s;rw [if_neg (show¬((aau d==abN)=true) by exact aaN)];refine aaa (aae (aaa (wpAny_dictEntries hod hdd ?_)));rw [if_neg (by rw [hsz];simp)];refine aaa (aae (aaa (wpAny_dictEpoch hod hdd ?_)));rw [if_neg (by simp)];refine aae ?_;simp only [show¬((i:Int)<0) by omega,if_false,acC,aaA hlt];refine aaa ?_
 first|refine aaa (ab5 hit.typeIs (aae (aaa (adS hit.typeIs ?_))))|refine aaa (acG hit.typeIs (aae (aaa (adS hit.typeIs ?_))))
 show wpAny _ _ (setField (.ref it) 1 (rawInt ((i:Int)+1))>>=_) _ _ s;refine aaa (aeE ho hf (by simp) (aaa (aa4 ?_)))
 have hit2:(s.heap.update it (Obj.mapFields (·.setIfInBounds 1 (rawInt ((i:Int)+1))))).IsKeyIter it d (i+1) ks.length ep:=
  ⟨_,acU _ ho (Obj.isFreed_of_fields (adA hf _)),(Obj.cls_mapFields ..).trans hc,by rw [adA hf];simp [rawInt]⟩
 refine aaa (adS hit2.typeIs ?_);rw [hk];exact aae (aae ⟨_,rfl,aae (hQ _ hit2 (ach ..))⟩)
def jeu {Q:Option Value->aaf->Prop} (hh:A.handled=none) (hit:s.heap.IsKeyIter it d ks.length ks.length ep) (hm:DAt s.heap d ks ep)
  (hQ: ∀h',Heap.ExtBut it s.heap h'->Q none {s with heap:=h'}):wpAny (model prog w) A (pyNext (.ref it)) Q E s:=by
 obtain ⟨o,ho,hc,hf⟩:=id hit;obtain ⟨od,es,hod,hcd,hdd,hkeys⟩:=id hm;have hsz:es.size=ks.length:=by rw [←hkeys];simp
 unfold pyNext;refine aaa (adz (abl hit.typeIs abm (abD abm hit.typeIs adi ?_ (ac9 _))));refine aaa (aae (aaa (aaa ?_)))
 first|refine aaa (ab5 hit.typeIs (aae (aaa (aeD ho hf ?_))))|refine aaa (acG hit.typeIs (aae (aaa (aeD ho hf ?_))))
 simp only [show aea "dict_keyiterator" =false by decide,abd,if_false];show wpAny _ _ (if (aau d==abN)=true then _ else _) _ _ s;rw [if_neg (show¬((aau d==abN)=true) by exact aaN)];refine aaa (aae (aaa (wpAny_dictEntries hod hdd ?_)));rw [if_neg (by rw [hsz];simp)];refine aaa (aae (aaa (wpAny_dictEpoch hod hdd ?_)));rw [if_neg (by simp)];refine aae ?_;simp only [show¬(((ks.length:Nat):Int)<0) by omega,if_false,acC,Array.getElem?_eq_none (show es.size<=ks.length by omega)];refine aaa ?_
 first|refine aaa (ab5 hit.typeIs (aae ?_))|refine aaa (acG hit.typeIs (aae ?_))
 show wpAny _ _ (setField (.ref it) 0 .none>>=_) _ _ s;refine aaa (aeE ho hf (by simp) ?_);refine aaa ?_;simp only [newExc,newTuple];refine aaa (aa8 (aaa (wpAny_of_eq (by first|rfl| (simp;rfl)) (aa8 ?_ (by size_fits)))) (by size_fits));simp only [raiseNew];refine aaa (wpAny_handled ?_);rw [show A.in1.handled=none from hh];refine aaa (aae (wpAny_throw ?_));refine aaa (wpAny_isInstance ⟨_,aao _ rfl,rfl⟩ isSubtype_stop ?_);exact aae (hQ _ (((ach ..).extBut.push _).push _))
def jet (lo:(d==acz)=false):KdlSrc prog w "dict" d d ks.length (fun i v=>ks[i]?=some v) (fun h=>DAt h d ks ep) where
 type:=fun _ hm=>hm.typeIs
 there:=fun _ hm=>⟨hm.lt,hm.lt⟩
 keep:=fun _ _ hm hk=>hm.at fun o e=>hk d (.inl rfl) o e
 notList:=by decide
 notTuple:=by decide
 hint:=fun _ _ _ _ hm hq=>kdl_hint_dict hm.typeIs hq
 iter:=fun A s hh hm=>⟨_,(fun i h=>h.IsKeyIter s.heap.objs.size d i ks.length ep/\DAt h d ks ep),(fun _ _ hq=>jbN lo hm hq),{
  sub:=fun b hb=>by simp at hb;simp [hb]
  frame:=fun _ _ _ st hk=>⟨let ⟨o,ho,r⟩:=st.1;⟨o,hk _ (by simp) o ho,r⟩,st.2.at fun o e=>hk d (by simp) o e⟩
  item:=fun i t Q E hi st hQ=>by
   have hx:ks[i]?=some ks[i]:=by simp [hi]
   exact jbO st.1 st.2 hx fun h' hit' hs'=>hQ _ h' t.toks hx ⟨hit',st.2.at fun o e=>hs'.extBut d o (aaF hm.lt) e⟩ fun b o hb e=>hs'.extBut b o (fun z=>hb (by simp [z])) e
  done:=fun t Q E st hQ=>jeu hh st.1 st.2 fun h' he'=>hQ h' t.toks fun b o hb e=>he' b o (fun z=>hb (by simp [z])) e
  self:=fun _ _ _ _ st hQ=>wpAny_pyIter_keyiter st.1 hQ},⟨⟨_,aao _ rfl,rfl,rfl⟩,hm.at fun o e=>aac _ e⟩⟩
end
abbrev Hd:=Str×Int
def hlt (a b:Hd):Bool:=if a.1=b.1 then decide (a.2<b.2) else decide (a.1.cps.toList<b.1.cps.toList)
def UW {a b:Str} (h:a.cps.toList=b.cps.toList):a=b:=by
 cases a;cases b;simp;exact Array.toList_inj.mp h
def Vc {a b:Hd} (h:hlt a b=true):hlt b a=false:=by
 unfold hlt at h ⊢
 by_cases e:a.1=b.1
 · rw [if_pos e] at h;rw [if_pos e.symm];simp at h;simp;omega
 · rw [if_neg e] at h;rw [if_neg fun z=>e z.symm];simp at h;simp;exact List.lt_asymm h
def XL {a b c:Hd} (h1:hlt a b=true) (h2:hlt b c=true):hlt a c=true:=by
 unfold hlt at h1 h2 ⊢
 by_cases e:a.1=b.1
 · rw [if_pos e] at h1
   by_cases e2:b.1=c.1
   · rw [if_pos e2] at h2;rw [if_pos (e.trans e2)];simp at h1 h2 ⊢;omega
   · rw [if_neg e2] at h2;rw [if_neg (by rw [e];exact e2),e];exact h2
 · rw [if_neg e] at h1;simp at h1
   by_cases e2:b.1=c.1
   · rw [if_pos e2] at h2;rw [if_neg (by rw [←e2];exact e),←e2];simpa using h1
   · rw [if_neg e2] at h2;simp at h2;have h3:=List.lt_trans h1 h2;have e3:a.1≠c.1:=fun z=>List.lt_irrefl _ (by rw [z] at h3;exact h3)
     rw [if_neg e3];simpa using h3
def XM {a b:Hd} (h:a≠b):hlt a b=true\/hlt b a=true:=by
 unfold hlt
 by_cases e:a.1=b.1
 · have e2:a.2≠b.2:=fun z=>h (Prod.ext e z)
   rw [if_pos e,if_pos e.symm];simp;omega
 · rw [if_neg e,if_neg fun z=>e z.symm];simp only [decide_eq_true_eq];have:a.1.cps.toList≠b.1.cps.toList:=fun z=>e (UW z)
   by_cases z:a.1.cps.toList<b.1.cps.toList
   · exact .inl z
   · exact .inr (Std.lt_of_le_of_ne z (adh this))
def hltI (hs:List Hd) (i j:Nat):Bool:=match hs[i]?,hs[j]? with
 |some a,some b=>hlt a b
 |_,_=>false
def kP {hs:List Hd} (nd:hs.Nodup):Ord (hltI hs) hs.length where
 asym:=fun i j h=>by
  unfold hltI at h ⊢
  cases hi:hs[i]? with
  |none=>rw [hi] at h;cases h
  |some a=>
    cases hj:hs[j]? with
    |none=>rfl
    |some b=>rw [hi,hj] at h;exact Vc h
 trans:=fun i j k hi hj hk h1 h2=>by
  unfold hltI at h1 h2 ⊢;rw [aad hi,aad hj] at h1;rw [aad hj,aad hk] at h2;rw [aad hi,aad hk];exact XL h1 h2
 total:=fun i j hi hj hij=>by
  unfold hltI;rw [aad hi,aad hj];refine XM fun e=>?_
  have pw:=abY.mp nd;rcases Nat.lt_or_gt_of_ne hij with z|z
  · exact pw i j hi hj z e
  · exact pw j i hj hi z e.symm
def IsHd (h:Heap) (v:Value) (a:Hd):Prop:= ∃b o n t u,v= .ref b/\h.get? b=some o/\o.cls= .type "tuple" /\o.data= .seq #[.str a.1 t,.int a.2 u] n
section
variable {prog:aay} {w:World} {A:aaV} {E:Ud} {s:aaf}
def jf6 {x y:Addr} {ox oy:Obj} {a b:Hd} {t u t' u':Tok} (hx:s.heap.get? x=some ox) (dx:ox.data= .seq #[.str a.1 t,.int a.2 u] n) (hy:s.heap.get? y=some oy) (dy:oy.data= .seq #[.str b.1 t',.int b.2 u'] m) (h:Q (hlt a b) s):
   wpAny (model prog w) A (keyLt' (tuples' true) (.ref x) (.ref y)) Q E s:=by
 refine kat_lt hx dx hy dy ?_;refine kat_cons (eqBool_str (kat_go (fun e=>kat_yes (kat_cons (wpAny_eqBool_int (kat_go (fun e2=>kat_yes (kat_nil ?_)) fun e2=>kat_no (kat_one _ _ (wpAny_lt_int ?_)))))) fun e=>kat_no (oneLt_str ?_)))
 · have h1:a.1=b.1:=by simpa using e
   have h2:a.2=b.2:=by simpa using e2
   have:hlt a b=false:=by unfold hlt;rw [if_pos h1];simp [h2]
   rw [this] at h;exact h
 · have h1:a.1=b.1:=by simpa using e
   have:hlt a b=decide (a.2<b.2):=by unfold hlt;rw [if_pos h1]
   rw [this] at h;exact (show Q (decide (a.2<b.2)) s from h)
 · have h1:a.1≠b.1:=by simpa using e
   have:hlt a b=decide (a.1.cps.toList<b.1.cps.toList):=by unfold hlt;rw [if_neg h1]
   rw [this] at h;exact h
def IsHd.keep {v:Value} {a:Hd} (x:IsHd h v a) (k: ∀b o,h.get? b=some o->o.cls= .type "tuple" ->h'.get? b=some o):IsHd h' v a:=
 let ⟨b,o,n,t,u,e,ho,hc,hd⟩:=x;⟨b,o,n,t,u,e,k b o ho hc,hc,hd⟩
inductive AreHd (h:Heap):List Value->List Hd->Prop where
 |nil:AreHd h [] []
 |cons {v:Value} {a:Hd} {vs:List Value} {hs:List Hd}:IsHd h v a->AreHd h vs hs->AreHd h (v::vs) (a::hs)
theorem AreHd.length: ∀ {vs:List Value} {hs:List Hd},AreHd h vs hs->vs.length=hs.length
 |_,_,.nil=>rfl
 |_,_,.cons _ t=>by simp [t.length]
theorem AreHd.keep (k: ∀b o,h.get? b=some o->o.cls= .type "tuple" ->h'.get? b=some o): ∀ {vs:List Value} {hs:List Hd},AreHd h vs hs->AreHd h' vs hs
 |_,_,.nil=> .nil
 |_,_,.cons x t=> .cons (x.keep k) (t.keep k)
theorem AreHd.get: ∀ {vs:List Value} {hs:List Hd} {i:Nat} {a:Hd},AreHd h vs hs->hs[i]?=some a->IsHd h (vs.getD i abN) a
 |_,_,0,a,.cons x t,e=>by simp at e;subst e;simpa using x
 |_,_,i+1,a,.cons x t,e=>by simpa using t.get (by simpa using e)
theorem AreHd.tups: ∀ {vs:List Value} {hs:List Hd},AreHd h vs hs-> ∃fs,KatTups h vs fs/\fs.length=vs.length/\ ∀f∈fs,∃z t,f= .str z t
 |_,_,.nil=>⟨[],KatTups.nil,rfl,fun _ z=>nomatch z⟩
 |_,_,.cons x r=>by
  obtain ⟨fs,k1,k2,k3⟩:=r.tups;obtain ⟨b,o,n,t,u,rfl,ho,hc,hd⟩:=x
  exact ⟨_::fs,KatTups.cons ho hc hd rfl k1,by simp [k2],fun f hf=>by
   rcases aaG.mp hf with rfl|hf
   · exact ⟨_,_,rfl⟩
   · exact k3 f hf⟩
def vo {M:Model} {t:Tok}:Looks M h (typeOf (.str z t)) (.type "str"):=Looks.of_pure rfl
def VY {P:PySem.Fin->aaf->Prop} {vs:List Value} {hs:List Hd} (ho:s.heap.get? a=some (ady "list" vs.toArray n)) (hv:AreHd s.heap vs hs) (nd:hs.Nodup) (h2:2<=vs.length) (h64:vs.length<64)
   (h: ∀p h' c,Pm p vs.length->Up (hltI hs) p vs.length->(∀b o,b≠a->s.heap.get? b=some o->h'.get? b=some o)->h'.get? a=some (ady "list" (adm (YK vs p)) c)->P (.done (.ret .none)) {s with heap:=h'}):
   wpAny (model prog w) A (acF.«list.sort» ⟨[.ref a],[]⟩) P E s:=by
 have hl:=hv.length
 have keep: ∀b o,s.heap.get? b=some o->o.cls= .type "tuple" ->(zN s.heap a vs).get? b=some o:=fun b o e hc=>JT (fun z=>by
   subst z;rw [ho] at e;cases e;simp [ady] at hc) e
 have hv2:=hv.keep keep;obtain ⟨fs,k1,k2,k3⟩:=hv2.tups;refine Wx (by rw [hl];exact kP nd) (tuples' (adG "str" !=adG "tuple")) ho h2 h64 (fun Q q=>?_) (fun i j C hi hj hC=>?_) h
 · exact kat_kind k1 (by omega) (fun f hf=>by obtain ⟨z,t,rfl⟩:=k3 f hf;exact vo) rfl q
 · have hi':i<hs.length:=by omega
   have hj':j<hs.length:=by omega
   obtain ⟨b,o,m,t,u,e1,ho1,_,hd1⟩:=hv2.get (aad hi');obtain ⟨b',o',m',t',u',e2,ho2,_,hd2⟩:=hv2.get (aad hj');show wpAny _ _ (keyLt' _ (vs.getD i abN) (vs.getD j abN)) C _ _;rw [e1,e2];refine jf6 ho1 hd1 ho2 hd2 ?_;have:hltI hs i j=hlt hs[i] hs[j]:=by unfold hltI;rw [aad hi',aad hj']
   rw [←this];exact hC
end
section
variable {prog:aay} {w:World} {A:aaV} {E:Ud} {s:aaf} {a:Addr} {vs:List Value} {n:Nat}
def jaA {P:PySem.Fin->aaf->Prop} (ho:s.heap.get? a=some (ady "list" vs.toArray n)) (h2:vs.length<2)
  (h: ∀h' c,(∀b o,b≠a->s.heap.get? b=some o->h'.get? b=some o)->h'.get? a=some (ady "list" vs.toArray c)->P (.done (.ret .none)) {s with heap:=h'}):
  wpAny (model prog w) A (acF.«list.sort» ⟨[.ref a],[]⟩) P E s:=by
 obtain ⟨c1,b1⟩: ∃c1,(s.heap.update a (acN fun _=>(#[]:Array Value))).get? a=some (ady "list" #[] c1):=⟨_,aen ho fun _=> #[]⟩
 have b2:(zN s.heap a vs).get? a=some (ady "list" #[] c1):=aac _ (aac _ b1);have big:vs.length<=aak:=by rw [ab4];omega
 rw [list_sort_plain];refine aaa (listItems_at ho rfl (aaa (listUpdate_at ho rfl (aaa (seqEpoch_at b1 rfl (aaa (wpAny_newTuple (aaa (wpAny_newList (aa4 ?_) (abe _))) (by show vs.length<=aak;exact big))))) (by rw [aah];exact big) (abe _))));dsimp only;have small:vs.toArray.size<2:=by rw [aah];omega
 rw [if_pos small,if_pos small];refine aaa (aae (aaa (aae ?_)));dsimp only
 have hout:(arrOf (SortSt.mk' general' (vs.toArray.zip vs.toArray) #[] 7 none)).map (·.2)=vs.toArray:=by
  apply Array.toList_inj.mp;simp [List.map_snd_zip]
 rw [hout];obtain ⟨c2,hc2⟩: ∃c2,((zN s.heap a vs).update a (acN fun _=>vs.toArray)).get? a=some (ady "list" vs.toArray c2):=⟨_,aen b2 fun _=>vs.toArray⟩
 refine aaa (seqEpoch_at b2 rfl (aaa (listUpdate_at b2 rfl ?_ (abe _) (by rw [aah];exact aeO big))));simp;exact aae (h _ c2 (fun b o hb e=>(acj _ _ (adh hb)).trans (JT hb e)) hc2)
end
def insH (a:Hd):List Hd->List Hd
 | []=>[a]
 |b::r=>if hlt a b=true then a::b::r else b::insH a r
def yP (hs:List Hd):List Hd:=hs.foldr insH []
theorem QX (a:Hd): ∀l,(insH a l).Perm (a::l)
 | []=>afh _
 |b::r=>by
  unfold insH
  split
  · exact afh _
  · exact ((QX a r).cons b).trans (List.Perm.swap a b r)
theorem zK: ∀hs,(yP hs).Perm hs
 | []=>afh _
 |a::r=>(QX a (yP r)).trans ((zK r).cons a)
theorem vL {a:Hd}: ∀ {l:List Hd},l.Pairwise (fun x y=>hlt x y=true)->a∉l->(insH a l).Pairwise (fun x y=>hlt x y=true)
 | [],_,_=>by simp [insH]
 |b::r,h,hn=>by
  have h':=act.mp h;unfold insH
  by_cases e:hlt a b=true
  · rw [if_pos e];refine act.mpr ⟨fun c hc=>?_,h⟩;rcases aaG.mp hc with z|z
    · rw [z];exact e
    · exact XL e (h'.1 c z)
  · rw [if_neg e];have hab:a≠b:=fun z=>hn (by simp [z])
    have hba:=(XM hab).resolve_left e;refine act.mpr ⟨fun c hc=>?_,vL h'.2 fun z=>hn (by simp [z])⟩;rcases aaG.mp ((QX a r).mem_iff.mp hc) with z|z
    · rw [z];exact hba
    · exact h'.1 c z
theorem Kv: ∀ {hs:List Hd},hs.Nodup->(yP hs).Pairwise (fun x y=>hlt x y=true)
 | [],_=>List.Pairwise.nil
 |a::r,h=>by
  have h':=acf.mp h;exact vL (Kv h'.2) fun z=>h'.1 ((zK r).mem_iff.mp z)
theorem W5: ∀ {l m:List Hd},l.Pairwise (fun x y=>hlt x y=true)->m.Pairwise (fun x y=>hlt x y=true)->l.Perm m->l=m
 | [],m,_,_,p=>(List.nil_perm.mp p).symm
 |a::l,[],_,_,p=>by have:=p.length_eq;simp at this
 |a::l,b::m,hl,hm,p=>by
  have hl':=act.mp hl;have hm':=act.mp hm
  have e:a=b:=by
   by_cases z:a=b
   · exact z
   · have h1:a∈b::m:=p.mem_iff.mp (by simp);have h2:b∈a::l:=p.mem_iff.mpr (by simp);have h1':=(aaG.mp h1).resolve_left z;have h2':=(aaG.mp h2).resolve_left fun y=>z y.symm
     have x1:=hl'.1 b h2';have x2:=hm'.1 a h1';rw [Vc x1] at x2;cases x2
  subst e;rw [W5 hl'.2 hm'.2 (List.perm_cons a|>.mp p)]
inductive F2 {α β:Type} (R:α->β->Prop):List α->List β->Prop where
 |nil:F2 R [] []
 |cons {a b as bs}:R a b->F2 R as bs->F2 R (a::as) (b::bs)
theorem F2.length {β:Type} {R:α->β->Prop}: ∀ {as:List α} {bs:List β},F2 R as bs->as.length=bs.length
 |_,_,.nil=>rfl
 |_,_,.cons _ t=>by simp [t.length]
theorem F2.get {β:Type} {R:α->β->Prop} {a0:α} {b0:β}: ∀ {as:List α} {bs:List β} {i:Nat},F2 R as bs->i<bs.length->R (as.getD i a0) (bs.getD i b0)
 |_,_,0,.cons x t,_=>by simpa using x
 |_,_,i+1,.cons x t,h=>by simpa using t.get (by simpa using h)
theorem F2.map {β γ:Type} {R:α->β->Prop} {f:γ->α} {g:γ->β}: ∀ {l:List γ},(∀x∈l,R (f x) (g x))->F2 R (l.map f) (l.map g)
 | [],_=> .nil
 |x::l,h=> .cons (h x (by simp)) (F2.map fun y hy=>h y (by simp [hy]))
def kM {hs:List Hd} (nd:hs.Nodup) (hp:Pm p hs.length) (hu:Up (hltI hs) p hs.length):p.toList.map (fun i=>hs.getD i ("",0))=yP hs:=by
 have hmem: ∀i∈p.toList,i<hs.length:=fun i hi=>aaM.mp (hp.perm.mem_iff.mp hi)
 refine W5 ?_ (Kv nd) ?_
 · rw [aby,abY];intro i j hi hj hij;have hl:p.toList.length=hs.length:=by rw [aaI,hp.size]
   have:=hu i j hij (by omega);have e1:at0 p i=p.toList[i]:=by simp [at0,aeN,hp.size,show i<hs.length by omega]
   have e2:at0 p j=p.toList[j]:=by simp [at0,aeN,hp.size,show j<hs.length by omega]
   rw [e1,e2] at this;have b1:=hmem _ (aa9 hi);have b2:=hmem _ (aa9 hj);unfold hltI at this;rw [aad b1,aad b2] at this;rw [acl,acl,aad b1,aad b2];exact this
 · have h1:=hp.perm.map (fun i=>hs.getD i (("" :Str),(0:Int)))
   have h2:(aa5 hs.length).map (fun i=>hs.getD i ("",0))=hs:=by
    apply List.ext_getElem?;intro i
    by_cases hi:i<hs.length
    · simp [hi]
    · rw [abu (by simp;omega),abu (by omega)]
   rw [h2] at h1;exact h1.trans (zK hs).symm
def UX {hs:List Hd} (h:hs.length<2):yP hs=hs:=by
 match hs,h with
 | [],_=>rfl
 | [a],_=>rfl
section
variable {prog:aay} {w:World} {A:aaV} {E:Ud} {s:aaf} {a:Addr} {vs:List Value} {n:Nat}
def jaB {P:PySem.Fin->aaf->Prop} {hs:List Hd} (ho:s.heap.get? a=some (ady "list" vs.toArray n)) (hv:AreHd s.heap vs hs) (nd:hs.Nodup) (h64:vs.length<64)
   (h: ∀(us:List Value) h' c,(∀R:Value->Hd->Prop,F2 R vs hs->F2 R us (yP hs))->(∀b o,b≠a->s.heap.get? b=some o->h'.get? b=some o)->h'.get? a=some (ady "list" us.toArray c)->P (.done (.ret .none)) {s with heap:=h'}):
   wpAny (model prog w) A (acF.«list.sort» ⟨[.ref a],[]⟩) P E s:=by
 have hl:=hv.length
 by_cases h2:vs.length<2
 · exact jaA ho h2 fun h' c k e=>h vs h' c (fun R r=>by rw [UX (by omega)];exact r) k e
 · refine VY ho hv nd (by omega) h64 fun p h' c hp hu k e=>h _ h' c (fun R r=>?_) k e
   rw [hl] at hp hu;rw [←kM nd hp hu];exact F2.map fun i hi=>r.get (aaM.mp (hp.perm.mem_iff.mp hi))
end
section
variable {prog:aay} {w:World} {A:aaV} {E:Ud} {t:aaf} {vs:List Value} {hs:List Hd}
def Yt {Q:Ud} (hv:AreHd t.heap vs hs) (nd:hs.Nodup) (h64:vs.length<64)
  (h: ∀(us:List Value) h' c,(∀R:Value->Hd->Prop,F2 R vs hs->F2 R us (yP hs))->(∀b o,t.heap.get? b=some o->h'.get? b=some o)->h'.get? t.heap.objs.size=some (ady "list" us.toArray c)->Q (.ref t.heap.objs.size) {t with heap:=h'}):
  wpAny (model prog w) A (newList vs>>=fun l=>adW [l] (call (.builtin "list.sort") [l] [])>>=fun _=>ret l) (fun fin s'=> ∃v,fin= .done (.ret v)/\Q v s') E t:=by
 have hoL:(t.heap.push (ady "list" vs.toArray 0)).get? t.heap.objs.size=some (ady "list" vs.toArray 0):=aao _ rfl;refine aaa (wpAny_newList (aaa (aa4 ?_)) (by rw [ab4];omega));refine abD slot_list_sort ⟨_,hoL,rfl⟩ entry_list_sort ?_ (args_list_sort _);refine jaB hoL (hv.keep fun b o e _=>aac _ e) nd h64 fun us h' c r k e=>⟨_,rfl,aae ⟨_,rfl,h us h' c r (fun b o e2=>k b o (fun z=>?_) (aac _ e2)) e⟩⟩
 exact abq _ (by have:=aar e2;rw [z] at this;exact this)
end
end M
variable {l hs:List M.Hd}
namespace M
open PySem PySem.Spec L2
open PyProof.Rows hiding St
section
variable {X:Cx}
def HdV (H:Hp) (x:V) (a:Hd):Prop:= ∃b,x= .ref b/\H b=some (.tup [.str a.1,.int a.2])
theorem jf5 {s:aaf} (I:Inv X pins σ H s): ∀ {ys:List V} {its:List Value} {hs:List Hd},Vals ys its->F2 (HdV H) ys hs->AreHd s.heap its hs/\F2 (fun v a=> ∃b,v=aau b/\H b=some (.tup [.str a.1,.int a.2])) its hs
 |_,_,_,.nil,.nil=>⟨.nil,.nil⟩
 |_,_,_,.cons r rs,.cons x xs=>by
  obtain ⟨h1,h2⟩:=jf5 I rs xs;obtain ⟨b,rfl,hb⟩:=x;cases r;obtain ⟨_,its,rv,o,ho,hc,n,hd⟩:=(show ObjOk X.prog X.w H s.heap b (.tup _) from I.hok b _ hb)
  cases rv with
  |cons q1 q2=>
   cases q2 with
   |cons q3 q4=>
    cases q4;obtain ⟨t,rfl⟩:=q1;obtain ⟨u,rfl⟩:=q3;exact ⟨.cons ⟨b,o,n,t,u,rfl,ho,hc,hd⟩ h1,.cons ⟨b,rfl,hb⟩ h2⟩
theorem jcP: ∀ {us:List Value} {hs:List Hd},F2 (fun v a=> ∃b,v=aau b/\H b=some (.tup [.str a.1,.int a.2])) us hs-> ∃xs,Vals xs us/\F2 (HdV H) xs hs
 |_,_,.nil=>⟨[],.nil,.nil⟩
 |_,_,.cons ⟨b,e,hb⟩ t=>by
  obtain ⟨xs,h1,h2⟩:=jcP t;subst e;exact ⟨.ref b::xs,.cons rfl h1,.cons ⟨b,rfl,hb⟩ h2⟩
end
def XC:List D->Option (List Key)
 | []=>some []
 |d::r=>match keyD d,XC r with
  |some k,some ks=>some (k::ks)
  |_,_=>none
def keyT:D->Option (List Key)
 | .tup ds=>XC ds
 |_=>none
def hasT (ks:List (List Key)) (k:List Key):Bool:=ks.any fun x=>decide (x=k)
def Zi (ks:List (List Key)) (k:List Key):List (List Key):=if hasT ks k=true then ks else ks++[k]
def Zj (ks:List (List Key)) (ds:List D) (k:List Key) (d:D):List D:=if hasT ks k=true then (ks.zip ds).map (fun p=>if p.1=k then d else p.2) else ds++[d]
section
variable {K:aab} {A:Ue} {H:Hp}
theorem K7: ∀ {vs:List V} {ds:List D} {ks:List Key},Reps K A H vs ds->XC ds=some ks->vs=ks.map kV
 |_,_,ks,.nil,h=>by cases h;rfl
 |_,_,ks,.cons r t,h=>by
  rename_i v d vs ds;unfold XC at h
  cases e1:keyD d with
  |none=>rw [e1] at h;cases h
  |some k=>
   cases e2:XC ds with
   |none=>rw [e1,e2] at h;cases h
   |some r'=>
    rw [e1,e2] at h;cases h;rw [Wz r e1,K7 t e2];rfl
def JB {k:List Key} (r:Rep K A H y d) (h:keyT d=some k): ∃b,y= .ref b/\H b=some (.tup (k.map kV)):=by
 cases r with
 |tup e rs=>exact ⟨_,rfl,by rw [e,K7 rs h]⟩
 |_=>cases h
def VN (kvs:List (List Key×V)) (k:List Key):(kvs.any fun kv=>decide (kv.1=k))=hasT (kvs.map (·.1)) k:=by
 unfold hasT;rw [afa];rfl
theorem Xf (k:List Key) (rv:Rep K A H v d): ∀ {kvs:List (List Key×V)} {ds:List D},Reps K A H (kvs.map (·.2)) ds->Reps K A H ((kvs.map (fun kv=>if kv.1=k then (kv.1,v) else kv)).map (·.2)) (((kvs.map (·.1)).zip ds).map (fun p=>if p.1=k then d else p.2))
 | [],_,.nil=> .nil
 | (k',v')::kvs,_,.cons r1 r2=>by
  have ih:=Xf k rv r2
  by_cases hk:k'=k
  · simp only [aaB,ab3,hk,if_true];exact .cons rv (by simpa [hk] using ih)
  · simp only [aaB,ab3,hk,if_false];exact .cons r1 ih
def KD (k:List Key) (r:Reps K A H (kvs.map (·.2)) ds) (rv:Rep K A H v d):
   (putK kvs k v).map (·.1)=Zi (kvs.map (·.1)) k/\Reps K A H ((putK kvs k v).map (·.2)) (Zj (kvs.map (·.1)) ds k d):=by
 unfold putK Zi Zj;rw [VN]
 by_cases h:hasT (kvs.map (·.1)) k=true
 · rw [if_pos h,if_pos h,if_pos h];refine ⟨?_,Xf k rv r⟩;rw [abb];apply aem;intro p _;simp
   split<;>rfl
 · rw [if_neg h,if_neg h,if_neg h];refine ⟨by simp,?_⟩;rw [aa3];exact r.append (.cons rv .nil)
def Rep.ditE {ks:List (List Key)} (r:Rep K A H v (.dit ks ds)): ∃a kvs,v= .ref a/\H a=some (.dT kvs)/\A a/\kvs.map (·.1)=ks/\Reps K (fun c=>A c/\c≠a) H (kvs.map (·.2)) ds:=by
 cases r with
 |dit e a k1 k2 r=>subst k2;exact ⟨_,_,rfl,e,a,k1,r⟩
end
def jds {K:aab} {G:Ue} {ks:List (List Key)} (k:EnvOk K G H0 env σ H) (hi:env[i]?=some (.own (.dit ks ds))): ∃a kvs,σ[i]?=some (some (.ref a))/\H a=some (.dT kvs)/\kvs.map (·.1)=ks/\Reps K (Sf G env σ) H (kvs.map (·.2)) ds:=by
 obtain ⟨a,h1,h0,h2⟩:=k.own i _ hi
 cases h2 with
 |dit e k1 k2 r=>subst k2;exact ⟨a,_,h1,e,k1,r⟩
def ownT (i:Nat) (env:Sl):Res (List (List Key)×List D):=match env[i]? with
 |some (.own (.dit ks ds))=> .ok (ks,ds)
 |_=> .stuck
def jaV {p:List (List Key)×List D} (h:ownT i env= .ok p):env[i]?=some (.own (.dit p.1 p.2)):=by
 unfold ownT at h
 split at h
 · cases h;assumption
 · cases h
section
variable {X:Cx} {K:aab} {l1 l2:Lv} {e1 e2:Expr} {fk fv:TK} {pos cpos apos p:Pos} {x:Str}
def cDT:Sl->Res D:=fun _=> .ok (.dit [] [])
def XX:DE X .t (.Dict [] [] pos) cDT:=by
 with_unfolding_all exact (PE.imp jaQ fun σ H Q=>by
  rintro ⟨G,H0,env,d,k,ef,q⟩;cases ef
  exact fun p hp=>q _ _ (Same.upd hp) (.dit ju (k.new p hp) rfl rfl .nil) (qh (Same.refl H) hp))
def XT (i:Nat) (fk fv:TK):Sl->Res Out:=fun env=>ownT i env>>=fun q=>fv env>>=fun d=>fk env>>=fun kd=>match keyT kd with
 |some k=>must (q.1.length<aak) (.ok (.nx (env.set i (.own (.dit (Zi q.1 k) (Zj q.1 q.2 k d))))))
 |none=> .stuck
def Vu (i:Nat) (hu:X.A.units+1<cLine) (hk:DE X l1 e1 fk) (hv:DE X .s e2 fv) (hN:X.N[i]?=some x:=by rfl) (hvs:Vis X.env.scope x:=by first|exact acg rfl|exact abA (acg rfl)|exact abA (abA rfl))
   (hd:Z0 x:=by decide) (hcd:Zh x:=by decide)
   (hs:acq e2 (some (.Subscript (.Name x p) e1 apos)) pos.line X.env=pure false:=by rfl):
   DS X (.Assign [.Subscript (.Name x p) e1 apos] e2 pos) (XT i fk fv):=by
 with_unfolding_all exact (
  PS.imp (kB hu (xu hN hvs hd hcd) hk hv hs) fun E σ H=>by
   rintro ⟨G,H0,env,o,k,ef,q⟩;obtain ⟨ks,c1,ef⟩:=jd ef;obtain ⟨d,c2,ef⟩:=jd ef;obtain ⟨kd,c3,c4⟩:=jd ef;have hi:=jaV c1;obtain ⟨a,kvs,ha,hx,hkk,rs⟩:=jds k hi
   cases hkey:keyT kd with
   |none=>rw [hkey] at c4;cases c4
   |some kk=>
    rw [hkey] at c4;obtain ⟨hz,c5⟩:=jq c4;cases c5;refine ⟨G,H0,env,d,k,c2,fun v H1 s1 r1 _=>⟨.ref a,ha,G,H0,env,kd,k.grow s1,c3,fun y H2 s2 r2 _=>?_⟩⟩;have hx2:=s2 _ _ (s1 _ _ hx);obtain ⟨b,rfl,hb⟩:=JB (r2.weak Lv.weak_b) hkey;have hl:kvs.length<aak:=by rw [←hkk,aaj] at hz;exact hz
    refine ⟨a,_,rfl,DPut.t hx2 hb hl,?_⟩;obtain ⟨p1,p2⟩:=KD kk ((rs.grow s1).grow s2) (r1.grow s2);rw [hkk] at p1 p2;have W:=((k.grow s1).grow s2).writeG hi ha hx2 trivial fun A' H' st e w=> .dit e p1 rfl (p2.stay st w)
    exact q σ _ W.1 ((W.2.grow s2).grow s1))
def hdD (a:Hd):D:= .tup [.str a.1,.int a.2]
def jfa (hs:List Hd):Bool:=hs.all fun a=>decide (a.1.length<=aak)
theorem vU {A:Ue}: ∀ {vs:List V} {hs:List Hd},F2 (HdV H) vs hs->(∀a∈hs,a.1.length<=aak)->Reps K A H vs (hs.map hdD)
 |_,_,.nil,_=> .nil
 |_,_,.cons ⟨b,e,hb⟩ t,h=>by
  subst e;exact .cons (.tup hb (.cons (.str _ (h _ (by simp))) (.cons (.int _) .nil))) (vU t fun a ha=>h a (by simp [ha]))
end
def hdK (a:Hd):List Key:=[.inr a.1,.inl a.2]
section
variable {X:Cx} {K:aab}
theorem Zv: ∀ {kvs:List (List Key×V)} {xs:List (List Key×Addr×Value)} {hs:List Hd},KT H kvs xs->kvs.map (·.1)=hs.map hdK->F2 (HdV H) (xs.map fun q=>V.ref q.2.1) hs
 |_,_,hs,.nil,e=>by
  cases hs with
  |nil=>exact .nil
  |cons a r=>cases e
 |_,_,hs,.cons h t,e=>by
  cases hs with
  |nil=>cases e
  |cons a r=>
   simp at e;refine .cons ⟨_,rfl,?_⟩ (Zv t e.2);rw [h.2.1,e.1];rfl
theorem Xg: ∀(l:List Addr),Vals (l.map V.ref) (l.map aau)
 | []=> .nil
 |a::l=> .cons rfl (Xg l)
def X5 (hc:X.calm=true):CallR X (.builtin "sorted") (fun xs H Q=> ∃a kvs hs,xs=[.ref a]/\H a=some (.dT kvs)/\kvs.map (·.1)=hs.map hdK/\hs.Nodup/\hs.length<64/\ ∀l us,H l=none->F2 (HdV H) us (yP hs)->Q (.ref l) (upd H l (.lst us))):=by
 intro pins s σ H xs us Q I r h;obtain ⟨a,kvs,hs,rfl,ha,hk,nd,h64,q⟩:=h;obtain ⟨u,rfl,rx⟩:=Jj r;cases rx;obtain ⟨hz,lo,ys,hp,o,es,ep,ho,hx,hd,he,_⟩:=(show ObjOk X.prog X.w H s.heap a (.dT kvs) from I.hok a _ ha)
 have hF:=Zv hp hk
 have hV:Vals (ys.map fun q=>V.ref q.2.1) (ys.map fun q=>aau q.2.1):=by
  have:=Xg (ys.map fun q=>q.2.1);simpa [abb,aeP] using this
 obtain ⟨hA,hR⟩:=jf5 I hV hF;have hlen:ys.length=hs.length:=by simpa using hF.length
 have hD:DAt s.heap a (ys.map fun q=>aau q.2.1) ep:=⟨o,es,ho,hx,hd,by rw [he,abb];rfl⟩
 refine Calls.call_function_entry kind_sorted plain_sorted entry_sorted (args_sorted1 _) ?_;unfold acF.«sorted»;refine aaa (aae (aaa (PySem.W.kdu_collect (jet lo) (show X.A.in1.handled=none from I.ok.hd hc) hD (by rw [aaj,ab4];omega) fun h' tk acc hkp hacc=>?_)))
 have hacc2:acc.toList=ys.map fun q=>aau q.2.1:=by
  apply List.ext_getElem?;intro i;have hl:acc.toList.length=(ys.map fun q=>aau q.2.1).length:=by rw [aaI];exact hacc.1
  by_cases hi:i<acc.toList.length
  · rw [aad hi];exact (hacc.2 i _ (by rw [←aax];exact aad hi)).symm
  · rw [abu (by omega),abu (by omega)]
 rw [hacc2];refine Yt (hA.keep fun b o e _=>hkp b o e) nd (by rw [aaj];omega) fun us h2 c hRR k e=>?_
 obtain ⟨zs,v1,v2⟩:=jcP (hRR _ hR);have I1:Inv X pins σ H {s with heap:=h',toks:=tk}:=I.kept hkp
 have hl2:zs.length<=aak:=by
  have a1:=v2.length;have a2:=(zK hs).length_eq;rw [ab4];omega
 exact ⟨.ref _,_,I1.laid k (aag _) (show ObjOk X.prog X.w _ h2 _ (.lst zs) from ⟨hl2,us,c,v1,e⟩),rfl,q _ zs (I1.hok.fresh (aag _)) v2⟩
def jd2:List Key->Option Hd
 | [.inr z,.inl k]=>some (z,k)
 |_=>none
def JD:List (List Key)->Option (List Hd)
 | []=>some []
 |d::r=>match jd2 d,JD r with
  |some a,some as=>some (a::as)
  |_,_=>none
theorem XN: ∀ {ks:List (List Key)} {hs:List Hd},JD ks=some hs->ks=hs.map hdK
 | [],hs,h=>by cases h;rfl
 |d::r,hs,h=>by
  unfold JD at h
  cases e1:jd2 d with
  |none=>rw [e1] at h;cases h
  |some a=>
   cases e2:JD r with
   |none=>rw [e1,e2] at h;cases h
   |some as=>
    rw [e1,e2] at h;cases h;rw [XN e2];unfold jd2 at e1
    split at e1
    · cases e1;rfl
    · cases e1
def ZX:List D->Res D
 | [.dit ks _]=>match JD ks with
  |some hs=>must (hs.Nodup/\hs.length<64/\jfa hs=true) (.ok (.lst ((yP hs).map hdD)))
  |none=> .stuck
 |_=> .stuck
def UE:Zf K (fun xs H Q=> ∃a kvs hs,xs=[.ref a]/\H a=some (.dT kvs)/\kvs.map (·.1)=hs.map hdK/\hs.Nodup/\hs.length<64/\ ∀l us,H l=none->F2 (HdV H) us (yP hs)->Q (.ref l) (upd H l (.lst us))) ZX:=by
 intro A xs H ds d Q r e q;unfold ZX at e
 split at e
 · rename_i ks vs
   cases eh:JD ks with
   |none=>rw [eh] at e;cases e
   |some hs=>
    rw [eh] at e;obtain ⟨⟨nd,h64,hsh⟩,e2⟩:=jq e;cases e2;obtain ⟨v,rfl,r1⟩:=r.one;obtain ⟨p,kvs,rfl,hp,_,hkk,_⟩:=r1.ditE;refine ⟨p,kvs,hs,rfl,hp,by rw [hkk];exact XN eh,nd,h64,fun l us hl hu=>q _ _ (Same.upd hl) (.lst ju (.inl hl) ?_) (qh (Same.refl H) hl)⟩
    have hs2: ∀a∈yP hs,a.1.length<=aak:=fun a ha=>by
     have:=abw.mp hsh a ((zK hs).mem_iff.mp ha);simpa using this
    exact ((vU (A:=fun _=>False) hu hs2).grow (Same.upd hl)).weak fun c z=>z.elim
 · cases e
end
section
variable {prog:aay} {w:World} {A:aaV} {E:Ud} {s:aaf}
theorem Kp: ∀ {is:List Int} {us:List Value},Vals (is.map V.int) us->us.length=is.length/\ ∀i v,us[i]?=some v-> ∃t,v=ae3 (is.getD i 0) t
 | [],_,.nil=>⟨rfl,fun i v h=>by cases h⟩
 |i::is,_,.cons h t=>by
  obtain ⟨a,b⟩:=Kp t;refine ⟨by simp [a],fun j v hv=>?_⟩
  cases j with
  |zero=>
   simp at hv;subst hv;obtain ⟨t,e⟩:=h;exact ⟨t,by rw [e];rfl⟩
  |succ j=>simp at hv;simpa using b j v hv
end
def QW:List D->Option (List Int)
 | []=>some []
 | .int b::r=>(QW r).map (b:: ·)
 |_=>none
theorem ZE: ∀ {ds:List D} {bs:List Int},QW ds=some bs->ds=bs.map D.int
 | [],bs,h=>by cases h;rfl
 |d::r,bs,h=>by
  cases d with
  |int b=>
   simp only [QW,abR] at h;obtain ⟨bs',h1,rfl⟩:=h;rw [ZE h1];rfl
  |_=>cases h
section
variable {X:Cx} {K:aab} {l l' l2:Lv}
theorem Xe {A:Ue}: ∀ {bs:List Int} {xs:List V},Reps K A H xs (bs.map D.int)->xs=bs.map V.int
 | [],_,.nil=>rfl
 |b::bs,_,.cons h t=>by rw [h.intE,Xe t];rfl
variable {x:Str} {p pos kpos:Pos} {e e2:Expr} {fa f2:TK}
end
end M
namespace M
open PySem PySem.Spec L2
open PyProof.Rows hiding St
open PySem.SeqAt
section
variable {X:Cx} {K:aab}
theorem km {A:Ue}: ∀ {xs:List V} {ds:List D} {us:List Value},Reps K A H xs ds->Vals xs us->us.length=ds.length/\ ∀(i:Nat) (u:Value),us[i]?=some u-> ∃x d,ds[i]?=some d/\RelV x u/\Rep K A H x d
 |_,_,_,.nil,.nil=>⟨rfl,fun i u h=>by cases h⟩
 |_,_,_,.cons r t,.cons h hs=>by
  obtain ⟨a,b⟩:=km t hs;refine ⟨by simp [a],fun i u hu=>?_⟩
  cases i with
  |zero=>simp at hu;subst hu;exact ⟨_,_,rfl,h,r⟩
  |succ i=>simp at hu;simpa using b i u hu
def inL (ds:List D) (d:D):Bool:=ds.any fun y=>eqD y d
def rInL (K:aab) (neg:Bool):R2:=fun x y H Q=> ∃p xs ds d,y= .ref p/\SqL K H p xs/\Reps K Any H xs ds/\Rep K Any H x d/\(D.eqbs ds=true/\D.eqb d=true/\D.deps ds<=190)/\Q (.bl (if neg then !inL ds d else inL ds d)) H
open Classical in
theorem jdX {s:aaf} (I:Inv X pins σ H s) (hu:X.A.units+200<cLine) {xs:List V} {x:V} {v:Value} (rx:RelV x v) (rs:Reps X.K Any H xs ds) (rv:Vals xs its) (r:Rep X.K Any H x d)
   (hc:D.eqbs ds=true/\D.eqb d=true/\D.deps ds<=190): ∃e:Value->Bool,(∀y,y∈its.toArray->EqAt X.A.in1 s y v (e y))/\its.toArray.any e=inL ds d:=by
 obtain ⟨hl,hat⟩:=km rs rv;refine ⟨fun y=>decide (∃(i:Nat) (d1:D),its[i]?=some y/\ds[i]?=some d1/\eqD d1 d=true),fun y hy=>?_,?_⟩
 · have key: ∀(i:Nat) (d1:D),its[i]?=some y->ds[i]?=some d1->EqAt X.A.in1 s y v (eqD d1 d):=fun i d1 h1 h2=>by
     obtain ⟨x1,d2,h3,h4,h5⟩:=hat i y h1;rw [h2] at h3;cases h3;have hm:=aa2 h2;have hdp:=yx hm
     exact Qr I d1 X.A.in1 x1 x y v d (by
      show X.A.units+1+d1.dep<cLine
      omega) h5 h4 r rx (JH hc.1 hm) hc.2.1
   dsimp only
   by_cases h: ∃(i:Nat) (d1:D),its[i]?=some y/\ds[i]?=some d1/\eqD d1 d=true
   · obtain ⟨i,d1,h1,h2,h3⟩:=h;have:=key i d1 h1 h2;rw [h3] at this;rw [decide_eq_true (show∃(i:Nat) (d1:D),its[i]?=some y/\ds[i]?=some d1/\eqD d1 d=true from ⟨i,d1,h1,h2,h3⟩)];exact this
   · rw [decide_eq_false h];obtain ⟨i,hi⟩:=abv.mp (show y∈its by simpa using hy);obtain ⟨x1,d2,h3,h4,h5⟩:=hat i y hi;have:=key i d2 hi h3
     have e:eqD d2 d=false:=by
      cases z:eqD d2 d with
      |false=>rfl
      |true=>exact absurd ⟨i,d2,hi,h3,z⟩ h
     rw [e] at this;exact this
 · rw [aej];unfold inL;rw [ab6];simp only [List.any_toArray,ab6,decide_eq_true_eq]
   constructor
   · rintro ⟨y,_,i,d1,_,h2,h3⟩;exact ⟨d1,aa2 h2,h3⟩
   · rintro ⟨d1,hm,h3⟩;obtain ⟨i,hi⟩:=abv.mp hm
     have hlt:i<its.length:=by
      rw [hl];exact (aav.mp hi).1
     exact ⟨its[i],aa9 hlt,i,d1,aad hlt,hi,h3⟩
def jdv (hu:X.A.units+200<cLine):OpR X (abr .NotIn) (rInL X.K true):=by
 intro pins s σ H x y v u Q I rx ry h;obtain ⟨p,xs,ds,d,rfl,hq,rs,r,hc,q⟩:=h;cases ry;obtain ⟨its,rv,pl,hz⟩:=I.list hq;obtain ⟨e,h1,h2⟩:=jdX I hu rx rs rv r hc;refine SeqAt.notIn_listAt e pl.isList h1 ⟨.bl _,H,I,rfl,?_⟩;rw [h2];exact q
def inLR (neg:Bool):D->D->Res D
 |d,.lst ds=>must (D.eqbs ds=true/\D.eqb d=true/\D.deps ds<=190) (.ok (.bl (if neg then !inL ds d else inL ds d)))
 |_,_=> .stuck
def jfL (neg:Bool):OpS K (rInL K neg) (inLR neg):=by
 intro x y H a b d Q ra rb e q;unfold inLR at e
 split at e
 · obtain ⟨hc,e2⟩:=jq e;cases e2;obtain ⟨p,ys,rfl,hp,_,ry⟩:=rb.lstE;exact ⟨p,ys,_,_,rfl,.of hp,ry.weak (fun _ _=>trivial),ra,hc,q _ (jhG _)⟩
 · cases e
end
end M
namespace M
open PySem PySem.Spec L2
open PyProof.Rows hiding St
def Yc:aba "sorted" =some (.builtin "sorted"):=by decide+kernel
section
variable {X:Cx} {id:String} {r:List V->Hp->VK->Prop} {g:TD} {x:Str} {p pos:Pos} {e:Expr} {es:List Expr} {fa:TF}
def xo (hc:CallR X (.builtin id) r) (hr:Zf X.K r g) (hg:Gl X x) (hm:X.mg x=none) (hv:aba x=some (.builtin id))
   (ha:DA X .s (e::es) fa) (hn:x≠ "__name__" :=by decide) (hdb:Z0 x:=by decide)
   (he:T9 X e es:=by exact jk rfl) (hpl:T8 X pos es:=by exact jz rfl):DE X .t (.Call (.Name x p) (e::es) [] pos) (app fa g):=by
 with_unfolding_all exact (
  PE.imp (xg hc hg hm hv ha hn hdb he hpl) fun _ _ _ h=>je4 hr h)
variable {ex:Expr} {t:TJ}
end
end M
namespace M
open PySem PySem.Spec L2
mutual
def bare:D->D
 | .tup (x::ts)=> .tup (x::bares ts)
 |_=> .int 0
def bares:List D->List D
 | []=>[]
 |d::r=>bare d::bares r
end
def kY {k:Nat} (h: ∀t∈ts,num t<=k):nums ts<=ts.length*k:=by
 induction ts with
 |nil=>simp [nums]
 |cons d r ih=>
  have h1:=h d (by simp);have h2:=ih fun t ht=>h t (by simp [ht])
  simp only [nums,aaL,adQ];omega
theorem Y5: ∀ {ts:List D},(∀t∈ts,D.eqb t=true)->D.eqbs ts=true
 | [],_=>rfl
 |x::r,h=>by simp only [D.eqbs,aaD];exact ⟨h x (by simp),Y5 fun d hd=>h d (by simp [hd])⟩
theorem Kb {k:Nat}: ∀ {ts:List D},(∀t∈ts,D.dep t<=k)->D.deps ts<=k
 | [],_=>by simp [D.deps]
 |x::r,h=>by
  simp only [D.deps];have:=h x (by simp);have:=Kb (ts:=r) fun d hd=>h d (by simp [hd])
  omega
def ins (l:List Int) (x:Int):List Int:=if x∈l then l else l++[x]
def met (l xs:List Int):List Int:=xs.foldl ins l
def dvs (n:Nat):List Int->List D
 | []=>[]
 |_::r=> .int n::dvs (n+1) r
mutual
def tk (ns:List Str):D->Bool
 | .int _=>true
 | .tup (.str z::ts)=>decide (z∈ns)&&(decide (ts.length<=9)&&tks ns ts)
 |_=>false
def tks (ns:List Str):List D->Bool
 | []=>true
 |d::r=>tk ns d&&tks ns r
end
section
variable {ns:List Str}
mutual
theorem ZW {P:D->Prop} (h1: ∀i,P (.int i)) (h2: ∀z ts,z∈ns->ts.length<=9->(∀t∈ts,tk ns t=true/\P t)->P (.tup (.str z::ts))): ∀t,tk ns t=true->P t
 | .int i,_=>h1 i
 | .tup (x::ts),h=>by
  cases x with
  |str z=>
   simp only [tk,aaD,decide_eq_true_eq] at h;exact h2 z ts h.1 h.2.1 (tk_ind2 h1 h2 ts h.2.2)
  |_=>simp [tk] at h
 | .tup [],h=>by simp [tk] at h
 | .non,h=>by simp [tk] at h
 | .bl _,h=>by simp [tk] at h
 | .str _,h=>by simp [tk] at h
 | .lst _,h=>by simp [tk] at h
 | .scr _,h=>by simp [tk] at h
 | .dic _ _,h=>by simp [tk] at h
 | .dit _ _,h=>by simp [tk] at h
 | .exn _,h=>by simp [tk] at h
 | .fdc _ _,h=>by simp [tk] at h
 | .hdc _ _,h=>by simp [tk] at h
 | .obj _ _ _,h=>by simp [tk] at h
theorem tk_ind2 {P:D->Prop} (h1: ∀i,P (.int i)) (h2: ∀z ts,z∈ns->ts.length<=9->(∀t∈ts,tk ns t=true/\P t)->P (.tup (.str z::ts))): ∀ts,tks ns ts=true-> ∀t∈ts,tk ns t=true/\P t
 | [],_,t,ht=>by cases ht
 |d::r,h,t,ht=>by
  simp only [tks,aaD] at h;have a:=ZW h1 h2 d h.1;have b:=tk_ind2 h1 h2 r h.2;rcases aaG.mp ht with e|e
  · rw [e];exact ⟨h.1,a⟩
  · exact b t e
end
theorem jb6: ∀ {ts:List D},(∀t∈ts,tk ns t=true)->tks ns ts=true
 | [],_=>rfl
 |x::r,h=>by simp only [tks,aaD];exact ⟨h x (by simp),jb6 fun d hd=>h d (by simp [hd])⟩
theorem UR: ∀ {ts:List D} {t:D},tks ns ts=true->t∈ts->tk ns t=true
 |x::r,t,h,ht=>by
  simp only [tks,aaD] at h;rcases aaG.mp ht with rfl|ht
  · exact h.1
  · exact UR h.2 ht
def US (hz:z∈ns) (h:ts.length<=9) (ht: ∀t∈ts,tk ns t=true):tk ns (.tup (.str z::ts))=true:=by
 simp only [tk,aaD,decide_eq_true_eq];exact ⟨hz,h,jb6 ht⟩
def Jk {t:D} (h:tk ns t=true):(∃i,t= .int i)\/ ∃z ts,t= .tup (.str z::ts)/\z∈ns/\ts.length<=9/\ ∀u∈ts,tk ns u=true:=by
 cases t with
 |int i=>exact .inl ⟨i,rfl⟩
 |tup ds=>
  cases ds with
  |nil=>simp [tk] at h
  |cons x ts=>
   cases x with
   |str z=>
    simp only [tk,aaD,decide_eq_true_eq] at h;exact .inr ⟨z,ts,rfl,h.1,h.2.1,fun u hu=>UR h.2.2 hu⟩
   |_=>simp [tk] at h
 |_=>simp [tk] at h
def jd9: ∀t,tk ns t=true->fine t=true:=ZW (fun i=>rfl) fun z ts _ hl h=>by
 simp only [fine,fines,aaD,decide_eq_true_eq,aaL,true_and];exact ⟨by omega,Vk fun t ht=>(h t ht).2⟩
def jf3: ∀t,tk ns t=true->t.imm=true:=ZW (fun i=>rfl) fun z ts _ hl h=>by
 show (true&&D.imms ts)=true;rw [Bool.true_and];exact imms_iff.mpr fun t ht=>(h t ht).2
def jcd: ∀t,tk ns t=true-> ∀p∈pts t,tk ns p=true:=ZW (fun i=>by simp [pts,tk]) fun z ts hz hl h=>by
 simp only [pts];intro p hp;rcases aaG.mp hp with e|e
 · rw [e];exact US hz hl fun t ht=>(h t ht).1
 · have flat: ∀us:List D,ptss us=us.flatMap pts:=fun us=>by
    induction us with
    |nil=>rfl
    |cons d r ih=>simp [ptss,ih]
   rw [flat] at e;obtain ⟨t,ht,hpt⟩:=List.mem_flatMap.mp e;exact (h t ht).2 p hpt
def hdL:List D->List Hd
 | []=>[]
 | .tup (.str z::ts)::r=>(z,(ts.length:Int))::hdL r
 |_::r=>hdL r
def vV (z:Str) (ts r:List D):hdL (.tup (.str z::ts)::r)=(z,(ts.length:Int))::hdL r:=rfl
theorem vW: ∀ {a:List D},(∀t∈a,tk ns t=true)-> ∀x∈hdL a,x.1∈ns/\0<=x.2/\x.2<=9
 | [],_,x,hx=>by cases hx
 |d::r,h,x,hx=>by
  have ih:=vW (a:=r) fun t ht=>h t (by simp [ht])
  rcases Jk (h d (by simp)) with ⟨i,rfl⟩| ⟨z,ts,rfl,hz,hl,_⟩
  · exact ih x hx
  · rw [vV] at hx;rcases aaG.mp hx with e|e
    · rw [e];exact ⟨hz,by simp,by simp;omega⟩
    · exact ih x e
def hins (l:List Hd) (a:Hd):List Hd:=if a∈l then l else l++[a]
def hmet (l xs:List Hd):List Hd:=xs.foldl hins l
def jdZ {a:Hd} (h:l.Nodup):(hins l a).Nodup:=by
 unfold hins
 split
 · exact h
 · rename_i hn;refine abI.mpr ⟨h,by simp,fun x hx y hy=>?_⟩;simp at hy;rw [hy];intro e;rw [e] at hx;exact hn hx
theorem vP: ∀ {xs l:List Hd},l.Nodup->(hmet l xs).Nodup
 | [],l,h=>h
 |x::xs,l,h=>vP (xs:=xs) (jdZ h)
def jbi {a x:Hd} (h:x∈hins l a):x∈l\/x=a:=by
 unfold hins at h
 split at h
 · exact .inl h
 · simpa using h
theorem WC: ∀ {xs l:List Hd} {x:Hd},x∈hmet l xs->x∈l\/x∈xs
 | [],l,x,h=> .inl h
 |y::xs,l,x,h=>by
  rcases WC (l:=hins l y) h with z|z
  · rcases jbi z with z|z
    · exact .inl z
    · exact .inr (by simp [z])
  · exact .inr (by simp [z])
theorem Xs: ∀ {l m:List Hd},l.Nodup->(∀x∈l,x∈m)->l.length<=m.length
 | [],m,_,_=>by simp
 |a::l,m,h,hs=>by
  have h':=acf.mp h;have ha:=hs a (by simp)
  have:=Xs (m:=m.erase a) h'.2 fun x hx=>by
   refine (List.mem_erase_of_ne fun e=>?_).mpr (hs x (by simp [hx]));rw [e] at hx;exact h'.1 hx
  rw [List.length_erase_of_mem ha] at this;have hpos:=adE ha;simp;omega
def vR (h:l.Nodup) (hm: ∀x∈l,x.1∈ns/\0<=x.2/\x.2<=9):l.length<=ns.length*10:=by
 have:=Xs (m:=ns.flatMap fun z=>(aa5 10).map fun k=>(z,((k:Nat):Int))) h fun x hx=>by
  obtain ⟨h1,h2,h3⟩:=hm x hx;refine List.mem_flatMap.mpr ⟨x.1,h1,aat.mpr ⟨x.2.toNat,aaM.mpr (by omega),?_⟩⟩;rw [Int.toNat_of_nonneg h2]
 have e:(ns.flatMap fun z=>(aa5 10).map fun k=>(z,((k:Nat):Int))).length=ns.length*10:=by
  clear this hm h
  induction ns with
  |nil=>rfl
  |cons z r ih=>rw [List.flatMap_cons,aaC,ih];simp;omega
 omega
def hdK_inj {a b:Hd}:hdK a=hdK b↔a=b:=by
 constructor
 · intro h;cases a;cases b;simp [hdK] at h;simp [h]
 · intro h;rw [h]
def YZ (l:List Hd) (a:Hd):hasT (l.map hdK) (hdK a)=decide (a∈l):=by
 unfold hasT;rw [afa]
 induction l with
 |nil=>rfl
 |cons b l ih=>
  rw [ad8,ih];simp only [Function.comp_apply,hdK_inj]
  by_cases h:b=a
  · subst h;simp
  · have:a≠b:=fun e=>h e.symm
    simp [h,this]
def htrs (l:List Hd):List D:=l.map fun _=> .bl true
def jfn (l:List Hd) (a:Hd):Zi (l.map hdK) (hdK a)=(hins l a).map hdK/\Zj (l.map hdK) (htrs l) (hdK a) (.bl true)=htrs (hins l a):=by
 unfold Zi Zj hins;rw [YZ]
 by_cases h:a∈l
 · simp only [h,decide_true,if_true,true_and];clear h
   induction l with
   |nil=>rfl
   |cons b l ih=>
    simp only [htrs,aaB,ab3] at ih ⊢;rw [ih];simp
 · simp [h,htrs]
theorem ZI: ∀l:List Hd,JD (l.map hdK)=some l
 | []=>rfl
 |a::l=>by
  simp only [aaB,JD,ZI l];rfl
def VX {vs:List D} (h1:l.Nodup) (h2:l.length<64) (h3: ∀a∈l,a.1.length<=aak):ZX [.dit (l.map hdK) vs]= .ok (.lst ((yP l).map hdD)):=by
 show (match JD (l.map hdK) with|some hs=>_|none=>_)=_;rw [ZI];exact jo ⟨h1,h2,abw.mpr fun a ha=>by simpa using h3 a ha⟩
def WK {f:α->D} (h: ∀a,D.eqb (f a)=true) (l:List α):D.eqbs (l.map f)=true:=Y5 fun t ht=>by
 obtain ⟨a,_,rfl⟩:=aat.mp ht;exact h a
def WP {f:α->D} {k:Nat} (h: ∀a,D.dep (f a)<=k) (l:List α):D.deps (l.map f)<=k:=Kb fun t ht=>by
 obtain ⟨a,_,rfl⟩:=aat.mp ht;exact h a
def jbR (h1:D.eqbs ds=true) (h2:D.deps ds<=100):eqR (.lst ds) (.lst ds)= .ok (.bl true)/\neR (.lst ds) (.lst ds)= .ok (.bl false):=by
 have h3:eqD (.lst ds) (.lst ds)=true:=WL _ (by simp only [D.eqb];exact h1);have hc:EqC (.lst ds) (.lst ds):= .inl ⟨by simp only [D.eqb];exact h1,by simp only [D.eqb];exact h1,by simp only [D.dep];omega⟩;unfold eqR neR;rw [jo hc,jo hc,h3];exact ⟨rfl,rfl⟩
def jbS (a:List Int):eqR (.lst (a.map .int)) (.lst (a.map .int))= .ok (.bl true)/\neR (.lst (a.map .int)) (.lst (a.map .int))= .ok (.bl false):=
 jbR (WK (fun _=>rfl) a) (aaw (WP (k:=0) (fun _=>aag _) a) (by decide))
end
end M
namespace M
open PySem PySem.Spec L2
open PyProof.Rows hiding St
def qP:aba "divmod" =some (.builtin "divmod"):=by decide+kernel
def qV:List D->Res D
 | [.int i,.int j]=>must (0<j/\j<1073741824) (.ok (.tup [.int (i/j),.int (i%j)]))
 |_=> .stuck
def wW {K:aab}:Zf K (fun xs H Q=> ∃i j,xs=[.int i,.int j]/\CDiv i j/\ ∀p,H p=none->Q (.ref p) (upd H p (.tup [.int (i/j),.int (i%j)]))) qV:=by
 intro A xs H ds d Q r e q;unfold qV at e
 split at e
 · obtain ⟨hc,e2⟩:=jq e;cases e2;obtain ⟨v,v',rfl,r1,r2⟩:=r.two;cases r1.intE;cases r2.intE;exact ⟨_,_,rfl,hc,fun p hp=>q _ _ (Same.upd hp) (.tup ju (.cons (.int _) (.cons (.int _) .nil))) (qh (Same.refl H) hp)⟩
 · cases e
def jaf:aba "sum" =some (.builtin "sum"):=by decide+kernel
def sumI:List Int->Int
 | []=>0
 |i::r=>i+sumI r
def jay (a b:List Int):sumI (a++b)=sumI a+sumI b:=by
 induction a with
 |nil=>simp [sumI]
 |cons i r ih=>simp [sumI,ih];omega
theorem QD (is:List Int): ∀k,k<=is.length->preSum (fun j=>is.getD j 0) k=sumI (is.take k)
 |0,_=>rfl
 |k+1,h=>by
  have hk:k<is.length:=by omega
  show preSum (fun j=>is.getD j 0) k+is.getD k 0=_;rw [QD is k (by omega),List.take_succ_eq_append_getElem hk,jay];simp [sumI,hk]
section
variable {X:Cx} {K:aab}
def u4 (hc:X.calm=true):CallR X (.builtin "sum") (fun xs H Q=> ∃(p:Addr) (is:List Int),xs=[.ref p]/\SqL X.K H p (is.map V.int)/\Q (.int (sumI is)) H):=by
 rintro pins s σ H xs us Q I r ⟨p,is,ex,hq,q⟩;subst ex;obtain ⟨u,rfl,ru⟩:=Jj r;cases ru;obtain ⟨its,rv,pl,hz⟩:=I.list hq;obtain ⟨v1,v2⟩:=Kp rv
 have hplt:p<s.heap.objs.size:=by
   obtain ⟨o,n,e,_⟩:=pl;exact aar e
 have hne:=aaF hplt;refine call_sum_walkAnyS (abU pl.isList ?_);have W:=afe (prog:=X.prog) (w:=X.w) (A:=X.A.in1) (I.ok.hd hc) s.heap.objs.size p hne its.toArray;have hs1:(s.heap.push {cls:= .type "list_iterator",data:= .fields #[.ref p,.int 0 0]}).objs.size=s.heap.objs.size+1:=abW ..;refine ⟨s.heap.objs.size,_,_,_,its.toArray.size,_,_,(fun j=>is.getD j 0),rfl,W.toS,⟨⟨_,aao _ rfl,rfl,rfl⟩,pl.isList.push _⟩,fun b hb=>?_,fun i v hP=>v2 i v (by simpa using hP),fun s' t' hm=>?_⟩
 · simp at hb;rw [hs1];rcases hb with rfl|rfl
   · exact adf _
   · exact adL hplt
 · rw [Moved.eq_with hm]
   have e:preSum (fun j=>is.getD j 0) its.toArray.size=sumI is:=by
     have hsz:its.toArray.size=is.length:=by simpa using v1
     rw [hsz,QD is _ (aag _),List.take_length]
   refine ⟨.int (sumI is),H,I.kept fun b o eo=>?_,⟨t',by rw [e]⟩,q⟩;refine hm.heap b o (fun hb=>?_) (aac _ eo);have hlt:=aar eo;simp at hb;exact absurd hb (aaF hlt)
def jax:List D->Res D
 | [.lst ds]=>match QW ds with
  |some is=> .ok (.int (sumI is))
  |none=> .stuck
 |_=> .stuck
def jez:Yk K (fun xs H Q=> ∃(p:Addr) (is:List Int),xs=[.ref p]/\SqL K H p (is.map V.int)/\Q (.int (sumI is)) H) jax:=by
 intro xs H ds d Q r e q;unfold jax at e
 split at e
 · split at e
   · rename_i es is hbs;cases e;obtain ⟨v,rfl,r1⟩:=r.one;obtain ⟨p,ys,rfl,hp,_,ry⟩:=r1.lstE;rw [ZE hbs] at ry;have:=Xe ry;subst this;exact ⟨p,is,rfl,.of hp,q _ (jhK _)⟩
   · cases e
 · cases e
end
open PySem.SeqAt (EqAt RcAt RcNeAt)
open AutoSeq1 (wpAny_loadPart') in
mutual
def gtD:D->D->Bool
 | .int i,.int j=>decide (j<i)
 | .str x,.str y=>decide (y.cps.toList<x.cps.toList)
 | .tup a,.tup b=>gtDs a b
 |_,_=>false
def gtDs:List D->List D->Bool
 |a::as,b::bs=>if eqD a b=true then gtDs as bs else gtD a b
 |a::as,[]=>true
 | [],_=>false
end
mutual
def cmpb:D->D->Bool
 | .int _,.int _=>true
 | .str _,.str _=>true
 | .tup a,.tup b=>cmpbs a b
 |_,_=>false
def cmpbs:List D->List D->Bool
 |a::as,b::bs=>if eqD a b=true then cmpbs as bs else cmpb a b
 |_,_=>true
end
end M
namespace M
open PySem PySem.Spec L2
open Classical in
noncomputable instance decD:DecidableEq D:=fun a b=>propDecidable (a=b)
mutual
def nb:D->Bool
 | .int _=>true
 | .str _=>true
 | .tup ds=>nbs ds
 |_=>false
def nbs:List D->Bool
 | []=>true
 |d::r=>nb d&&nbs r
end
def jgH (a:D):Prop:=nb a=true-> ∀b,nb b=true->(eqD a b=true↔a=b)
theorem Vq: ∀ {as:List D},(∀a∈as,jgH a)->nbs as=true-> ∀bs,nbs bs=true->(eqDs as bs=true↔as=bs)
 | [],_,_,[],_=>by simp [eqDs]
 | [],_,_,b::bs,_=>by simp [eqDs]
 |a::as,_,_,[],_=>by simp [eqDs]
 |a::as,h,ha,b::bs,hb=>by
  simp only [nbs,aaD] at ha hb;simp only [eqDs,aaD,adB];rw [h a (by simp) ha.1 b hb.1,Vq (fun x hx=>h x (by simp [hx])) ha.2 bs hb.2]
def WM (a:D):jgH a:=by
 refine D.ind ?_ ?_ ?_ ?_ ?_ ?_ ?_ ?_ a
 · intro h;simp [nb] at h
 · intro b h;simp [nb] at h
 · intro i _ b hb;cases b<;>first| (simp [nb] at hb;done)|simp [eqD]
 · intro x _ b hb;cases b<;>first| (simp [nb] at hb;done)|simp [eqD]
 · intro ds ih ha b hb
   cases b with
   |tup es=>
    simp;exact Vq ih (by simpa only [nb] using ha) es (by simpa only [nb] using hb)
   |int i=>simp [eqD]
   |str x=>simp [eqD]
   |_=>simp [nb] at hb
 · intro ds _ h;simp [nb] at h
 · intro ds _ h;simp [nb] at h
 · exact ⟨fun ks ds _ h=>by simp [nb] at h,fun ks ds _ h=>by simp [nb] at h,fun c h=>by simp [nb] at h,fun ks ds _ h=>by simp [nb] at h,fun ks ds _ h=>by simp [nb] at h,fun c ns ds _ h=>by simp [nb] at h⟩
def jcF {a b:D} (ha:nb a=true) (hb:nb b=true):eqD a b=decide (a=b):=by
 have:=WM a ha b hb
 by_cases h:a=b
 · rw [decide_eq_true h];exact this.mpr h
 · rw [decide_eq_false h]
   cases e:eqD a b with
   |false=>rfl
   |true=>exact absurd (this.mp e) h
def Tot (a:D):Prop:=nb a=true-> ∀b,nb b=true->cmpb a b=true->a=b\/gtD a b=true\/gtD b a=true
def jcX (x y:Str):x=y\/y.cps.toList<x.cps.toList\/x.cps.toList<y.cps.toList:=by
 by_cases e:x=y
 · exact .inl e
 · right
   have:x.cps.toList≠y.cps.toList:=fun z=>e (UW z)
   by_cases z:y.cps.toList<x.cps.toList
   · exact .inl z
   · exact .inr (Std.lt_of_le_of_ne z this)
theorem tots: ∀ {as:List D},(∀a∈as,Tot a)->nbs as=true-> ∀bs,nbs bs=true->cmpbs as bs=true->as=bs\/gtDs as bs=true\/gtDs bs as=true
 | [],_,_,[],_,_=> .inl rfl
 | [],_,_,b::bs,_,_=> .inr (.inr (by simp [gtDs]))
 |a::as,_,_,[],_,_=> .inr (.inl (by simp [gtDs]))
 |a::as,h,ha,b::bs,hb,hc=>by
  simp only [nbs,aaD] at ha hb
  by_cases e:a=b
  · subst e;have e1:=(WM a ha.1 a ha.1).mpr rfl;simp only [cmpbs,e1,if_true] at hc;simp only [gtDs,e1,if_true,adB,true_and];exact tots (fun x hx=>h x (by simp [hx])) ha.2 bs hb.2 hc
  · have e1:eqD a b=false:=by rw [jcF ha.1 hb.1];exact decide_eq_false e
    have e2:eqD b a=false:=by rw [jcF hb.1 ha.1];exact decide_eq_false fun z=>e z.symm
    simp only [cmpbs,e1,abd,if_false] at hc;simp only [gtDs,e1,e2,abd,if_false];rcases h a (by simp) ha.1 b hb.1 hc with z|z
    · exact absurd z e
    · exact .inr z
def tot (a:D):Tot a:=by
 refine D.ind ?_ ?_ ?_ ?_ ?_ ?_ ?_ ?_ a
 · intro h;simp [nb] at h
 · intro b h;simp [nb] at h
 · intro i _ b hb hc
   cases b with
   |int j=>
    simp only [gtD,D.int.injEq,decide_eq_true_eq];omega
   |_=>simp [cmpb] at hc
 · intro x _ b hb hc
   cases b with
   |str y=>
    simp only [gtD,D.str.injEq,decide_eq_true_eq];exact jcX x y
   |_=>simp [cmpb] at hc
 · intro ds ih ha b hb hc
   cases b with
   |tup es=>
    simp;exact tots ih (by simpa only [nb] using ha) es (by simpa only [nb] using hb) (by simpa only [cmpb] using hc)
   |_=>simp [cmpb] at hc
 · intro ds _ h;simp [nb] at h
 · intro ds _ h;simp [nb] at h
 · exact ⟨fun ks ds _ h=>by simp [nb] at h,fun ks ds _ h=>by simp [nb] at h,fun c h=>by simp [nb] at h,fun ks ds _ h=>by simp [nb] at h,fun ks ds _ h=>by simp [nb] at h,fun c ns ds _ h=>by simp [nb] at h⟩
end M
namespace M
open PySem PySem.Spec L2
open PyProof.Rows hiding St
def QM {o:HO} (x:ObjOk P w H h a o): ∃ob,h.get? a=some ob:=by
 cases o with
 |lst xs=>obtain ⟨_,_,_,_,e⟩:=x;exact ⟨_,e⟩
 |tup xs=>obtain ⟨_,_,_,ob,e,_⟩:=x;exact ⟨_,e⟩
 |dK kvs=>obtain ⟨_,_,_,_,o,_,_,e,_⟩:=x;exact ⟨_,e⟩
 |dT kvs=>obtain ⟨_,_,_,_,o,_,_,e,_⟩:=x;exact ⟨_,e⟩
 |set S n=>obtain ⟨o,_,_,_,e,_⟩:=x;exact ⟨_,e⟩
 |ins C dx fs=>obtain ⟨_,_,_,e,_⟩:=x;exact ⟨_,e⟩
 |own y=>exact x
 |xd fs=>obtain ⟨_,⟨_,_,_,e,_⟩,_⟩:=x;exact ⟨_,e⟩
 |rng lo hi=>obtain ⟨_,_,_,e⟩:=x;exact ⟨_,e⟩
 |frz ob u=>obtain ⟨e,_⟩:=x;exact ⟨_,e⟩
 |tbl ps=>exact ⟨_,(show h.get? a=some _ from x)⟩
 |met f y=>exact ⟨_,(show h.get? a=some _ from x)⟩
 |ext φ=>obtain ⟨_,z,_⟩:=x;exact z
def CX1 (P:aay) (w:World):CXT:=fun outer H s E e s'=> ∃(a C:Addr) (H':Hp) (B:Heap) (a0:Value),e= .ref a/\s'.os=s.os/\aeS s'.gens/\Un (frs outer) [] H H' s.heap s'.heap/\HOk P w H' s'.heap/\H' a=none/\
 Heap.FlyingW B outer a (.ref C) a0 s'.heap/\(∀b,b∉frs outer->((∃o,s.heap.get? b=some o)\/ ∃u,H' b=some u)->B.get? b=s'.heap.get? b)/\E (.ref C) none H'
section
variable {P:aay} {w:World} {K:aab} {mg:Yx} {base:Heap} {N:List Str} {qual:Str} {scope:Scope} {f:Addr} {cd:Value} {A:aaV} {outer:List Env} {s0:aaf} {H0:Hp} {E:XK}
 {pins:List (Addr×Obj)} {σ:L2.St} {H:Hp} {s:aaf}
def vx {h' B:Heap} {a:Addr} {cls a0:Value} (I:Inv (cxOf (CX1 P w) P w K mg base N qual scope f cd A outer s0 H0 E) pins σ H {s with heap:=h})
   (fl:Heap.FlyingW B outer a cls a0 h') (inB: ∀b o,h.get? b=some o->b∉frs (cxOf (CX1 P w) P w K mg base N qual scope f cd A outer s0 H0 E).stack->((∃o,s0.heap.get? b=some o)\/ ∃u,H b=some u)->B.get? b=some o)
   (up: ∀b o,b∈frs (cxOf (CX1 P w) P w K mg base N qual scope f cd A outer s0 H0 E).stack->h.get? b=some o->(∀vs,o.data≠ .fields vs)-> ∃sl,h'.get? b=some {o with slots:=sl}):
   Un (frs outer) [] H0 H s0.heap h'/\HOk P w H h'/\ ∀b,b∉frs outer->((∃o,s0.heap.get? b=some o)\/ ∃u,H b=some u)->B.get? b=h'.get? b:=by
 have nfr: ∀b o,s0.heap.get? b=some o->b∉frs outer->b∉frs (cxOf (CX1 P w) P w K mg base N qual scope f cd A outer s0 H0 E).stack:=fun b o q hb hm=>by
   rcases aaG.mp (I.stkSub b hm) with e|e
   · have h1:s0.heap.objs.size<=b:=by rw [e];exact I.ok.above
     exact abq _ (aas (aar q) h1)
   · exact hb e
 have trk: ∀b u,H b=some u->b∉frs (cxOf (CX1 P w) P w K mg base N qual scope f cd A outer s0 H0 E).stack:=fun b u q hm=>by
   have:=I.stkFree b hm;rw [q] at this;cases this
 have B0:Un (frs outer) [] H0 H s0.heap h:=I.base;have FF:=I.stack
 have sub: ∀b∈frs outer,b∈frs (cxOf (CX1 P w) P w K mg base N qual scope f cd A outer s0 H0 E).stack:=fun b hb=>by
   show b∈frs (ac4 qual scope s0.heap.objs.size f cd::outer);unfold frs at hb ⊢;rw [acJ]
   split
   · exact hb
   · exact aal _ hb
 have slotOf: ∀b o,b∈frs (cxOf (CX1 P w) P w K mg base N qual scope f cd A outer s0 H0 E).stack->h.get? b=some o-> ∃sl,h'.get? b=some {o with slots:=sl}:=fun b o hb q=>by
   obtain ⟨_,o',ho',hd⟩:=FF.mem hb;rw [q] at ho';cases ho';exact up b o hb q hd
 refine ⟨⟨fun b o q n hb _=>?_,fun b o q n hb _=>?_,fun b o q n _=>B0.free b o q n (by simp),fun b o q _=>?_,B0.tups,B0.frzs,B0.tbls⟩,fun b u q=>?_,fun b hb hc=>?_⟩
 · have h1:=B0.keep b o q n hb (by simp);exact fl.1 b o (inB b o h1 (nfr b o q hb) (.inl ⟨o,q⟩))
 · obtain ⟨sl,h1⟩:=B0.slot b o q n hb (by simp);obtain ⟨sl',h2⟩:=slotOf b _ (sub b hb) h1;exact ⟨sl',h2⟩
 · obtain ⟨o',h1⟩:=B0.there b o q (by simp)
   by_cases hm:b∈frs (cxOf (CX1 P w) P w K mg base N qual scope f cd A outer s0 H0 E).stack
   · obtain ⟨sl,h2⟩:=slotOf b o' hm h1;exact ⟨_,h2⟩
   · exact ⟨o',fl.1 b o' (inB b o' h1 hm (.inl ⟨o,q⟩))⟩
 · have h0:=I.hok b u q;refine h0.stay (fun c v hc r=>?_) (fun _ z=>z) fun _ _ z=>z
   have ht: ∃u,H c=some u:=by
     rcases hc with z|z
     · rw [z];exact ⟨u,q⟩
     · exact ⟨_,z⟩
   obtain ⟨u',hu'⟩:=ht;exact fl.1 c v (inB c v r (trk c u' hu') (.inr ⟨u',hu'⟩))
 · have ht: ∃o,h.get? b=some o/\b∉frs (cxOf (CX1 P w) P w K mg base N qual scope f cd A outer s0 H0 E).stack:=by
     rcases hc with ⟨o,q⟩| ⟨u,q⟩
     · obtain ⟨o',h1⟩:=B0.there b o q (by simp);exact ⟨o',h1,nfr b o q hb⟩
     · obtain ⟨ob,h1⟩:=QM (show ObjOk P w H h b u from I.hok b u q);exact ⟨ob,h1,trk b u q⟩
   obtain ⟨o,h1,h2⟩:=ht;have h3:=inB b o h1 h2 hc;rw [h3,fl.1 b o h3]
def J2 {e:Addr} {vs:List Value} (I:Inv (cxOf (CX1 P w) P w K mg base N qual scope f cd A outer s0 H0 E) pins σ H {s with heap:=h}) (hx:Heap.MadeExcOf h s.heap e (.ref C) vs) (hE:E (.ref C) none H):
  (cxOf (CX1 P w) P w K mg base N qual scope f cd A outer s0 H0 E).xe (.ref e) s:=by
 have FF:=I.stack
 have FF2:h.FunFrames (PySem.W.hideAll h (frs (cxOf (CX1 P w) P w K mg base N qual scope f cd A outer s0 H0 E).stack)) (cxOf (CX1 P w) P w K mg base N qual scope f cd A outer s0 H0 E).stack:=
  PySem.W.funFrames_hide FF fun env he b hb=>adq.mpr ⟨env,he,hb⟩
 have hen:H e=none:=by
  cases q:H e with
  |none=>rfl
  |some u=>
   obtain ⟨ob,z⟩:=QM (show ObjOk P w H h e u from I.hok e u q);rw [hx.new] at z;cases z
 refine wpAny_leaves_madeW I.ok.frames rfl (fun b o q=>PySem.W.of_hideAll _ q) FF2 hx fun h' t fl tup hn ups=>?_
 obtain ⟨u1,u2,u3⟩:=vx I fl (fun b o q hb _=>PySem.W.hideAll_get _ q hb) fun b o hb q hd=>ups b o (hx.keeps b o q) hd
 exact ⟨e,C,H,_,_,rfl,I.os,I.bare,u1,u2,hen,fl,u3,hE⟩
def Wy {E1:XK} {e:Value} (I:Inv (cxOf (CX1 P w) P w K mg base N qual scope f cd A outer s0 H0 E) pins σ H s) (c:CX1 P w (cxOf (CX1 P w) P w K mg base N qual scope f cd A outer s0 H0 E).stack H s E1 e s')
  (hE: ∀C H',E1 (.ref C) none H'->E (.ref C) none H'):(cxOf (CX1 P w) P w K mg base N qual scope f cd A outer s0 H0 E).xe e s':=by
 obtain ⟨a,C,H',B,a0,rfl,os,bare,un,hok,ha,fl,cov,hE1⟩:=c;have J:=I.call' os un hok bare fun b hb=>absurd hb (by simp)
 refine wpAny_leaves_onW J.ok.frames rfl fl fun h' fl' ups=>?_
 have B0:Un (frs outer) [] H0 H s0.heap s.heap:=I.base
 obtain ⟨u1,u2,u3⟩:=vx J fl' (fun b o q hb hc=>by
  rw [cov b hb ?_,q];rcases hc with ⟨o',z⟩|z
  · obtain ⟨o2,z2⟩:=B0.there b o' z (by simp);exact .inl ⟨o2,z2⟩
  · exact .inr z) fun b o hb q hd=>ups b o q hd
 exact ⟨a,C,H',B,a0,rfl,J.os,J.bare,u1,u2,ha,fl',u3,hE C H' hE1⟩
end
abbrev NmC (K:aab) (c:Str) (C:Addr):Prop:=aan K aam c=some (some (.ref C))
def XE (K:aab) (c:Str) (H:Hp):XK:=fun cls _ H'=> ∃C,cls= .ref C/\NmC K c C/\Same H H'
def ThrB (X:Cx) (c:Str) (σ:L2.St) (H:Hp):Prop:= ∀pins H1 s e s',Same H H1->Inv X pins σ H1 s->CX1 X.prog X.w X.stack H1 s (XE X.K c H1) e s'->X.xe e s'
def ThrA (X:Cx) (c:Str) (H0:Hp):Prop:= ∀pins σ H (s:aaf) h e C vs,Same H0 H->NmC X.K c C->Inv X pins σ H {s with heap:=h}->Heap.MadeExcOf h s.heap e (.ref C) vs->X.xe (.ref e) s
structure Thr (X:Cx) (c:Str) (H0:Hp):Prop where
 a:ThrA X c H0
 b: ∀σ H,Same H0 H->ThrB X c σ H
def tEX (X:Cx) (l:Lv) (f:TK):TE:=fun σ H Q=> ∃G H0 env,EnvOk X.K G H0 env σ H/\
 ((∃d,f env= .ok d/\ ∀v H',Same H H'->Rep X.K (l.A G env σ) H' v d->l.T H v->Q v H')\/ ∃c,f env= .exc c/\ThrB X c σ H)
def tSX (X:Cx) (g:TH):TS:=fun E σ H=> ∃G H0 env,EnvOk X.K G H0 env σ H/\((∃o,g env= .ok o/\Post X.K G H0 env σ H E o)\/ ∃c,g env= .exc c/\Thr X c H0)
@[irreducible] def DEX (X:Cx) (l:Lv) (e:Expr) (f:TK):Prop:=PE X e (tEX X l f)
@[irreducible] def DSX (X:Cx) (st:Stmt) (g:TH):Prop:=PS X st (tSX X g)
@[irreducible] def DSsX (X:Cx) (st:List Stmt) (g:TH):Prop:=PSs X st (tSX X g)
def nx1 (r:Res α):Res α:=match r with
 | .ok a=> .ok a
 |_=> .stuck
def KR {r:Res α} {a:α} (h:nx1 r= .ok a):r= .ok a:=by
 cases r with
 |ok b=>exact h
 |exc c=>cases h
 |stuck=>cases h
def Ws {r:Res α} (h:nx1 r= .exc c):False:=by
 cases r<;>cases h
def yB {β:Type} {r:Res α} {f:α->Res β} (h:(r>>=f)= .exc c):r= .exc c\/ ∃a,r= .ok a/\f a= .exc c:=by
 cases r with
 |ok a=>exact .inr ⟨a,rfl,h⟩
 |exc d=>cases h;exact .inl rfl
 |stuck=>cases h
def Zp (g:TH):Sl->Res Out:=fun env=>nx1 (g env)
section
variable {X:Cx} {e c tg:Expr} {st:Stmt} {rest body orelse:List Stmt} {pos:Pos} {l:Lv} {f:TK} {g g1 g2:TH}
def DS.x (h:DS X st g):DSX X st (Zp g):=by
 with_unfolding_all exact (PS.imp h fun E σ H=>by
  rintro ⟨G,H0,env,k,q⟩;rcases q with ⟨o,e1,q⟩| ⟨c,e1,_⟩
  · exact ⟨G,H0,env,o,k,KR e1,q⟩
  · exact (Ws e1).elim)
def DSs.x (h:DSs X sts g):DSsX X sts (Zp g):=by
 with_unfolding_all exact (PSs.imp h fun E σ H=>by
  rintro ⟨G,H0,env,k,q⟩;rcases q with ⟨o,e1,q⟩| ⟨c,e1,_⟩
  · exact ⟨G,H0,env,o,k,KR e1,q⟩
  · exact (Ws e1).elim)
def wT (h1:DSX X st g1) (h2:DSsX X rest g2):DSsX X (st::rest) (seqO g1 g2):=by
 with_unfolding_all exact (PSs.imp (Ql h1 h2) fun E σ H=>by
  rintro ⟨G,H0,env,k,q⟩;rcases q with ⟨o,ef,q⟩| ⟨c,ef,th⟩
  · obtain ⟨o1,e1,e2⟩:=jd ef;refine ⟨G,H0,env,k,.inl ⟨o1,e1,?_⟩⟩
    cases o1 with
    |nx env1=>exact fun σ' H' k' f'=>⟨G,H0,env1,k',.inl ⟨o,e2,we f' q⟩⟩
    |rt fr d=>cases e2;exact q
    |bk e'=>cases e2;exact q
    |ct e'=>cases e2;exact q
  · rcases yB ef with e1| ⟨o1,e1,e2⟩
    · exact ⟨G,H0,env,k,.inr ⟨c,e1,th⟩⟩
    · cases o1 with
      |nx env1=>exact ⟨G,H0,env,k,.inl ⟨_,e1,fun σ' H' k' f'=>⟨G,H0,env1,k',.inr ⟨c,e2,th⟩⟩⟩⟩
      |rt fr d=>cases e2
      |bk e'=>cases e2
      |ct e'=>cases e2)
def wn (h1:DSX X st g1):DSsX X [st] g1:=by
 with_unfolding_all exact (PSs.imp (Z8 h1) fun E σ H q=>q)
def jeh (h:DEX X .t e f):DSX X (.Return (some e) pos) (retO f):=by
 with_unfolding_all exact (PS.imp (KJ h) fun E σ H=>by
  rintro ⟨G,H0,env,k,q⟩;rcases q with ⟨o,ef,q⟩| ⟨c,ef,th⟩
  · obtain ⟨d,e1,e2⟩:=jd ef;cases e2;exact ⟨G,H0,env,k,.inl ⟨d,e1,fun v H' s r nt=>q v H' (k.base.trans s) (r.weak fun a z=>z.2) fun _=>NewTop.grow k.base nt⟩⟩
  · rcases yB ef with e1| ⟨d,e1,e2⟩
    · exact ⟨G,H0,env,k,.inr ⟨c,e1,th.b σ H k.base⟩⟩
    · cases e2)
def ifX (t:TJ) (g1 g2:TH):Sl->Res Out:=fun env=>match t env with
 | .ok b=>if b=true then g1 env else g2 env
 |_=> .stuck
def uA {t:TJ} (hc:DT X c t) (h1:DSsX X body g1) (h2:DSsX X orelse g2):DSX X (.If c body orelse pos) (ifX t g1 g2):=by
 with_unfolding_all exact (PS.imp (kA hc h1 h2) fun E σ H=>by
  rintro ⟨G,H0,env,k,q⟩;have key: ∃b,t env= .ok b/\ifX t g1 g2 env=if b=true then g1 env else g2 env:=by
   cases e1:t env with
   |ok b=>exact ⟨b,rfl,by unfold ifX;rw [e1]⟩
   |_=>
     have z:ifX t g1 g2 env= .stuck:=by unfold ifX;rw [e1]
     rcases q with ⟨o,ef,_⟩| ⟨c,ef,_⟩<;>(rw [z] at ef;cases ef)
  obtain ⟨b,e1,e2⟩:=key;rw [e2] at q;refine ⟨G,H0,env,b,k,e1,fun H' s=>?_⟩
  cases b with
  |true=>
   rw [if_pos rfl] at q ⊢;rcases q with ⟨o,ef,q⟩| ⟨c,ef,th⟩
   · exact ⟨G,H0,env,k.grow s,.inl ⟨o,ef,we (Frm.refl s) q⟩⟩
   · exact ⟨G,H0,env,k.grow s,.inr ⟨c,ef,th⟩⟩
  |false=>
   rw [if_neg aaN] at q ⊢;rcases q with ⟨o,ef,q⟩| ⟨c,ef,th⟩
   · exact ⟨G,H0,env,k.grow s,.inl ⟨o,ef,we (Frm.refl s) q⟩⟩
   · exact ⟨G,H0,env,k.grow s,.inr ⟨c,ef,th⟩⟩)
def Vr (h:DEX X l e f) (hs:acq e none pos.line X.env=pure false:=by rfl):DSX X (.Expr e pos) (jbE f):=by
 with_unfolding_all exact (PS.imp (YE h hs) fun E σ H=>by
  rintro ⟨G,H0,env,k,q⟩;rcases q with ⟨o,ef,q⟩| ⟨c,ef,th⟩
  · obtain ⟨d,e1,e2⟩:=jd ef;cases e2;exact ⟨G,H0,env,k,.inl ⟨d,e1,fun v H' s r _=>q σ H' (k.grow s) (Frm.refl s)⟩⟩
  · rcases yB ef with e1| ⟨d,e1,e2⟩
    · exact ⟨G,H0,env,k,.inr ⟨c,e1,th.b σ H k.base⟩⟩
    · cases e2)
end
def spX (K:aab) (fr:Bool) (n:Nat) (F:TD):Sp:=fun vs H Q E=> ∃B ds,vs.length=n/\Reps K B H vs ds/\
 ((∃d,F ds= .ok d/\ ∀v H',Same H H'->Rep K (fun a=>H a=none\/B a) H' v d->(fr=true->NewTop H v)->Q v H')\/
  ∃c,F ds= .exc c/\ ∀C H',NmC K c C->Same H H'->E (.ref C) none H')
structure AvX (P:aay) (w:World) (K:aab) (mg:Yx) (base:Heap) (k:Nat) (x:Str) (ps:List Str) (fr:Bool) (F:TD):Prop where
 ex: ∃f fd,FnOk P w K mg base (CX1 P w) k f fd ps (spX K fr ps.length F)/\mg x=some (.ref f)/\aaZ K (.ref f)=true/\Binds K fd ps []
def AvX.mono {K:aab} {k:Nat} {x:Str} {F:TD} (h:AvX P w K mg base j x ps fr F) (hj:j<=k):AvX P w K mg base k x ps fr F:=
 let ⟨f,fd,a,b⟩:=h.ex
 ⟨f,fd,a.mono hj,b⟩
def callX (n:Nat) (F:TD) (g:TF):Sl->Res D:=fun env=>match g env with
 | .ok ds=>must (ds.length=n) (F ds)
 |_=> .stuck
section
variable {X:Cx} {k:Nat} {x:Str} {ps:List Str} {fr:Bool} {F:TD} {e:Expr} {es:List Expr} {p pos:Pos} {g:TF}
def kg {E:XK} {pins:List (Addr×Obj)} {σ:L2.St} {H:Hp} {s:aaf} {Q:VK} {us:List Value} {vs:List V} (F:FnOk X.prog X.w X.K X.mg X.base CX k f fd ps sp) (hr:Room k X.A) (hb:Binds X.K fd ps [])
  (I:Inv X pins σ H s) (r:Vals vs us) (h:sp vs H Q E) (hx: ∀e s',CX X.stack H s E e s'->X.xe e s'):wpAny (model X.prog X.w) X.A (call (.ref f) us) (EP X pins σ Q) X.xe s:=by
 have hl:us.length=ps.length:=by rw [←r.length];exact F.len _ _ _ _ h
 have hb':=hb s us I.kIn (by rw [abC];exact hl);rw [abC] at hb';refine adI (acI (F.run X.A X.stack s H ⟨us,[]⟩ us vs Q E hr I.env0 hb' r h) fun r s' hq=>?_)
 cases r with
 |error e=>exact hx e s' hq
 |ok fl=>
  cases fl with
  |ret u=>exact I.after hq
  |next=>exact abj hq
  |brk=>exact abj hq
  |cont=>exact abj hq
def AvX.call (A:AvX X.prog X.w X.K X.mg X.base k x ps fr F) (hr:Room k X.A) (ha:DA X .s (e::es) g) (hn:ps.length=n:=by rfl) (hg:Gl X x:=by rfl) (hdb:Z0 x:=by decide)
   (he:T9 X e es:=by exact jk rfl) (hpl:T8 X pos es:=by exact jz rfl):DEX X (if fr=true then .t else .s) (.Call (.Name x p) (e::es) [] pos) (callX n F g):=by
 subst hn;obtain ⟨f,fd,h1,h2,h3,h4⟩:=A.ex
 with_unfolding_all exact (by
 rintro pins s σ H Q I ⟨G,H0,env,kk,q⟩
 have key: ∃ds,g env= .ok ds/\callX ps.length F g env=must (ds.length=ps.length) (F ds):=by
   cases e1:g env with
   |ok ds=>exact ⟨ds,rfl,by unfold callX;rw [e1]⟩
   |_=>
     have z:callX ps.length F g env= .stuck:=by unfold callX;rw [e1]
     rcases q with ⟨o,ef,_⟩| ⟨c,ef,_⟩<;>(rw [z] at ef;cases ef)
 obtain ⟨ds,e1,e2⟩:=key;rw [e2] at q;refine acr (yW I hg h2 ?_ hdb);refine acO I.ok.mod.kin h3 (thn ((show PA X (e::es) (tA X.K .s g) from ha) pos pins s σ H (fun vs H1=>Same H H1/\Reps X.K (Sf G env σ) H1 vs ds) I ⟨G,H0,env,ds,kk,e1,fun vs H' s' r'=>⟨s',r'⟩⟩) fun us s1 ⟨vs,H1,I1,r,sm,rs⟩=>⟨I1.kIn,?_⟩) he hpl;rcases q with ⟨d,ef,q⟩| ⟨c,ef,th⟩
 · obtain ⟨hn,e3⟩:=jq ef;refine kg (E:=fun _ _ _=>False) h1 hr h4 I1 r ⟨_,ds,by rw [rs.length];exact hn,rs,.inl ⟨d,e3,fun v H2 s2 r2 nt=>?_⟩⟩ fun e s' cx=>?_
   · have r3:=r2.weak fun c z=>z.elim (fun z=>kk.new c (Same.free sm z)) fun z=>z
     cases fr with
     |true=>exact q v H2 (sm.trans s2) r3 ((nt rfl).grow sm)
     |false=>exact q v H2 (sm.trans s2) r3 trivial
   · obtain ⟨_,_,_,_,_,_,_,_,_,_,_,_,_,z⟩:=cx;exact z.elim
 · have hm:ds.length=ps.length/\F ds= .exc c:=by
     unfold must at ef
     by_cases hc:ds.length=ps.length
     · rw [if_pos hc] at ef;exact ⟨hc,ef⟩
     · rw [if_neg hc] at ef;cases ef
   refine kg (E:=XE X.K c H1) h1 hr h4 I1 r ⟨_,ds,by rw [rs.length];exact hm.1,rs,.inr ⟨c,hm.2,fun C H' hC s'=>⟨C,rfl,hC,s'⟩⟩⟩ fun e s' cx=>?_
   exact th pins H1 s1 e s' sm I1 cx)
end
def runX (fr:Bool) (n:Nat) (g:TH) (ds:List D):Res D:=match g (qC n ds) with
 | .ok (.rt fr' d)=>if fr=true/\fr'=false then .stuck else .ok d
 | .ok (.nx _)=> .ok .non
 | .exc c=> .exc c
 |_=> .stuck
def Z3 (h:runX fr n g ds= .exc c):g (qC n ds)= .exc c:=by
 unfold runX at h
 split at h
 · split at h<;>cases h
 · cases h
 · cases h;assumption
 · cases h
def JW (h:runX fr n g ds= .ok d):Meets fr n g ds d:=by
 unfold runX at h
 split at h
 · rename_i fr' d' e
   split at h
   · cases h
   · rename_i hn;cases h;refine .inl ⟨fr',e,fun hf=>?_⟩
     cases fr' with
     |true=>rfl
     |false=>exact absurd ⟨hf,rfl⟩ hn
 · rename_i env' e;cases h;exact .inr ⟨rfl,env',e⟩
 · cases h
 · cases h
section
variable {P:aay} {w:World} {K:aab} {mg:Yx} {base:Heap}
def jgw {x:Str} {st:Stmt} {k:Nat} (fr:Bool) {g:TH} (Fu:Fun K x x st f fd) (hmg:mg x=some (.ref f)) (S:FnScope N ps (jh st)) (hbi:Binds K fd ps [])
   (hb: ∀(cdv:Value) (A:aaV) (outer:List Env) (s:aaf) (H:Hp) (E:XK),Room k (A.deeper (ac4 x (jh st) s.heap.objs.size f cdv))->DSsX (cxOf (CX1 P w) P w K mg base N x (jh st) f cdv A outer s H E) (jI st) g):
   AvX P w K mg base (k+1) x ps fr (runX fr N.length g):=by
 refine ⟨f,fd,?_,hmg,Fu.kp,hbi⟩
 with_unfolding_all exact (by
 obtain ⟨oc,od,kV,doc,pm,an,cdv,ct,osl,rfl,lk,hcd⟩:=Fu.ex;refine jbn lk hcd S (fun vs H Q E ⟨B,ds,hl,_⟩=>hl) fun A outer s H vs Q E hr h=>?_
 obtain ⟨B,ds,hl,r,q⟩:=h;refine ⟨_,hb cdv A outer s H E hr,?_⟩;have kk:=JJ (N:=N) r;rcases q with ⟨d,e,q⟩| ⟨c,e,q⟩
 · rcases JW e with ⟨fr',z,hf⟩| ⟨rfl,env',z⟩
   · exact ⟨_,H,_,kk,.inl ⟨_,z,fun v H' s r nt=>q v H' s r fun hh=>nt (hf hh)⟩⟩
   · exact ⟨_,H,_,kk,.inl ⟨_,z,fun σ' H' k' f'=>q .non H' k'.base .non fun _ a e=>by cases e⟩⟩
 · refine ⟨_,H,_,kk,.inr ⟨c,Z3 e,fun pins σ H1 s1 h e C vs sm hC I hx=>J2 I hx (q C H1 hC sm),fun σ H1 sm pins H2 s1 e s' sm2 I cx=>Wy I cx fun C H' z=>?_⟩⟩;obtain ⟨C',e',hC,s3⟩:=z;cases e'
   exact q C H' hC (sm.trans (sm2.trans s3)))
end
def KH (c:Str):Sl->Res Out:=fun _=> .exc c
def jea {K:aab} (X:K.In h) (q:ac0 K C bmB newId=true):
   ∃bm N nm qn bs hdct sn sub ab col dd k0 k1 k2 k3 k5 mN,h.get? C=some (excClassObj nm qn C N bs bm hdct sn sub ab col dd k0 k1 k2 k3 k5 newId)/\h.Ns N mN/\mN "__init__" =none/\OwnTail h bmB bm:=by
 unfold ac0 at q
 split at q
 · rename_i dd cd sl ho
   split at q
   · rename_i C' bm k0 k1 k2 k3 n k5 hm hs;simp at q;obtain ⟨⟨⟨⟨⟨rfl,rfl⟩,hdel⟩,ht⟩,hok⟩,hni⟩:=q;obtain ⟨nm,bs,mro,ns,qn,hd,sn,sub,ab,col,del⟩:=cd;dsimp only at hm hdel hok hni;subst hm hdel
     have hsl:sl= #[k0,k1,k2,k3,some (.builtin n),k5]:=by
      obtain ⟨l⟩:=sl;simp only at hs;rw [hs]
     subst hsl;exact ⟨bm,ns,nm,qn,bs,hd,sn,sub,ab,col,dd,k0,k1,k2,k3,k5,_,X _ _ ho,.of_isNs (PySem.W.isNs_of_in X hok),PySem.W.nsMap_none_of_in X hok hni,PySem.W.tail_of_in X ht⟩
   · cases q
 · cases q
def Q6 {B initId:String} {e₀:Expr} {l:Lv} {np cpos pos:Pos} {f:TK} (hC:NmC X.K c C) (hm:X.mg c=some (.ref C)) (hq:ac0 X.K C bm newId=true) (FB:ExcBaseFacts B newId initId bm)
    (ha:DE X l e₀ f) (hok: ∀env,∃d,f env= .ok d) (hcalm:X.calm=true:=by rfl) (hg:Gl X c:=by rfl) (hdb:Z0 c:=by decide)
    (he:aai [e₀] X.env=(false,eval e₀ X.env)::aai [] X.env:=by exact jk rfl):
    DSX X (.Raise (some (.Call (.Name c np) [e₀] [] cpos)) none pos) (KH c):=by
 with_unfolding_all exact (by
  rintro pins s σ H E I ⟨G,H0,env,k,q⟩;rcases q with ⟨o,ef,_⟩| ⟨c',ef,th⟩
  · cases ef
  cases ef;obtain ⟨d,hd⟩:=hok env;obtain ⟨tl,N,nm,qn,bs,hdct,sn,sub,ab,col,dd,k0,k1,k2,k3,k5,mN,hCo,hN,hni,T⟩:=jea I.ok.mod.kin hq
  refine wpAny_Raise_call_subT (nm:=nm) (q:=qn) (N:=N) (bs:=bs) (hdct:=hdct) (sn:=sn) (sub:=sub) (ab:=ab) (col:=col) (dd:=dd) (k0:=k0) (k1:=k1) (k2:=k2) (k3:=k3) (k5:=k5)
    FB (T.hasType FB.hasBase) (I.ok.hd hcalm) (by rw [he];rfl) hni (yW I hg hm ⟨rfl,?_⟩ hdb)
  rw [he];refine Calls.evalArgs_plain (Calls.spliced_cons (thn ((show PE X e₀ (tE X.K l f) from ha) pins s σ H (fun v H1=>Same H H1) I ⟨G,H0,env,d,k,hd,fun v H' s' _ _=>s'⟩) fun u s1 ⟨v,H1,I1,r,sm⟩=>Calls.spliced_nil ?_))
  exact ⟨rfl,(by decide:1<=aak),I1.bk _ _ hCo,hN.keeps I1.bk,T.keeps I1.bk,fun h' e hx=>th.a pins σ H1 {s1 with heap:=h'} s1.heap e C _ (k.base.trans sm) hC I1 hx⟩)
def tSY (X:Cx) (g:TH):TS:=fun E σ H=> ∃G H0 env,EnvOk X.K G H0 env σ H/\((∃o,g env= .ok o/\Post X.K G H0 env σ H E o)\/ ∃c,g env= .exc c/\ThrB X c σ H)
@[irreducible] def DSY (X:Cx) (st:Stmt) (g:TH):Prop:=PS X st (tSY X g)
@[irreducible] def DSsY (X:Cx) (st:List Stmt) (g:TH):Prop:=PSs X st (tSY X g)
section
variable {X:Cx} {e c tg:Expr} {st:Stmt} {rest body orelse:List Stmt} {pos:Pos} {l:Lv} {f:TK} {g g1 g2:TH}
def ThrB.grow {c:Str} (h:ThrB X c σ H) (s:Same H H'):ThrB X c σ H':=fun pins H1 s1 e s' sm=>h pins H1 s1 e s' (s.trans sm)
def JK (h1:DSY X st g1):DSsY X [st] g1:=by
 with_unfolding_all exact (PSs.imp (Z8 h1) fun E σ H q=>q)
def Qs (i:Nat) {x:Str} (hN:X.N.Nodup) (h:DEX X .s e f) (hi:X.N[i]?=some x:=by rfl) (hx:Loc X.env.scope x:=by first|exact acg rfl|exact abA rfl) (hs:acq e (some (.Name x pos')) pos.line X.env=pure false:=by rfl)
   (hf:T7 X x:=by first|exact .inl rfl|exact .inr rfl|assumption):DSY X (.Assign [.Name x pos'] e pos) (jC i f):=by
 with_unfolding_all exact (
  PS.imp (kz hN hi hx h hs hf) fun E σ H=>by
   rintro ⟨G,H0,env,k,q⟩;rcases q with ⟨o,ef,q⟩| ⟨c,ef,th⟩
   · obtain ⟨d,e1,e2⟩:=jd ef;cases e2;exact ⟨G,H0,env,k,.inl ⟨d,e1,fun v H' s r _=>q _ H' ((k.grow s).setS r) (.set s fun _ _ z _=>by cases z)⟩⟩
   · rcases yB ef with e1| ⟨d,e1,e2⟩
     · exact ⟨G,H0,env,k,.inr ⟨c,e1,th⟩⟩
     · cases e2)
def jgi {t:TJ} (hc:DT X c t) (h1:DSsY X body g1) (h2:DSsY X orelse g2):DSY X (.If c body orelse pos) (ifX t g1 g2):=by
 with_unfolding_all exact (PS.imp (kA hc h1 h2) fun E σ H=>by
  rintro ⟨G,H0,env,k,q⟩;have key: ∃b,t env= .ok b/\ifX t g1 g2 env=if b=true then g1 env else g2 env:=by
   cases e1:t env with
   |ok b=>exact ⟨b,rfl,by unfold ifX;rw [e1]⟩
   |_=>
     have z:ifX t g1 g2 env= .stuck:=by unfold ifX;rw [e1]
     rcases q with ⟨o,ef,_⟩| ⟨c,ef,_⟩<;>(rw [z] at ef;cases ef)
  obtain ⟨b,e1,e2⟩:=key;rw [e2] at q;refine ⟨G,H0,env,b,k,e1,fun H' s=>?_⟩
  cases b with
  |true=>
   rw [if_pos rfl] at q ⊢;rcases q with ⟨o,ef,q⟩| ⟨c,ef,th⟩
   · exact ⟨G,H0,env,k.grow s,.inl ⟨o,ef,we (Frm.refl s) q⟩⟩
   · exact ⟨G,H0,env,k.grow s,.inr ⟨c,ef,th.grow s⟩⟩
  |false=>
   rw [if_neg aaN] at q ⊢;rcases q with ⟨o,ef,q⟩| ⟨c,ef,th⟩
   · exact ⟨G,H0,env,k.grow s,.inl ⟨o,ef,we (Frm.refl s) q⟩⟩
   · exact ⟨G,H0,env,k.grow s,.inr ⟨c,ef,th.grow s⟩⟩)
end
abbrev Cx.tryX (X:Cx) (E:Ud) (ps:List (Addr×Obj)):Cx:={X with xe:=E,pn:=X.pn++ps}
abbrev Cx.held (X:Cx) (e:Addr):Cx:={X with xe:=fun _ _=>False,A:=X.A.mark (some (.ref e)),calm:=false}
section
variable {X:Cx} {pins ps:List (Addr×Obj)} {σ:L2.St} {H:Hp} {s:aaf} {E:Ud} {e:Addr}
def jfH (ok:X.Ok):(Cx.tryX X E ps).Ok:=⟨ok.mod,ok.kind,ok.glob,ok.blt,ok.above,ok.inj,ok.has,ok.cab,ok.hd,ok.frames,ok.stk,ok.exf,ok.bs,ok.bsz,ok.noex,ok.exfs,ok.funs,ok.frf⟩
def ja2 (ok:(Cx.tryX X E ps).Ok):X.Ok:=⟨ok.mod,ok.kind,ok.glob,ok.blt,ok.above,ok.inj,ok.has,ok.cab,ok.hd,ok.frames,ok.stk,ok.exf,ok.bs,ok.bsz,ok.noex,ok.exfs,ok.funs,ok.frf⟩
def jdW (I:Inv X pins σ H s):Inv (Cx.tryX X E pins) [] σ H s:=⟨jfH I.ok,I.os,I.bare,I.base,I.loc,I.cell,I.free,I.freeC,fun p hp=>I.pin p (by simpa using hp),I.hok,I.len⟩
def xG (I:Inv (Cx.tryX X E pins) ps σ H s):Inv X pins σ H s:=⟨ja2 I.ok,I.os,I.bare,I.base,I.loc,I.cell,I.free,I.freeC,fun p hp=>I.pin p (abi _ hp),I.hok,I.len⟩
def Qk {D:Ends} {f:Flow} (h:SP (Cx.tryX X E pins) [] D f s'):SP X pins D f s':=by
 cases f with
 |next=>obtain ⟨σ',H',I,q⟩:=h;exact ⟨σ',H',xG I,q⟩
 |brk=>obtain ⟨σ',H',I,q⟩:=h;exact ⟨σ',H',xG I,q⟩
 |cont=>obtain ⟨σ',H',I,q⟩:=h;exact ⟨σ',H',xG I,q⟩
 |ret u=>obtain ⟨v,σ',H',I,r,q⟩:=h;exact ⟨v,σ',H',xG I,r,q⟩
def jdA (ok:X.Ok):(Cx.held X e).Ok:=⟨ok.mod,ok.kind,ok.glob,ok.blt,ok.above,ok.inj,ok.has,ok.cab,(fun z=>nomatch z),ok.frames,ok.stk,ok.exf,ok.bs,ok.bsz,ok.noex,ok.exfs,ok.funs,ok.frf⟩
def K9 (I:Inv X pins σ H s):Inv (Cx.held X e) pins σ H s:=⟨jdA I.ok,I.os,I.bare,I.base,I.loc,I.cell,I.free,I.freeC,I.pin,I.hok,I.len⟩
def yr (ok:X.Ok) (I:Inv (Cx.held X e) pins σ H s):Inv X pins σ H s:=⟨ok,I.os,I.bare,I.base,I.loc,I.cell,I.free,I.freeC,I.pin,I.hok,I.len⟩
def WF {M:Model} {A:aaV} {E:Ud} {x:Str} {pos:Pos} {Q:Unit->aaf->Prop} (I:Inv X pins σ H s) (hN:X.N.Nodup) (hi:X.N[i]?=some x) (hk:X.env.scope.names.lookup x=some .local)
   (h: ∀s',Inv X pins (σ.set i none) H s'->Q () s'):wpAny M A (do bindName X.env x .none;unbindBehindTheSuite X.env x pos) Q E s:=by
 obtain ⟨m,hn,hl⟩:=id I.loc;have hcls:(X.env.scope.kind== .class|| (X.env.scope.kind== .module&&X.env.locals !=X.env.globals))=false:=by rw [I.ok.kind];rfl
 have hiσ:i<σ.length:=by rw [I.len];exact (aav.mp hi).1
 have cne:=I.cne
 have tracked: ∀ {a:Addr} {h':Heap},(∃o,s.heap.get? a=some o/\H a=none)->ab8 a s.heap h'->HOk X.prog X.w H h':=fun {a h'} ha hs b ob e=>by
   obtain ⟨_,_,hfree⟩:=ha;refine (I.hok b ob e).stay (fun c w' hc q=>(hs.2 c ?_).trans q) (fun _ q=>q) fun _ _ q=>q
   rintro rfl;rcases hc with rfl|hc
   · rw [hfree] at e;cases e
   · rw [hfree] at hc;cases hc
 refine wpAny_nameGoes_keeps hk hn hcls fun h' v hn' hs=>?_
 obtain ⟨oL,_,_,hoL,_⟩:=id hn;refine h _ ⟨I.ok,I.os,I.bare,⟨fun b o e n hb hx=>?_,fun b o e n hb hx=>?_,I.base.free,fun b o e hx=>?_,I.base.tups,I.base.frzs,I.base.tbls⟩,⟨_,hn',fun j y v' e1 e2 e3=>?_⟩,fun y c e=>?_,I.free,I.freeC,fun p hp=>?_,tracked ⟨oL,hoL,I.free⟩ hs,by simpa using I.len⟩
 · exact (hs.2 b (aaF (aas (aar e) I.ok.above))).trans (I.base.keep b o e n hb hx)
 · obtain ⟨sl,e1⟩:=I.base.slot b o e n hb hx;exact ⟨sl,(hs.2 b (aaF (aas (aar e) I.ok.above))).trans e1⟩
 · obtain ⟨o',e1⟩:=I.base.there b o e hx;exact ⟨o',(hs.2 b (aaF (aas (aar e) I.ok.above))).trans e1⟩
 · by_cases hj:j=i
   · subst hj;rw [abp hiσ] at e2;cases e2
   · rw [ac6 (adh hj)] at e2;obtain ⟨u',r',q⟩:=hl j y v' e1 e2 e3;refine ⟨u',r',?_⟩;rcases q with ⟨k,e⟩| ⟨k,c,e,z⟩
     · refine .inl ⟨k,?_⟩;have:y≠x:=fun e=>hj (Wv hN e1 (e▸hi))
       simp [this,e]
     · exact .inr ⟨k,c,e,z.sameBut hs (cne y c e)⟩
 · obtain ⟨w',z⟩:=I.cell y c e;exact ⟨w',z.sameBut hs (cne y c e)⟩
 · obtain ⟨e,n,ne,nf,d⟩:=I.pin p hp;exact ⟨(hs.2 p.1 ne).trans e,n,ne,nf,d⟩
end
def vz {base:Heap} {h1 h' B:Heap} (un:Un (frs outer) [] H H' h h1) (hok:HOk P w H' h1) (fr: ∀b∈frs outer,H' b=none)
   (cov: ∀b,b∉frs outer->((∃o,h.get? b=some o)\/ ∃u,H' b=some u)->B.get? b=h1.get? b) (FF:h1.FunFrames base outer) (st:B.StaysIn h') (up:h1.UpToSlots h'):
   Un (frs outer) [] H H' h h'/\HOk P w H' h':=by
 have slotOf: ∀b o,b∈frs outer->h1.get? b=some o-> ∃sl,h'.get? b=some {o with slots:=sl}:=fun b o hb q=>by
   obtain ⟨_,o',ho',hd⟩:=FF.mem hb;rw [q] at ho';cases ho';exact up b o q hd
 refine ⟨⟨fun b o q n hb _=>?_,fun b o q n hb _=>?_,un.free,fun b o q _=>?_,un.tups,un.frzs,un.tbls⟩,fun b u q=>?_⟩
 · have h2:=un.keep b o q n hb (by simp);exact st b o ((cov b hb (.inl ⟨o,q⟩)).trans h2)
 · obtain ⟨sl,h2⟩:=un.slot b o q n hb (by simp);obtain ⟨sl',h3⟩:=slotOf b _ hb h2;exact ⟨sl',h3⟩
 · obtain ⟨o',h2⟩:=un.there b o q (by simp)
   by_cases hm:b∈frs outer
   · obtain ⟨sl,h3⟩:=slotOf b o' hm h2;exact ⟨_,h3⟩
   · exact ⟨o',st b o' ((cov b hm (.inl ⟨o,q⟩)).trans h2)⟩
 · refine (hok b u q).stay (fun c v hc r=>?_) (fun _ z=>z) fun _ _ z=>z
   have ht: ∃u,H' c=some u:=by
     rcases hc with z|z
     · rw [z];exact ⟨u,q⟩
     · exact ⟨_,z⟩
   obtain ⟨u',hu'⟩:=ht;have nm:c∉frs outer:=fun z=>by rw [fr c z] at hu';cases hu'
   exact st c v ((cov c nm (.inr ⟨u',hu'⟩)).trans r)
section
variable {K:aab} {G:Ue} {H0 H:Hp} {env:Sl} {σ:L2.St} {j:Nat}
def QE (o:j4 (env.set j .un) (σ.set j none) a):j4 env σ a:=by
 obtain ⟨i,d,h1,h2⟩:=o
 by_cases z:j=i
 · subst z;obtain ⟨q,_⟩:=jv h1;cases q
 · rw [jr z] at h1 h2;exact ⟨i,d,h1,h2⟩
def EnvOk.unset (k:EnvOk K G H0 env σ H):EnvOk K G H0 (env.set j .un) (σ.set j none) H:=by
 have w: ∀a,Sf G env σ a->Sf G (env.set j .un) (σ.set j none) a:=fun a n=>⟨fun o=>n.1 (QE o),n.2⟩
 refine ⟨by simp [k.len],k.base,k.g0,fun i e h=>?_,fun i e h=>?_,fun i i' e e' a h1 h2 h3 h4=>?_⟩
 · by_cases z:j=i
   · subst z;obtain ⟨q,_⟩:=jv h;cases q
   · rw [jr z] at h ⊢;obtain ⟨v',h1,h2⟩:=k.shr i e h;exact ⟨v',h1,h2.weak w⟩
 · by_cases z:j=i
   · subst z;obtain ⟨q,_⟩:=jv h;cases q
   · rw [jr z] at h ⊢;obtain ⟨a,h1,h2,h3⟩:=k.own i e h;exact ⟨a,h1,h2,h3.stay (fun _ _ e _=>e) w fun _ q=>q⟩
 · have n1:j≠i:=by rintro rfl;obtain ⟨q,_⟩:=jv h1;cases q
   have n2:j≠i':=by rintro rfl;obtain ⟨q,_⟩:=jv h2;cases q
   rw [jr n1] at h1 h3;rw [jr n2] at h2 h4;exact k.dis i i' e e' a h1 h2 h3 h4
def Frm.unset:Frm env σ H (env.set j .un) (σ.set j none) H:=⟨fun _ _ e _=>e,fun b o=> .inl (QE o),fun _ e=>e⟩
end
def outU (j:Nat):Out->Out
 | .nx env=> .nx (env.set j .un)
 | .bk env=> .bk (env.set j .un)
 | .ct env=> .ct (env.set j .un)
 | .rt fr d=> .rt fr d
def tryO (cs:List Str) (g:TH) (j:Nat) (gs:TH):Sl->Res Out:=fun env=>match g env with
 | .ok o=> .ok o
 | .exc c=>if cs.contains c=true then gs (env.set j (.shr (.exn c)))>>=fun o=> .ok (outU j o) else .stuck
 | .stuck=> .stuck
def jeU {fs:List Addr} (un:Un fs [] H H' h h') (hok:HOk P w H' h') (hn:h.get? a=none) (ha:H' a=none) (he:h'.get? a=some oe):
   Un fs [] H (upd H' a (.frz oe (.own a))) h h'/\HOk P w (upd H' a (.frz oe (.own a))) h':=by
 refine ⟨⟨un.keep,un.slot,fun b o q n hx=>?_,un.there,fun b xs q=>?_,fun b o u q=>?_,fun b ps q=>?_⟩,fun b u e=>?_⟩
 · rw [jL (by rintro rfl;rw [hn] at q;cases q)];exact un.free b o q n hx
 · have:=un.tups b xs q;rw [jL (jK this ha)];exact this
 · have:=un.frzs b o u q;rw [jL (jK this ha)];exact this
 · obtain ⟨m,e⟩:=un.tbls b ps q;exact ⟨m,by rw [jL (jK e ha)];exact e⟩
 · by_cases hb:b=a
   · subst hb;rw [ju] at e;cases e;exact ⟨he,oe,he⟩
   · rw [jL hb] at e;exact (hok b u e).stay (fun c v _ q=>q) (fun c q=>by rw [jL (jK q ha)];exact q) fun c xs q=>by rw [jL (jK q ha)];exact q
def jgk {n T:Str} {CT:Addr} {suite:List Stmt} {b₀:Stmt} {gs:TH} {np hpos pos:Pos} (cs:List Str) (j:Nat) (hN:X.N.Nodup) (hb: ∀E' ps,DSsY (Cx.tryX X E' ps) body g) (hs: ∀e,DSs (Cx.held X e) (b₀::suite) gs)
    (hT:X.mg T=some (.ref CT)) (hx: ∀c,cs.contains c=true-> ∀C,NmC X.K c C->aeF X.K (.ref C) (.ref CT)=some true)
    (hj:X.N[j]?=some n:=by rfl) (hl:X.env.scope.names.lookup n=some .local:=by rfl) (hst:X.stack=X.env::X.outer:=by rfl) (hfr:X.env.frame=some X.env.locals:=by rfl) (hg:Gl X T:=by rfl) (hdb:Z0 T:=by decide):
    DS X (.Try body [.ExceptHandler (some (.Name T np)) (some n) (b₀::suite) hpos] [] [] pos) (tryO cs g j gs):=by
 with_unfolding_all exact (by
  rintro pins s σ H E I ⟨G,H0,env,o,k,ef,q⟩
  refine wpAny_Try_except (acn ((hb (fun e s₁=>wpAny (model X.prog X.w) X.A (noteFrame e X.env) (fun _ s₂=>wpAny (model X.prog X.w) X.A (setFlight e none) (fun _ s₃=>
    wpAny (model X.prog X.w) X.A (handleBy e X.env [.ExceptHandler (some (.Name T np)) (some n) (b₀::suite) hpos]) (SP X pins E) X.xe s₃) X.xe s₂) X.xe s₁) pins) [] s σ H E (jdW I) ⟨G,H0,env,k,?_⟩) (fun f s1 hq=>?_) fun e s1 h=>h)
  · unfold tryO at ef
    cases eg:g env with
    |ok o'=>rw [eg] at ef;cases ef;exact .inl ⟨_,rfl,q⟩
    |stuck=>rw [eg] at ef;cases ef
    |exc c=>
     rw [eg] at ef;dsimp only at ef
     by_cases hc:cs.contains c=true
     · rw [if_pos hc] at ef;obtain ⟨o1,e1,e2⟩:=jd ef;cases e2;refine .inr ⟨c,rfl,fun pins' H1 s2 e s' sm I' cx=>?_⟩;have I1:=xG I';obtain ⟨a,C,H',B,a0,rfl,os,bare,un,hok,ha,fl,cov,C',eC,hC,sm2⟩:=cx;cases eC;have J:=I1.call' os un hok bare fun b hb=>absurd hb (by simp)
       have nb:a∉frs X.stack:=fun hm=>by
         obtain ⟨_,o',ho',hd⟩:=J.stack.mem hm;obtain ⟨oe,vs,he,_,hv,_⟩:=fl.first
         rw [he] at ho';cases ho';exact hd _ hv
       have hn:s2.heap.get? a=none:=by
         cases z:s2.heap.get? a with
         |none=>rfl
         |some o'=>
          obtain ⟨ob,hob,_⟩:=fl.there;have:=cov a nb (.inl ⟨o',z⟩);rw [fl.2.1,hob] at this;cases this
       refine wpAny_looks_onW (by rw [←hst];exact I.ok.frames) hfr (by rw [←hst];exact fl) fun h2 held up2=>?_
       refine wpAny_landsW held fun h3 fly3 up3=>?_
       obtain ⟨f1,f2,f3,f4⟩:=fly3;obtain ⟨U3,O3⟩:=vz un hok J.stkFree cov J.stack f1 (up2.trans up3);have I3:=I1.call' (s':={s' with heap:=h3}) os U3 O3 bare fun b hb=>absurd hb (by simp)
       refine wpAny_handleBy_cons (codeAny_handlers_test ?_) (by intro q;cases q);refine yW (K9 I3) hg hT ?_ hdb;obtain ⟨ob3,hob3,hc3⟩:=afg (Heap.TracedW.at f4);refine (PySem.W.exm_one I3.kIn (by rw [←hc3];exact (ad2 hob3).andThen .now) (hx c hc C hC)).here ?_;refine codeAny_handlers_suite_as ?_;refine wpAny_setFlight_noneW f1 f3 (Heap.TracedW.at f4) fun h4 st4 FF4 tr4 keep4=>?_
       have up4:=up2.trans (up3.trans fun b o e n=>⟨o.slots,keep4 b o e n⟩);obtain ⟨U4,O4⟩:=vz un hok J.stkFree cov J.stack st4 up4;obtain ⟨oe,hoe,hce⟩:=afg (Heap.TracedW.at tr4);obtain ⟨U5,O5⟩:=jeU U4 O4 hn ha hoe;have I5:=I1.call' (s':={s' with heap:=h4}) os U5 O5 bare fun b hb=>absurd hb (by simp)
       have sm5:Same H (upd H' a (.frz oe (.own a))):=(sm.trans sm2).trans (Same.upd ha);have rp:Rep X.K (Sf G env σ) (upd H' a (.frz oe (.own a))) (.ref a) (.exn c):= .exn ju hce hC;refine Qj (X:=Cx.held X a) (K9 I5) hN hj (.inl hl) (v:= .ref a) rfl (fun s6 I6=>?_) (.inr hl);have kS:=(k.grow sm5).setS (i:=j) rp;have fS:Frm env σ H (env.set j (.shr (.exn c))) (σ.set j (some (.ref a))) (upd H' a (.frz oe (.own a))):= .set sm5 fun _ _ z _=>by cases z
       refine acn ((hs a) pins s6 (σ.set j (some (.ref a))) _ ⟨fun σ' H'=>E.nx (σ'.set j none) H',E.rt,fun σ' H'=>E.bk (σ'.set j none) H',fun σ' H'=>E.ct (σ'.set j none) H'⟩ I6 ⟨G,H0,_,o1,kS,e1,?_⟩) (fun f s7 h7=>?_) fun _ _ z=>abj z
       · cases o1 with
         |nx env1=>exact fun σ' H3 k3 f3=>q _ H3 k3.unset ((fS.trans f3).trans .unset)
         |bk env1=>exact fun σ' H3 k3 f3=>q _ H3 k3.unset ((fS.trans f3).trans .unset)
         |ct env1=>exact fun σ' H3 k3 f3=>q _ H3 k3.unset ((fS.trans f3).trans .unset)
         |rt fr d=>exact q
       · cases f with
         |next=>
          obtain ⟨σ',H3,I7,q7⟩:=h7;exact WF (yr I.ok I7) hN hj hl fun s8 I8=>⟨_,H3,I8,q7⟩
         |brk=>
          obtain ⟨σ',H3,I7,q7⟩:=h7;exact WF (yr I.ok I7) hN hj hl fun s8 I8=>⟨_,H3,I8,q7⟩
         |cont=>
          obtain ⟨σ',H3,I7,q7⟩:=h7;exact WF (yr I.ok I7) hN hj hl fun s8 I8=>⟨_,H3,I8,q7⟩
         |ret u=>
          obtain ⟨v,σ',H3,I7,r7,q7⟩:=h7;exact WF (yr I.ok I7) hN hj hl fun s8 I8=>⟨v,_,H3,I8,r7,q7⟩
     · rw [if_neg hc] at ef;cases ef
  · cases f with
    |next=>exact aeb (Qk hq)
    |brk=>exact Qk hq
    |cont=>exact Qk hq
    |ret u=>exact Qk hq)
section
open PySem.W PySem.Calls
def jdT {K:Frag} {x t c:Value} {H:Heap->Prop} (ty: ∀(M:Model) (h:Heap),K.In h->H h->Looks M h (typeOf x) t) (e:aaT K t c=some true):Answers (fun s=>K.In s.heap/\H s.heap) x c true:=by
 intro dep tk prog w A R s hs;obtain ⟨h0,g,d,tt,os⟩:=s;obtain ⟨⟨X,p⟩,hq⟩:=hs;have LT:=ty (model prog w) h0 X p;unfold aaT at e;unfold acF.«isinstance.nested»;refine aaa (LT.at ?_)
 by_cases q:(t==c)=true
 · rw [if_pos q]
   first
    | ((repeat lk);exact hq tt)
    |exact aaa (adl (hq tt))
    |exact aaa (adl (aae (hq tt)))
 · rw [if_neg q] at e;rw [if_neg q];obtain ⟨hty,his,hsub⟩:=kit_cls X e;have LI:Looks (model prog w) h0 (isInstance x c) true:=LT.andThen hsub;refine aaa (hty.at ?_);rw [if_pos (by decide)]
   k_delta "plainIsInstance"
   refine aaa (aaa (his.at ?_));simp;refine aaa (LI.at ?_)
   first
    |exact aae (aae (hq tt))
    | (simp;first|exact aae (aae (hq tt))|exact aae (hq tt)|exact aaa (aae (aae (hq tt))))
def jdS {prog:aay} {w:World} {A:aaV} {E:Ud} {s:aaf} {Q:Ud} {K:Frag} {x t c:Value} {H:Heap->Prop} (ty: ∀(M:Model) (h:Heap),K.In h->H h->Looks M h (typeOf x) t)
  (X:K.In s.heap) (p:H s.heap) (e:aaT K t c=some true) (hx:x≠ .builtin "__main__.__loader__#opaque") (h: ∀tk,Q (.bool true) {s with toks:=tk}):
  wpAny (model prog w) A (call (.builtin "isinstance") [x,c]) Q E s:=
 call_isinstance
  (fun prog w A R s hs=>isinstance_outer (jdT ty e 0 _ prog w A R s hs) hx) ⟨⟨X,p⟩,h⟩
end
section
variable {X:Cx}
def jbW (cs:List Str) (hr: ∀u,RelV cV u->u=cv) (hk: ∀c,cs.contains c=true-> ∀C,NmC X.K c C->aaT X.K (.ref C) cv=some true):
  CallR X (.builtin "isinstance") (fun xs H Q=> ∃x c,xs=[x,cV]/\Rep X.K Any H x (.exn c)/\cs.contains c=true/\Q (.bl true) H):=by
 rintro pins s σ H xs us Q I r ⟨x,c,ex,rp,hc,q⟩;subst ex;obtain ⟨u,w',rfl,r1,r2⟩:=Yp r;cases hr w' r2
 cases rp with
 | @exn _ _ a b C o _ ha hC hn=>
  cases (show u=aau a from r1);obtain ⟨ho,_⟩:=(show ObjOk X.prog X.w H s.heap a (.frz o (.own b)) from I.hok a _ ha)
  exact jdS (fun M h _ p=>by rw [←hC];exact (ad2 p).andThen .now) I.kIn ho (hk c hc C hn) (fun z=>nomatch z) fun tk=>⟨.bl true,H,I.tok tk,rfl,q⟩
def isxD (cs:List Str):D->Res D
 | .exn c=>if cs.contains c=true then .ok (.bl true) else .stuck
 |_=> .stuck
def isxF (cs:List Str) (f:TK):Sl->Res D:=fun env=>f env>>=isxD cs
def jbg {cs:List Str} {a:D} (h:isxD cs a= .ok d): ∃c,a= .exn c/\cs.contains c=true/\d= .bl true:=by
 unfold isxD at h
 split at h
 · split at h
   · rename_i hc;cases h;exact ⟨_,rfl,hc,rfl⟩
   · cases h
 · cases h
def jep (cs:List Str) (T:String) (Ty:Str) {l l':Lv} {f:TK} {p p2 pos:Pos} (hk: ∀c,cs.contains c=true-> ∀C,NmC X.K c C->aaT X.K (.ref C) (.type T)=some true) (he:DE X l e f)
   (hg:Gl X "isinstance") (hm:X.mg "isinstance" =none) (hg2:Gl X Ty) (hm2:X.mg Ty=none) (hv:aba Ty=some (.type T)) (hn:Ty≠ "__name__" :=by decide)
   (hd:Z0 Ty:=by decide) (hs:aai [e,.Name Ty p2] X.env=(false,eval e X.env)::aai [.Name Ty p2] X.env:=by exact jk rfl)
   (hs2:aai [.Name Ty p2] X.env=(false,eval (.Name Ty p2) X.env)::aai [] X.env:=by exact jk rfl) (hpl:(abo pos (aai [.Name Ty p2] X.env)).any (·.1)=false:=by exact jz rfl):
   DE X l' (.Call (.Name "isinstance" p) [e,.Name Ty p2] [] pos) (isxF cs f):=by
 with_unfolding_all exact (
  PE.imp (xg (jbW cs (cV:= .ty T) (fun u r=>r) hk) hg hm aei (qg he (qg (kI (v:= .ty T) hg2 hm2 hv rfl hn hd) wJ hs2) hs) (by decide) (by decide) hs hpl) fun σ H Q=>by
   rintro ⟨G,H0,env,d,k,ef,q⟩;obtain ⟨a,e1,e2⟩:=jd ef;refine ⟨G,H0,env,a,k,e1,fun v H' s r _=>?_⟩;obtain ⟨c,rfl,hc,rfl⟩:=jbg e2
   exact ⟨v,c,rfl,r.weak Lv.weak_b,hc,q _ H' s (.bl true) (jhG (K:=X.K) true).T⟩)
def UG:CallR X (.type "dict") (fun xs H Q=> ∃a kvs,xs=[.ref a]/\H a=some (.dK kvs)/\ ∀p,H p=none->Q (.ref p) (upd H p (.dK kvs))):=by
 rintro pins s σ H xs us Q I r ⟨a,kvs,ex,ha,q⟩;subst ex;obtain ⟨u,rfl,rx⟩:=Jj r;cases rx;exact jbP I (.of ha) fun p s' hp I'=>⟨.ref p,_,I',rfl,q p hp⟩
def ZP:aba "dict" =some (.type "dict"):=by decide+kernel
def dupF (i:Nat):Sl->Res D:=fun env=>match env[i]? with
 |some (.own (.dic ks ds))=> .ok (.dic ks ds)
 |_=> .stuck
def jbK (i:Nat) {x:Str} {p p2 pos:Pos} (hg:Gl X "dict") (hm:X.mg "dict" =none) (hN:X.N[i]?=some x:=by rfl) (hv:Vis X.env.scope x:=by first|exact acg rfl|exact abA (acg rfl)|exact abA (abA rfl)) (hd:Z0 x:=by decide)
   (hcd:Zh x:=by decide) (hs:aai [.Name x p2] X.env=(false,eval (.Name x p2) X.env)::aai [] X.env:=by exact jk rfl):
   DE X .t (.Call (.Name "dict" p) [.Name x p2] [] pos) (dupF i):=by
 with_unfolding_all exact (
  PE.imp (Jr UG hg hm ZP (qg (xu hN hv hd hcd) wJ hs) (by decide) (by decide) hs (by exact jz rfl)) fun σ H Q=>by
   rintro ⟨G,H0,env,d,k,ef,q⟩;unfold dupF at ef
   split at ef
   · rename_i ks ds hi;cases ef;obtain ⟨a,kvs,h1,h2,h3,h4⟩:=KO k hi;refine ⟨_,h1,a,kvs,rfl,h2,fun p hp=>q _ _ (Same.upd hp) (.dic ju (k.new p hp) h3 rfl (h4.laid hp)) (qh (Same.refl H) hp)⟩
   · cases ef)
end
def XU:List Key->List D->List Key->List D->Bool
 |k::ks,d::ds,ks',ds'=>(match valD ks' ds' k with|some e=>eqD d e|none=>false)&&XU ks ds ks' ds'
 |_,_,_,_=>true
def DicC (ds ds':List D):Prop:=D.eqbs ds=true/\D.eqbs ds'=true/\D.deps ds<=190
instance (a b:List D):Decidable (DicC a b):=inferInstanceAs (Decidable (_/\_))
section
variable {X:Cx} {pins:List (Addr×Obj)} {σ:L2.St} {H:Hp} {s:aaf}
def jdY (I:Inv X pins σ H s) {A:aaV} {kvs':List (Key×V)} {vs':List (Key×Value)} (kv':KV kvs' vs') (r':Reps X.K Any H (kvs'.map (·.2)) ds') (hb':D.eqbs ds'=true):
  ∀ {kvs:List (Key×V)} {vs:List (Key×Value)} {ds:List D},KV kvs vs->Reps X.K Any H (kvs.map (·.2)) ds->D.eqbs ds=true->A.units+D.deps ds<cLine->PySem.W.KeqHits A s vs' vs (XU (kvs.map (·.1)) ds (kvs'.map (·.1)) ds'):=by
 intro kvs vs ds kv;unfold KV at kv
 induction kv generalizing ds with
 |nil=>intro r _ _;cases r;exact .nil
 | @cons p q ps qs h t ih=>
  intro r hb hu;obtain ⟨k,v⟩:=p;obtain ⟨k2,u⟩:=q;obtain ⟨rfl,ru⟩:=h
  cases r with
  | @cons _ _ _ d _ ds2 r1 r2=>
   simp only [D.eqbs,aaD] at hb;simp only [D.deps] at hu;have ihh:=ih r2 hb.2 (by omega);have hv:=kv'.val k;obtain ⟨g1,g2⟩:=Z5 k r';show PySem.W.KeqHits A s vs' ((k,u)::qs) ((match valD (kvs'.map (·.1)) ds' k with|some e=>eqD d e|none=>false)&&XU (ps.map (·.1)) ds2 (kvs'.map (·.1)) ds')
   cases e:valD (kvs'.map (·.1)) ds' k with
   |none=>
    rw [g2 e] at hv
    have hn:aeT vs' k=none:=by
     cases z:aeT vs' k with
     |none=>rfl
     |some y=>rw [z] at hv;exact hv.elim
    exact .miss hn
   |some d'=>
    obtain ⟨v',e1,r1'⟩:=g1 d' e;rw [e1] at hv
    cases z:aeT vs' k with
    |none=>rw [z] at hv;exact hv.elim
    |some y=>
     rw [z] at hv
     have hd':d'∈ds':=by
      unfold valD at e
      cases z2:((kvs'.map (·.1)).zip ds').find? fun p=>decide (p.1=k) with
      |none=>rw [z2] at e;cases e
      |some pr=>rw [z2] at e;cases e;exact (acB (List.mem_of_find?_eq_some z2)).2
     exact .hit z (Qr I d A v v' u y d' (by omega) r1 ru r1' hv hb.1 (JH hb' hd')) ihh
def rDic (K:aab) (neg:Bool):R2:=fun x y H Q=> ∃a b kvs kvs' ds ds',x= .ref a/\y= .ref b/\H a=some (.dK kvs)/\H b=some (.dK kvs')/\Reps K Any H (kvs.map (·.2)) ds/\Reps K Any H (kvs'.map (·.2)) ds'/\DicC ds ds'/\
 Q (.bl (if neg=true then !(kvs.length==kvs'.length&&XU (kvs.map (·.1)) ds (kvs'.map (·.1)) ds') else (kvs.length==kvs'.length&&XU (kvs.map (·.1)) ds (kvs'.map (·.1)) ds'))) H
def ja0 (hu:X.A.units+200<cLine):OpR X (abr .NotEq) (rDic X.K true):=by
 rintro pins s σ H x y v u Q I rx ry ⟨a,b,kvs,kvs',ds,ds',ex,ey,ha,hb,r,r',⟨c1,c2,c3⟩,q⟩;subst ex ey;cases rx;cases ry;obtain ⟨_,z1,vs,kv,dd⟩:=jbF I.hok ha;obtain ⟨_,z2,vs',kv',dd'⟩:=jbF I.hok hb;refine PySem.W.keq_ne z1 z2 dd dd' (by omega) (fun _=>jdY I kv' r' c2 kv r c1 ?_) ⟨.bl _,H,I,rfl,?_⟩
 · have:X.A.in1.units=X.A.units+1:=rfl;omega
 · rw [←kv.length,←kv'.length];exact q
end
def vc:D->D->Res D
 | .dic ks ds,.dic ks' ds'=>must (DicC ds ds') (.ok (.bl (!(ks.length==ks'.length&&XU ks ds ks' ds'))))
 |_,_=> .stuck
def ja7 {K:aab}:OpS K (rDic K true) vc:=fun x y H a b d Q ra rb e q=>by
 unfold vc at e
 split at e
 · obtain ⟨h1,e2⟩:=jq e;cases e2;obtain ⟨p,kvs,rfl,hp,_,rfl,r⟩:=ra.dicE;obtain ⟨p',kvs',rfl,hp',_,rfl,r'⟩:=rb.dicE;refine ⟨p,p',kvs,kvs',_,_,rfl,rfl,hp,hp',r.low,r'.low,h1,?_⟩;have:=q _ (jhG _);simpa using this
 · cases e
theorem Qc: ∀(more acc:List (Key×V)),((acc++more).map (·.1)).Nodup->Qd acc more=acc++more
 | [],acc,_=>by simp [Qd]
 |p::r,acc,h=>by
  have hn:putK acc p.1 p.2=acc++[p]:=by
   have: ∀q∈acc,q.1≠p.1:=fun q hq e=>by
    rw [aa3,aaB] at h;have h1:=(abI.mp h).2.2 q.1 (List.mem_map_of_mem hq) p.1 (by simp);exact h1 e
   unfold putK;rw [if_neg];intro z;obtain ⟨q,hq,e⟩:=ab6.mp z;exact this q hq (by simpa using e)
  show Qd (putK acc p.1 p.2) r=_;rw [hn,Qc r (acc++[p]) (by simpa using h)];simp
abbrev KF:=Int×(Sl->Res D)
end M
namespace PySem.AutoSeq1
open PySem Builtin
def tuple_mul1 (l:Addr) (items:Array Value) (n:Nat) (dd:Option Addr) (sl:Array (Option Value)) (u:Tok):
  Meets (acF.«tuple.__mul__» ⟨[.ref l,.int 1 u],[]⟩) (fun _ R s=>s.heap.get? l=some {cls:= .type "tuple",dict:=dd,data:= .seq items n,slots:=sl}/\R (.ok (.ret (aau l))) s):=
 .of_wp fun prog w A R s h=>by
  obtain ⟨hp,g,d,tk,os⟩:=s;obtain ⟨hl,h⟩:=h;have f1:=idx_int;have f2:=sub_tuple_tuple;have c1: ¬(decide ((1:Int)< -2^63)||decide ((1:Int)>=2^63))=true:=by decide
  have c2:(items.isEmpty|| (1:Int)==1)=true:=by simp
  wp_walk using aeg hl
  exact ⟨_,rfl,h⟩
end PySem.AutoSeq1
namespace M
open PySem PySem.Spec L2
open PyProof.Rows hiding St
section
variable {X:Cx}
def kq:R2:=fun x y H Q=> ∃l k xs,x= .ref l/\y= .int k/\H l=some (.tup xs)/\k=1/\Q (.ref l) H
def jaZ:OpR X (abP .Mult) kq:=by
 intro pins s σ H x y v u Q I rx ry h;obtain ⟨l,k,xs,rfl,rfl,hH,rfl,q⟩:=h;cases rx;obtain ⟨t,rfl⟩:=ry;obtain ⟨its,r,⟨ob,e,hc,n,hd⟩,z⟩:=I.tuple (.of hH);obtain ⟨c2,dd2,dt2,sl2⟩:=ob;have hc':=hc;have hd':=hd;subst hc' hd'
 refine wpAny_binaryOp_repeat_ref (by decide) ⟨_,e,rfl⟩ (fun s'=>typeIs_int s' 1 t) wM F.fills_int_mul ael Jp F.slot_int_index.lookup
  (adK ael (typeIs_int s 1 t) F.entry_int_rmul (F.args_int_rmul_2 _ _) (xH 1 t l its.toArray n dd2 sl2)
   ⟨e,rfl,⟨_,e,rfl⟩,adK adZ ⟨_,e,rfl⟩ F.entry_tuple_mul (F.args_tuple_mul_2 _ _) (AutoSeq1.tuple_mul1 l its.toArray n dd2 sl2 t) ⟨e,?_⟩⟩)
 exact ⟨.ref l,H,I,rfl,q⟩
def jc6:D->D->Res D
 | .tup ds,.int k=>if k=1 then .ok (.tup ds) else must (2<=k/\k<1000000/\ds.isEmpty=false/\ds.length*k.toNat<=aak) (.ok (.tup (aaP k.toNat ds).flatten))
 |_,_=> .stuck
def jaY:OpR X (abP .Mult) (fun x y H Q=>jaH X.K x y H Q\/kq x y H Q):=op_repT.or jaZ
def ja6 {K:aab}:OpD K (fun x y H Q=>jaH K x y H Q\/kq x y H Q) jc6:=by
 intro A x y H a b d Q ra rb e q;unfold jc6 at e
 split at e
 · rename_i ds k
   by_cases hk:k=1
   · rw [if_pos hk] at e;cases e;cases rb.intE;have ra':=ra;obtain ⟨p,xs,rfl,hp,rs⟩:=ra.tupE;refine .inr ⟨p,k,xs,rfl,rfl,hp,hk,q _ H (Same.refl H) (ra'.weak orA) fun c e o hq m=>?_⟩;cases e;rw [hp] at hq;cases hq;exact m
   · rw [if_neg hk] at e;exact .inl (jdE A x y H _ _ d Q ra rb (show repT (.tup ds) (.int k)=_ from e) q)
 · cases e
def WO:DSsX X [] (Zp nxO):=DSs.x jJ
def Qh:aba "ValueError" =some (.type "ValueError"):=by decide+kernel
end
section
variable {X:Cx} {k:Nat} {x:Str} {ps:List Str} {fr:Bool} {F:TD} {e:Expr} {es:List Expr} {p pos:Pos} {g:TF}
def DEX.s {f:TK} (h:DEX X .t e f):DEX X .s e f:=by
 with_unfolding_all exact (PE.imp h fun σ H Q=>by
  rintro ⟨G,H0,env,k,q⟩;rcases q with ⟨d,e1,q⟩|z
  · exact ⟨G,H0,env,k,.inl ⟨d,e1,fun v H' s r _=>q v H' s r trivial⟩⟩
  · exact ⟨G,H0,env,k,.inr z⟩)
def AvX.callT (A:AvX X.prog X.w X.K X.mg X.base k x ps true F) (hr:Room k X.A) (ha:DA X .s (e::es) g) (hn:ps.length=n:=by rfl) (hg:Gl X x:=by rfl) (hdb:Z0 x:=by decide)
  (he:T9 X e es:=by exact jk rfl) (hpl:T8 X pos es:=by exact jz rfl):DEX X .t (.Call (.Name x p) (e::es) [] pos) (callX n F g):=
 AvX.call A hr ha hn hg hdb he hpl
end
def xw (t:TC) (g:TH):D->Sl->Res Out:=fun d env=>match t d env with
 | .ok env'=>g env'
 |_=> .stuck
def forX (f:TF) (t:TC) (g:TH):Sl->Res Out:=fun env=>match f env with
 | .ok ds=>forD (xw t g) ds env
 |_=> .stuck
def jei {pos:Pos} {t:TC} (hp:PassesOwn (model X.prog X.w) X.A X.env X.xe) (hc:X.calm=true) (hi:DI X tg e fi) (hg:DG X tg t) (hb:DSsX X body g)
   (hs: ∀x,acd e X.env x=pure x:=by intro _;rfl):DSX X (.For tg e body [] pos) (forX fi t g):=by
 with_unfolding_all exact (
  PS.imp (jce hp hc hi hg hb hs) fun E σ H=>by
   rintro ⟨G,H0,env,k,q⟩;have key: ∃ds,fi env= .ok ds/\forX fi t g env=forD (xw t g) ds env:=by
     cases e1:fi env with
     |ok ds=>exact ⟨ds,rfl,by unfold forX;rw [e1]⟩
     |_=>
       have z:forX fi t g env= .stuck:=by unfold forX;rw [e1]
       rcases q with ⟨o,ef,_⟩| ⟨c,ef,_⟩<;>(rw [z] at ef;cases ef)
   obtain ⟨ds,e1,e2⟩:=key;rw [e2] at q;generalize hres:forD (xw t g) ds env=res at q;refine ⟨G,H0,env,ds,k,e1,fun J H1 P sm wk p0 pst=>?_⟩;have k1:=k.grow sm
   have q1:(∃o,res= .ok o/\Post X.K G H0 env σ H1 E o)\/ ∃c,res= .exc c/\Thr X c H0:=by
     rcases q with ⟨o,ef,q⟩|z
     · exact .inl ⟨o,ef,we (Frm.refl sm) q⟩
     · exact .inr z
   refine ⟨fun i m σ' H'=>m=ds.length-i/\i<=ds.length/\ ∃env',EnvOk X.K G H0 env' σ' H'/\Frm env σ H1 env' σ' H'/\forD (xw t g) (ds.drop i) env'=res,⟨ds.length,by simp,abe _,env,k1,Frm.refl (Same.refl H1),by simpa using hres⟩,?_⟩;rintro i m σ' H' ⟨rfl,hi,env',k',f',e'⟩;obtain ⟨w1,w2,w3⟩:=wk i H' (pst env' σ' H' f')
   by_cases hd:i<ds.length
   · refine .inr ⟨w1 hd,?_⟩;rw [abX hd] at e'
     have e3:(xw t g ds[i] env'>>=fun o=>match o with
       | .nx env'=>forD (xw t g) (ds.drop (i+1)) env'
       | .ct env'=>forD (xw t g) (ds.drop (i+1)) env'
       | .bk env'=> .ok (.nx env')
       | .rt fr d=> .ok (.rt fr d))=res:=e'
     have key2: ∃env1,t ds[i] env'= .ok env1/\xw t g ds[i] env'=g env1:=by
       cases e5:t ds[i] env' with
       |ok env1=>exact ⟨env1,rfl,by unfold xw;rw [e5]⟩
       |_=>
         have z:xw t g ds[i] env'= .stuck:=by unfold xw;rw [e5]
         rw [z] at e3;have z2:=e3.symm;rcases q1 with ⟨o,ef,_⟩| ⟨c,ef,_⟩<;>(rw [z2] at ef;cases ef)
     obtain ⟨env1,e5,e6⟩:=key2;rw [e6] at e3;refine ⟨fun σ2 H2=>ds.length-(i+1)=ds.length-(i+1)/\i+1<=ds.length/\ ∃env2,EnvOk X.K G H0 env2 σ2 H2/\Frm env σ H1 env2 σ2 H2/\forD (xw t g) (ds.drop (i+1)) env2=res,fun σ2 H2 z=>⟨ds.length-(i+1),by omega,z⟩,fun x H2 y=>?_⟩
     obtain ⟨sm2,rd⟩:Same H' H2/\Rep X.K (Sf G env' σ') H2 x ds[i]:=by
       rcases w2 _ (aad hd) x H2 y with ⟨rfl,rd⟩| ⟨p,vs,es,hp,rfl,rfl,ed,rds⟩
       · exact ⟨Same.refl _,f'.rep k1 rd⟩
       · refine ⟨Same.upd hp,?_⟩;rw [ed];exact .tup ju ((f'.reps k1 rds).grow (Same.upd hp))
     refine ⟨G,H0,env',ds[i],env1,k'.grow sm2,rd,e5,fun σ1 kk1 ff1=>⟨G,H0,env1,kk1,?_⟩⟩;have fr1:=(f'.trans (Frm.refl sm2)).trans ff1
     cases eg:g env1 with
     |stuck=>
       rw [eg] at e3;have z2:=e3.symm;rcases q1 with ⟨o,ef,_⟩| ⟨c,ef,_⟩<;>(rw [z2] at ef;cases ef)
     |exc c1=>
       rw [eg] at e3;have z2:=e3.symm;rcases q1 with ⟨o,ef,_⟩| ⟨c,ef,th⟩
       · rw [z2] at ef;cases ef
       · rw [z2] at ef;cases ef;exact .inr ⟨c1,rfl,th⟩
     |ok o1=>
       rw [eg] at e3;refine .inl ⟨o1,rfl,?_⟩
       cases o1 with
       |nx env2=>exact fun σ2 H3 kk2 ff2=>⟨rfl,hd,env2,kk2,fr1.trans ff2,e3⟩
       |ct env2=>exact fun σ2 H3 kk2 ff2=>⟨rfl,hd,env2,kk2,fr1.trans ff2,e3⟩
       |bk env2=>
         have z2:=e3.symm;rcases q1 with ⟨o,ef,q1⟩| ⟨c,ef,_⟩
         · rw [z2] at ef;cases ef;exact fun σ2 H3 kk2 ff2=>q1 σ2 H3 kk2 (fr1.trans ff2)
         · rw [z2] at ef;cases ef
       |rt fr dd=>
         have z2:=e3.symm;rcases q1 with ⟨o,ef,q1⟩| ⟨c,ef,_⟩
         · rw [z2] at ef;cases ef;exact q1
         · rw [z2] at ef;cases ef
   · have he:i=ds.length:=by omega
     refine .inl ⟨w3 (by omega),?_⟩;rw [adD (by omega)] at e';have z2:=e'.symm;rcases q1 with ⟨o,ef,q1⟩| ⟨c,ef,_⟩
     · rw [z2] at ef;cases ef;exact q1 σ' H' k' f'
     · rw [z2] at ef;cases ef)
end M
namespace M
open PySem PySem.Spec PySem.W PySem.Calls
open PyProof.Rows hiding St
open Builtin Builtin.ObjectAttr Builtin.Getset_descriptor
section
variable {prog:aay} {w:World} {A:aaV} {E:Ud} {h:Heap} {g:Array GenState} {d:Drawn} {t:Nat} {os:OsState} {a C:Addr} {o:Obj} {K:Frag}
def jas {R:Result->aaf->Prop} {tp:Value} (X:K.In h) (ho:h.get? a=some o) (hc:o.cls= .ref C) (hm:mroIn K C (.type "object")=some true) (hq:R (.ok (.ret (.ref C))) ⟨h,g,d,t,os⟩):
  adX (model prog w) A (.call (.builtin "getset_descriptor.__get__") ⟨[.builtin "object.__class__",.ref a,tp],[]⟩) R ⟨h,g,d,t,os⟩:=by
 have L0:Looks (model prog w) h (typeOf (.ref a)) (.ref C):=hc▸(ad2 ho).andThen .now;have L1:=looks_mroIn (M:=model prog w) X hm;refine ad3 KF.slot_gs.plain KF.entry_gs (KF.slot_gs.check _ _ _ _ _ _ _ _ KF.type_class (KF.args_gs _ _ _) ?_);unfold acF.«getset_descriptor.__get__» descrGet;rw [dga_obj];refine aaa (aae ?_);unfold descrGetter descrCheckInstance descrNameAndClass isInstance;simp only [KF.owner_class]
 repeat lk
 refine ⟨Code.quiet_builtin _ (by decide+kernel),acW KF.entry_class ?_⟩;unfold acF.«object.__class__» shownTypeOf
 repeat lk
 exact hq
def UK (X:K.In h) (ha:abg K (.ref C) "__class__" =some (some (.builtin "object.__class__"))) (hn:ae0 K (.builtin "object.__class__") "__get__" =some (some (.builtin "getset_descriptor.__get__"))) (htk:takesIn K (.builtin "object.__class__")=some true):
  Looks (model prog w) h (find (.ref a) (.ref C) "__class__") (.bind (.builtin "getset_descriptor.__get__") (.builtin "object.__class__")):=
 (aeC X ha).andThen ((show Looks (model prog w) h (getOf (some (.builtin "object.__class__"))) (some (.builtin "getset_descriptor.__get__")) from looks_specialIn X hn).andThen
  ((show Looks (model prog w) h (dataDescriptor? (some (.builtin "object.__class__")) (some (.builtin "getset_descriptor.__get__"))) (some (.builtin "getset_descriptor.__get__",.builtin "object.__class__")) from (looks_takesIn X htk).andThen .now).andThen (Looks.tag .now)))
def VQ {tk:Tok} {Q:Fin->aaf->Prop} (X:K.In h) (ho:h.get? a=some o) (hc:o.cls= .ref C) (hm:mroIn K C (.type "object")=some true)
  (ha:abg K (.ref C) "__class__" =some (some (.builtin "object.__class__"))) (hn:ae0 K (.builtin "object.__class__") "__get__" =some (some (.builtin "getset_descriptor.__get__"))) (htk:takesIn K (.builtin "object.__class__")=some true)
  (hq:Q (.done (.ret (.ref C))) ⟨h,g,d,t,os⟩):wpAny (model prog w) A (acF.«object.__getattribute__» ⟨[.ref a,.str "__class__" tk],[]⟩) Q E ⟨h,g,d,t,os⟩:=by
 have L0:Looks (model prog w) h (typeOf (.ref a)) (.ref C):=hc▸(ad2 ho).andThen .now;have L1:=UK (prog:=prog) (w:=w) (a:=a) X ha hn htk;refine aaa (aae ?_);refine aaa (aae ?_);refine aaa (L0.at ?_);refine aaa (L1.at ?_);exact aaa (aa4 (adI (jas X ho hc hm (aae hq))))
def UL {tk:Tok} {R:Result->aaf->Prop} (X:K.In h) (ho:h.get? a=some o) (hc:o.cls= .ref C) (hm:mroIn K C (.type "object")=some true) (hb:subIn K (.ref C) (.type "BaseException")=some true)
  (ha:abg K (.ref C) "__class__" =some (some (.builtin "object.__class__"))) (hn:ae0 K (.builtin "object.__class__") "__get__" =some (some (.builtin "getset_descriptor.__get__"))) (htk:takesIn K (.builtin "object.__class__")=some true)
  (hq:R (.ok (.ret (.ref C))) ⟨h,g,d,t,os⟩):adX (model prog w) A (.call (.builtin "BaseException.__getattribute__") ⟨[.ref a,.str "__class__" tk],[]⟩) R ⟨h,g,d,t,os⟩:=by
 have L0:Looks (model prog w) h (typeOf (.ref a)) (.ref C):=hc▸(ad2 ho).andThen .now;have L1:Looks (model prog w) h (isSubtype (.ref C) (.type "BaseException")) true:=looks_subIn X hb;refine ad3 F.excAttr_ValueError.ga.plain F.entry_bexc_ga ?_;have hk:builtinKind "BaseException.__getattribute__" =some .slot:=by kernel_rfl
 have hsp:splitId "BaseException.__getattribute__" =some ("BaseException", "__getattribute__"):=by kernel_rfl
 have LI:Looks (model prog w) h (isInstance (.ref a) (.type "BaseException")) true:=L0.andThen L1;have ha2:=F.args_bexc_ga (.ref a) (.str "__class__" tk);simp only [checkBuiltinCall,hk,hsp];refine aaa (LI.at ?_);simp
 have fin:wpAny (model prog w) A.in1 (acF.«object.__getattribute__» ⟨[.ref a,.str "__class__" tk],[]⟩) (fun fin s'=>match fin with| .done f=>R (.ok f) s'| .again c'=>c'.quiet=true/\adX (model prog w) A c' R s') (fun e s'=>R (.error e) s') ⟨h,g,d,t,os⟩:=
  VQ X ho hc hm ha hn htk hq
 cases hsig:Manifest.signature? "BaseException.__getattribute__" with
 |none=>exact aae fin
 |some sig=>
  simp only [argsOk,hsig] at ha2;have h2:=ha2;show wpAny _ _ (Bind.checkArgs "BaseException.__getattribute__" sig ⟨[.ref a,.str "__class__" tk],[]⟩) _ _ _;rw [h2];exact aae fin
structure ExcC (K:Frag) (C:Addr):Prop where
 cls:(clsIn K C).isSome=true
 obj:mroIn K C (.type "object")=some true
 base:subIn K (.ref C) (.type "BaseException")=some true
 own:abg K (.ref C) "__class__" =some (some (.builtin "object.__class__"))
 get:ae0 K (.builtin "object.__class__") "__get__" =some (some (.builtin "getset_descriptor.__get__"))
 tak:takesIn K (.builtin "object.__class__")=some true
 ga:abg K (.ref C) "__getattribute__" =some (some (.builtin "BaseException.__getattribute__"))
 hk:abg K (.ref C) "__getattr__" =some none
def UM {Q:Option Value->aaf->Prop} (X:K.In h) (c:ExcC K C) (ho:h.get? a=some o) (hc:o.cls= .ref C) (hq:Q (some (.ref C)) ⟨h,g,d,t+1,os⟩):wpAny (model prog w) A (getAttr? (.ref a) "__class__") Q E ⟨h,g,d,t,os⟩:=by
 have L0:Looks (model prog w) h (typeOf (.ref a)) (.ref C):=hc▸(ad2 ho).andThen .now;have L1:=aeC (M:=model prog w) X c.ga;have L2:=aeC (M:=model prog w) X c.hk;unfold getAttr? getAttrBy? getAttrBy;refine aaa (wpAny_mkText (aaa (adz (aa4 (aaa (L0.at (aaa (L1.at ?_))))))));unfold getAttrByItsOwn hookBefore;refine aaa (L2.at ?_);refine aaa (adz (aa4 ?_));show wpAny _ _ (boundAndCalled _ _ _) _ _ _;unfold boundAndCalled;rw [F.excAttr_ValueError.ga.bind (.ref a)];refine aaa (aae ?_);exact adI (UL X ho hc c.obj c.base c.own c.get c.tak (aae (aae hq)))
def K6 (c:ExcC K C):KitX K (.ref a) (.ref C) (fun h=> ∃o,h.get? a=some o/\o.cls= .ref C) where
 ty:=fun _ _ _ ⟨o,ho,hc⟩=>hc▸(ad2 ho).andThen .now
 it:=fun _ _ X _=>by
  obtain ⟨cdD,hcD⟩:=adj.mp c.cls;unfold clsIn at hcD
  split at hcD
  · rename_i c' d' cd' sl' ho;intro A' Q' E' s' k q;unfold isType loadHead;exact aaa (wpAny_loadPart (k _ _ (X _ _ ho)) (aae q))
  · cases hcD
 ne:=fun h tp dd its n sl X htp=>by
  obtain ⟨cdD,hcD⟩:=adj.mp c.cls;refine Bool.eq_false_iff.mpr fun q=>?_
  have e:=Value.ref.inj (beq_iff_eq.mp q);subst e;unfold clsIn at hcD
  split at hcD
  · rename_i c' d' cd' sl' ho;have z:=(X _ _ ho).symm.trans htp;cases z
  · cases hcD
 ca:=fun {prog w A E Q s} X I k=>by
  obtain ⟨o,ho,hc⟩:=I;obtain ⟨h,g,d,t,os⟩:=s;exact UM X c ho hc k
end
section
open L2
variable {X:Cx}
def jbV (tab:List (Str×Bool)) (hr: ∀u,RelV cV u->u=cv) (hk: ∀c b,tab.lookup c=some b-> ∀C,NmC X.K c C->ExcC X.K C/\aaT X.K (.ref C) cv=some b):
  CallR X (.builtin "isinstance") (fun xs H Q=> ∃x c b,xs=[x,cV]/\Rep X.K Any H x (.exn c)/\tab.lookup c=some b/\Q (.bl b) H):=by
 rintro pins s σ H xs us Q I r ⟨x,c,b,ex,rp,hc,q⟩;subst ex;obtain ⟨u,w',rfl,r1,r2⟩:=Yp r;cases hr w' r2
 cases rp with
 | @exn _ _ a b' C o _ ha hC hn=>
  cases (show u=aau a from r1);obtain ⟨ho,_⟩:=(show ObjOk X.prog X.w H s.heap a (.frz o (.own b')) from I.hok a _ ha)
  obtain ⟨ec,hx⟩:=hk c b hc C hn;exact abz (K6 ec) I.kIn ⟨o,ho,hC⟩ hx (fun z=>nomatch z) fun tk=>⟨.bl b,H,I.tok tk,rfl,q⟩
def isyD (tab:List (Str×Bool)):D->Res D
 | .exn c=>match tab.lookup c with
  |some b=> .ok (.bl b)
  |none=> .stuck
 |_=> .stuck
def isyF (tab:List (Str×Bool)) (f:TK):Sl->Res D:=fun env=>f env>>=isyD tab
def K8 {tab:List (Str×Bool)} {a:D} (h:isyD tab a= .ok d): ∃c b,a= .exn c/\tab.lookup c=some b/\d= .bl b:=by
 unfold isyD at h
 split at h
 · split at h
   · rename_i b hb;cases h;exact ⟨_,b,rfl,hb,rfl⟩
   · cases h
 · cases h
def uI (tab:List (Str×Bool)) (Ty:Str) {l l':Lv} {f:TK} {p p2 pos:Pos} (hk: ∀c b,tab.lookup c=some b-> ∀C,NmC X.K c C->ExcC X.K C/\aaT X.K (.ref C) (.ref CT)=some b) (he:DE X l e f)
   (hg:Gl X "isinstance") (hm:X.mg "isinstance" =none) (hg2:Gl X Ty) (hm2:X.mg Ty=some (.ref CT))
   (hd:Z0 Ty:=by decide) (hs:aai [e,.Name Ty p2] X.env=(false,eval e X.env)::aai [.Name Ty p2] X.env:=by exact jk rfl)
   (hs2:aai [.Name Ty p2] X.env=(false,eval (.Name Ty p2) X.env)::aai [] X.env:=by exact jk rfl) (hpl:(abo pos (aai [.Name Ty p2] X.env)).any (·.1)=false:=by exact jz rfl):
   DE X l' (.Call (.Name "isinstance" p) [e,.Name Ty p2] [] pos) (isyF tab f):=by
 with_unfolding_all exact (
  PE.imp (xg (jbV tab (cV:= .ref CT) (fun u r=>r) hk) hg hm aei (qg he (qg (Wa (v:= .ref CT) hg2 hm2 rfl hd) wJ hs2) hs) (by decide) (by decide) hs hpl) fun σ H Q=>by
   rintro ⟨G,H0,env,d,k,ef,q⟩;obtain ⟨a,e1,e2⟩:=jd ef;refine ⟨G,H0,env,a,k,e1,fun v H' s r _=>?_⟩;obtain ⟨c,b,rfl,hc,rfl⟩:=K8 e2
   exact ⟨v,c,b,rfl,r.weak Lv.weak_b,hc,q _ H' s (.bl b) (jhG (K:=X.K) b).T⟩)
end
end M
namespace M
open PySem PySem.Spec L2
open PyProof.Rows hiding St
section
variable {X:Cx}
def tCs (vs:List V):TA:=fun _ H Q=>Q vs H
def jdr:PA X [] (tCs []):=wJ
def qT {T:Str} {p:Pos} {es:List Expr} (hg:Gl X T) (hm:X.mg T=some (.ref C)) (hr:PA X es (tCs vs)) (hd:Z0 T:=by decide)
  (hs:aai (.Name T p::es) X.env=(false,eval (.Name T p) X.env)::aai es X.env:=by exact jk rfl):PA X (.Name T p::es) (tCs (.ref C::vs)):=
 qg (Wa (v:= .ref C) hg hm rfl hd) hr hs
theorem uQ: ∀ {Cs:List Addr} {us:List Value},Vals (Cs.map V.ref) us->us=Cs.map aau
 | [],_,r=>by cases r;rfl
 |C::Cs,_,r=>by
  cases r with
  |cons h t=>
   cases (show _=aau C from h);rw [uQ t];rfl
def jac (tab:List (Str×Bool)) (Cs:List Addr) (hk: ∀c b,tab.lookup c=some b-> ∀C,NmC X.K c C->ExcC X.K C/\adN X.K (.ref C) (Cs.map aau)=some b):
  CallR X (.builtin "isinstance") (fun xs H Q=> ∃x p c b,xs=[x,.ref p]/\H p=some (.tup (Cs.map V.ref))/\Rep X.K Any H x (.exn c)/\tab.lookup c=some b/\Q (.bl b) H):=by
 rintro pins s σ H xs us Q I r ⟨x,p,c,b,ex,hp,rp,hc,q⟩;subst ex;obtain ⟨u,w',rfl,r1,r2⟩:=Yp r;cases r2;obtain ⟨its,rv,⟨ob,e,hcl,n,hd⟩,_⟩:=I.tuple (.of hp);obtain ⟨c2,dd2,dt2,sl2⟩:=ob;have hc':=hcl;have hd':=hd;subst hc' hd';have hits:=uQ rv;subst hits
 cases rp with
 | @exn _ _ a b' C o _ ha hC hn=>
  cases (show u=aau a from r1);obtain ⟨ho,_⟩:=(show ObjOk X.prog X.w H s.heap a (.frz o (.own b')) from I.hok a _ ha)
  obtain ⟨ec,hx⟩:=hk c b hc C hn;exact PySem.W.kia_tup (K6 ec) I.kIn ⟨o,ho,hC⟩ e hx (fun z=>nomatch z) fun tk=>⟨.bl b,H,I.tok tk,rfl,q⟩
def jeo (tab:List (Str×Bool)) (Cs:List Addr) {l l':Lv} {es:List Expr} {f:TK} {p tpos pos:Pos} {k:Nat} (hk: ∀c b,tab.lookup c=some b-> ∀C,NmC X.K c C->ExcC X.K C/\adN X.K (.ref C) (Cs.map aau)=some b) (he:DE X l e f)
   (hg:Gl X "isinstance") (hm:X.mg "isinstance" =none) (hes:PE X (.Tuple es k tpos) (tTup (tCs (Cs.map V.ref)))) (hsz:Cs.length<=aak:=by decide)
   (hs:aai [e,.Tuple es k tpos] X.env=(false,eval e X.env)::aai [.Tuple es k tpos] X.env:=by exact jk rfl)
   (hs2:aai [.Tuple es k tpos] X.env=(false,eval (.Tuple es k tpos) X.env)::aai [] X.env:=by exact jk rfl) (hpl:(abo pos (aai [.Tuple es k tpos] X.env)).any (·.1)=false:=by exact jz rfl):
   DE X l' (.Call (.Name "isinstance" p) [e,.Tuple es k tpos] [] pos) (isyF tab f):=by
 with_unfolding_all exact (
  PE.imp (xg (jac tab Cs hk) hg hm aei (qg he (qg hes wJ hs2) hs) (by decide) (by decide) hs hpl) fun σ H Q=>by
   rintro ⟨G,H0,env,d,kk,ef,q⟩;obtain ⟨a,e1,e2⟩:=jd ef;refine ⟨G,H0,env,a,kk,e1,fun v H' s r _=>?_⟩;obtain ⟨c,b,rfl,hc,rfl⟩:=K8 e2;refine ⟨by simpa using hsz,fun p' hp'=>?_⟩
   exact ⟨v,p',c,b,rfl,ju,(r.grow (Same.upd hp')).weak Lv.weak_b,hc,q _ _ (s.trans (Same.upd hp')) (.bl b) (jhG (K:=X.K) b).T⟩)
end
theorem Reps.set {K:aab} {A:Ue} (rv:Rep K A H v d): ∀ {xs:List V} {ds:List D} (j:Nat),Reps K A H xs ds->Reps K A H (xs.set j v) (ds.set j d)
 |_,_,_,.nil=> .nil
 |_,_,0,.cons _ t=> .cons rv t
 |_,_,j+1,.cons h t=> .cons h (Reps.set rv j t)
def jc1 (i:Nat) (fk fv:TK):Sl->Res Out:=fun env=>ownL i env>>=fun ds=>fv env>>=fun d=>fk env>>=fun kd=>match kd with
 | .int n=>match ixN ds.length n with
  |some j=> .ok (.nx (env.set i (.own (.lst (ds.set j d)))))
  |none=> .stuck
 |_=> .stuck
def jbB {fv:TK} {pos apos p:Pos} {x:Str} (i:Nat) (hk:DE X l1 e1 fk) (hv:DE X .s e2 fv) (hN:X.N[i]?=some x:=by rfl) (hvs:Vis X.env.scope x:=by first|exact acg rfl|exact abA (acg rfl)|exact abA (abA rfl))
   (hd:Z0 x:=by decide) (hcd:Zh x:=by decide)
   (ha: ∀v,assign (.Subscript (.Name x p) e1 apos) X.env v=(do
    let ov←adW [v] (eval (.Name x p) X.env)
    let iv←adW [v,ov] (eval e1 X.env)
    ae5 apos
    adW [v,ov,iv] (setItem ov iv v)
    release [v,ov,iv] []):=by intro _;rfl)
   (hs:swapsWithSole [.Subscript (.Name x p) e1 apos] e2 pos.line X.env=pure false:=by rfl) (hw:swappedStores [.Subscript (.Name x p) e1 apos] e2 X.env=pure none:=by rfl)
   (h1:(acb [.Subscript (.Name x p) e1 apos] X.env).map (·.2)=[assign (.Subscript (.Name x p) e1 apos) X.env]:=by rfl):
   DS X (.Assign [.Subscript (.Name x p) e1 apos] e2 pos) (jc1 i fk fv):=by
 with_unfolding_all exact (
  PS.imp (jcf hv (jfv (xu hN hvs hd hcd) hk jaC ha) hs hw h1) fun E σ H=>by
   rintro ⟨G,H0,env,o,k,ef,q⟩;obtain ⟨ds,c1,ef⟩:=jd ef;obtain ⟨d,c2,ef⟩:=jd ef;obtain ⟨kd,c3,c4⟩:=jd ef;have hi:=Jt c1;obtain ⟨a,xs,ha,hx,rs⟩:=Js k hi
   cases kd with
   |int n=>
    dsimp only at c4
    cases e5:ixN ds.length n with
    |none=>rw [e5] at c4;cases c4
    |some j=>
     rw [e5] at c4;cases c4;refine ⟨G,H0,env,d,k,c2,fun v H1 s1 r1 _=>⟨.ref a,ha,G,H0,env,.int n,k.grow s1,c3,fun y H2 s2 r2 _=>?_⟩⟩;have hx2:=s2 _ _ (s1 _ _ hx);cases (r2.weak Lv.weak_b).intE;refine ⟨a,xs,n,j,rfl,rfl,hx2,by rw [rs.length];exact e5,?_⟩;have W:=((k.grow s1).grow s2).write hi ha hx2 (Reps.set (r1.grow s2) j ((rs.grow s1).grow s2));exact q σ _ W.1 ((W.2.grow s2).grow s1)
   |_=>cases c4)
section
variable {prog:aay} {w:World} {A:aaV} {E:Ud} {s:aaf} {it t:Addr} {i:Nat} {items:Array Value} {Q:Ud}
def KW {x:Value} (hit:s.heap.IsTupleIter it t i) (ht:s.heap.IsTuple t items) (hx:items[i]?=some x) (hQ: ∀h',h'.IsTupleIter it t (i+1)->ab8 it s.heap h'->Q x {s with heap:=h'}):
  wpAny (model prog w) A (abf (.ref it)) Q E s:=by
 obtain ⟨o,ho,hc,hd⟩:=id hit;obtain ⟨o2,ho2,_,n2,hd2⟩:=ht;unfold abf
 refine aaa (abl hit.typeIs acm (abD acm hit.typeIs F.entry_tuple_iterator_next
  (show wpAny _ _ (field (.ref it) 0>>=_) _ _ s from aaa (abL ho hd rfl (show wpAny _ _ (if (aau t==abN)=true then _ else _) _ _ s from ?_))) (F.args_tuple_iterator_next_1 _)))
 rw [if_neg (show¬((aau t==abN)=true) from aaN)];refine (show wpAny _ _ (field (.ref it) 1>>=_) _ _ s from aaa (abL ho hd rfl (show wpAny _ _ (seqItems? (.ref t)>>=_) _ _ s from aaa (abK ho2 hd2 ?_))));simp only [acC,hx];exact aaa (aeE ho hd (by simp) (aae ⟨x,rfl,aae (hQ _ ⟨_,acU _ ho (Obj.isFreed_of_fields (adA hd _)),(Obj.cls_mapFields ..).trans hc,by rw [adA hd];simp [rawInt]⟩ (ach ..))⟩))
def jeg (hh:A.handled=none) (hit:s.heap.IsTupleIter it t i) (ht:s.heap.IsTuple t items) (hx:items[i]?=none)
  (hE: ∀h' e,Heap.ExtBut it s.heap h'->(∃o,h'.get? e=some o/\o.cls= .type "StopIteration")->E (.ref e) {s with heap:=h'}):
  wpAny (model prog w) A (abf (.ref it)) Q E s:=by
 obtain ⟨o,ho,hc,hd⟩:=id hit;obtain ⟨o2,ho2,_,n2,hd2⟩:=ht;unfold abf
 refine aaa (abl hit.typeIs acm (abD acm hit.typeIs F.entry_tuple_iterator_next
  (show wpAny _ _ (field (.ref it) 0>>=_) _ _ s from aaa (abL ho hd rfl (show wpAny _ _ (if (aau t==abN)=true then _ else _) _ _ s from ?_))) (F.args_tuple_iterator_next_1 _)))
 rw [if_neg (show¬((aau t==abN)=true) from aaN)];refine (show wpAny _ _ (field (.ref it) 1>>=_) _ _ s from aaa (abL ho hd rfl (show wpAny _ _ (seqItems? (.ref t)>>=_) _ _ s from aaa (abK ho2 hd2 ?_))));simp only [acC,hx];refine aaa (adl (aaa (aeE ho hd (by simp) (show wpAny _ _ (newExc (.type "StopIteration") []>>=_) _ _ _ from aaa ?_))));simp only [newExc,newTuple];refine aaa (aa8 (aaa (wpAny_of_eq (by first|rfl| (simp;rfl)) (aa8 ?_ (by size_fits)))) (by size_fits));simp only [raiseNew];refine aaa (wpAny_handled ?_);rw [show A.in1.handled=none from hh];exact aaa (aae (wpAny_throw (hE _ _ (((ach ..).extBut.push _).push _) ⟨_,aao _ rfl,rfl⟩)))
end
def wO {v:α} {l:List (Str×α)}:aa6 c ((c,v)::l)=some v:=by simp [aa6]
def wN {d:Str} {v:α} {l:List (Str×α)} (h:c≠d):aa6 c ((d,v)::l)=aa6 c l:=by
 have:(c==d)=false:=by simpa using h
 simp [aa6,this]
inductive OutI where
 |nx (env:Sl)|rt (b:Bool) (env:Sl)
abbrev At (σ:L2.St) (i:Nat) (a:Addr):Prop:=σ[i]?=some (some (V.ref a))
abbrev FI:=List D->List Key->List D->Res (Bool×List Key×List D)
section
variable {X:Cx} {pins:List (Addr×Obj)} {σ:L2.St} {H:Hp} {s:aaf}
def QU {t':Nat} (I:Inv X pins σ H s) (k: ∀b o,b∉fp->s.heap.get? b=some o->h'.get? b=some o) (f: ∀b∈fp,FpOk X pins H b):Inv X pins σ H {s with heap:=h',toks:=t'}:=by
 have n: ∀b u,H b=some u->b∉fp:=fun b u e z=>by have:=(f b z).1;rw [this] at e;cases e
 refine I.step (g':=s.gens) (d':=s.drawn) (ch:=fp) (fun b hb=>?_) (fun b o _ _ hc e _=>k b o hc e) (fun b o _ _ hc e _=>⟨o.slots,k b o hc e⟩) (fun _ _ _ _ n=>n)
   (fun b o hc e=>⟨o,k b o hc e⟩) (fun _ _ e=>e) (fun _ _ _ e=>e) (fun b ps e=>⟨#[],by rw [e];simp⟩) (fun m hm=>?_) (fun b u e=>?_) I.bare
 · obtain ⟨a0,a1,_,a3,a4,a5⟩:=f b hb;exact ⟨a3,a1,a4,a5⟩
 · obtain ⟨o,es,ep,ho,r⟩:=hm;exact ⟨o,es,ep,k _ o (fun z=>(f _ z).2.1 rfl) ho,r⟩
 · refine (I.hok b u e).stay (fun c v hc q=>k c v ?_ q) (fun _ q=>q) fun _ _ q=>q
   rcases hc with z|z
   · rw [z];exact n b u e
   · exact n c _ z
end
section
variable {X:Cx} {elts:List Expr} {n:Nat} {tpos p pos:Pos} {e1 e2:Expr} {f1 f2:TK}
def wd:List D->List D->List D
 |x::xs,y::ys=> .tup [x,y]::wd xs ys
 |_,_=>[]
theorem Zt: ∀xs ys:List D,(wd xs ys).length=min xs.length ys.length
 | [],_=>by simp [wd]
 |_::_,[]=>by simp [wd]
 |x::xs,y::ys=>by simp [wd,Zt xs ys]
theorem Zu: ∀(xs ys:List D) (i:Nat) (d:D),(wd xs ys)[i]?=some d-> ∃x y,xs[i]?=some x/\ys[i]?=some y/\d= .tup [x,y]
 | [],_,i,d,h=>by simp [wd] at h
 |_::_,[],i,d,h=>by simp [wd] at h
 |x::xs,y::ys,0,d,h=>by simp [wd] at h;exact ⟨x,y,rfl,rfl,h.symm⟩
 |x::xs,y::ys,i+1,d,h=>by
  simp only [wd,aaW] at h ⊢;exact Zu xs ys i d h
def jae:aba "zip" =some (.type "zip"):=by decide+kernel
end
section
variable {X:Cx}
def Ya:CallR X (.type "int") (fun xs H Q=> ∃b,xs=[.bl b]/\Q (.int (if b=true then 1 else 0)) H):=by
 rintro pins s σ H xs us Q I r ⟨b,ex,q⟩;subst ex
 obtain ⟨u,rfl,r1⟩: ∃u,us=[u]/\RelV (.bl b) u:=by
  cases r with|cons h t=>cases t;exact ⟨_,rfl,h⟩
 cases r1;exact call_int_bool ⟨.int _,H,I.tok _,⟨_,rfl⟩,q⟩
def vK:List D->Res D
 | [.bl b]=> .ok (.int (if b=true then 1 else 0))
 |_=> .stuck
def uV {K:aab}:Zf K (fun xs H Q=> ∃b,xs=[V.bl b]/\Q (.int (if b=true then 1 else 0)) H) vK:=by
 intro A xs H ds d Q r e q;unfold vK at e
 split at e
 · cases e;obtain ⟨v,rfl,r1⟩:=r.one;exact ⟨_,by rw [r1.blE],q _ H (Same.refl H) (.int _) (jhX (jhK (K:=K) _))⟩
 · cases e
def jbH (fk fv:TK):Sl->Res D:=fun env=>fk env>>=fun kd=>fv env>>=fun d=>match keyD kd with
 |some k=>must (d.imm=true) (.ok (.dic [k] [d]))
 |none=> .stuck
def jbJ {ke ve:Expr} {fv:TK} (hk:DE X l1 ke fk) (hv:DE X .s ve fv):DE X .t (.Dict [some ke] [ve] pos) (jbH fk fv):=by
 with_unfolding_all exact (PE.imp (jdp (jaL hk hv jdg) rfl rfl (by simp) (by simp)) fun σ H Q=>by
  rintro ⟨G,H0,env,d,k,ef,q⟩;obtain ⟨kd,e1,ef⟩:=jd ef;obtain ⟨dv,e2,e3⟩:=jd ef
  cases hkey:keyD kd with
  |none=>rw [hkey] at e3;cases e3
  |some kk=>
   rw [hkey] at e3;obtain ⟨c1,e4⟩:=jq e3;cases e4;intro p hp;refine ⟨G,H0,env,kd,k.grow (Same.upd hp),e1,fun x H1 s1 r1 _=>⟨G,H0,env,dv,(k.grow (Same.upd hp)).grow s1,e2,fun y H2 s2 r2 _=>?_⟩⟩;have hx:=Wz (r1.weak Lv.weak_b) hkey;subst hx;have hp2:=s2 _ _ (s1 _ _ ju);refine ⟨hp2,[(kk,y)],rfl,by simp,?_⟩;rw [Qc [(kk,y)] [] (by simp)]
   have sm:Same H (upd H2 p (.dK [(kk,y)])):=fun b o e=>by
    have hb:=jK e hp;rw [jL hb];exact s2 _ _ (s1 _ _ (by rw [jL hb];exact e))
   refine q _ _ sm (.dic ju (k.new p hp) rfl rfl (.cons ?_ .nil)) (qh (Same.refl H) hp);have r3:Rep X.K (fun _=>False) H2 y dv:=r2.imm c1
   exact r3.stay (fun a o e m=>by
    rw [jL]
    · exact e
    · rintro rfl;rw [hp2] at e;cases e
      exact (m trivial).elim) fun a z=>z.elim)
def slS:D->Option Int->Option Int->Res D
 | .scr ds,lo,hi=> .ok (.lst (cutD ds lo hi))
 |_,_,_=> .stuck
def uH {lo hi:Option Expr} {p2 pos:Pos} {f:TK} {fl fh:Sl->Res (Option Int)} (he:DE X .s e f) (hl:DO X lo fl) (hh:DO X hi fh):
   DE X .t (.Subscript e (.Slice lo hi none p2) pos) (zF f fl fh slS):=by
 with_unfolding_all exact (
  PE.imp (KN sl_list he hl hh) fun σ H Q=>by
   rintro ⟨G,H0,env,d,k,ef,q⟩;obtain ⟨a,e1,ef⟩:=jd ef;obtain ⟨lo',e2,ef⟩:=jd ef;obtain ⟨hi',e3,e4⟩:=jd ef;refine ⟨G,H0,env,a,k,e1,fun x H1 s1 r1 _=>⟨G,H0,env,lo',k.grow s1,e2,fun H2 s2=>⟨G,H0,env,hi',(k.grow s1).grow s2,e3,fun H3 s3=>?_⟩⟩⟩;have sm:=s1.trans (s2.trans s3)
   cases a with
   |scr ds=>
    cases e4;obtain ⟨b,xs,rfl,hb,rs⟩:=((r1.grow s2).grow s3).scrE;refine ⟨b,xs,rfl,hb.sql,fun p hp=>q _ _ (sm.trans (Same.upd hp)) (.lst ju (k.new p (Same.free sm hp)) (((Kg rs).laid hp).weak fun c z=>⟨z.1,z.2⟩)) ((qh (Same.refl H3) hp).grow sm)⟩
   |_=>cases e4)
def jgI (i j:Int):Prop:=0<j/\j<2^200
def Wf:OpR X (abP .FloorDiv) (rI jgI fun i j=> .int (i/j)):=opI fun i j _ _ _ _ _ hc q=>by
 have h1:=hc.1;have h2:=hc.2;refine floordiv_int (by omega) (by rw [ac3 i (by omega)];exact q) (.inl (PyProof.noPylong_of_log2 ?_));have h3:j.natAbs<2^200:=by omega
 exact aas ((Nat.log2_lt (by omega)).mpr h3) (by omega)
abbrev DivW:Int->Int->Prop:=fun _ j=>0<j/\j<2^200
def Wq {K:aab}:OpS K (rI jgI fun i j=> .int (i/j)) (iOp DivW fun i j=> .int (i/j)):=od_I (fun _ _ h=>h) fun i j=>jhK _
abbrev divW:=iOp DivW fun i j=> .int (i/j)
end
def getN (f:Str):List Str->List D->Option D
 |n::ns,d::ds=>if n=f then some d else getN f ns ds
 |_,_=>none
def kr (f:Str):List Str->List Str
 | []=>[f]
 |n::ns=>if n=f then n::ns else n::kr f ns
def ku (f:Str) (d:D):List Str->List D->List D
 | [],_=>[d]
 |n::ns,e::es=>if n=f then d::es else e::ku f d ns es
 |_::_,[]=>[]
theorem WG {K:aab} {A:Ue} {f:Str}: ∀ {fs:List (Str×V)} {ds:List D} {d:D},Reps K A H (fs.map (·.2)) ds->getN f (fs.map (·.1)) ds=some d-> ∃v,fs.lookup f=some v/\Rep K A H v d
 | [],_,_,_,h=>by simp [getN] at h
 | (n,v)::r,_,d,.cons q t,h=>by
  by_cases e:n=f
  · subst e;simp only [aaB,getN,if_pos] at h;cases h;exact ⟨v,by simp [aa6],q⟩
  · simp only [aaB,getN,if_neg e] at h;obtain ⟨v',h1,h2⟩:=WG t h;exact ⟨v',by rw [abx];simp [show (f==n)=false from by simpa using fun z=>e z.symm,h1],h2⟩
theorem KI {K:aab} {A:Ue} {f:Str} (rv:Rep K A H v d): ∀ {fs:List (Str×V)} {ds:List D},Reps K A H (fs.map (·.2)) ds->(putF f v fs).map (·.1)=kr f (fs.map (·.1))/\Reps K A H ((putF f v fs).map (·.2)) (ku f d (fs.map (·.1)) ds)
 | [],_,.nil=>⟨rfl,.cons rv .nil⟩
 | (n,u)::r,_,.cons q t=>by
  by_cases e:n=f
  · simp only [putF,aaB,kr,ku,if_pos e];exact ⟨trivial,.cons rv t⟩
  · simp only [putF,aaB,kr,ku,if_neg e];obtain ⟨h1,h2⟩:=KI rv t;exact ⟨by rw [h1],.cons q h2⟩
theorem Jz {f:Str}: ∀ {fs:List (Str×V)},(fs.map (·.1)).contains f=false->fs.lookup f=none
 | [],_=>rfl
 | (n,u)::r,h=>by
  simp only [aaB,aex,Bool.or_eq_false_iff] at h;rw [abx];simp [h.1,Jz h.2]
def Rep.objE {K:aab} {A:Ue} (r:Rep K A H v (.obj c ns ds)): ∃a C dx fs,v= .ref a/\H a=some (.ins C dx fs)/\A a/\aan K aam c=some (some (.ref C))/\fs.map (·.1)=ns/\Reps K (fun c=>A c/\c≠a) H (fs.map (·.2)) ds:=by
 cases r with
 |obj e a k1 k2 r=>subst k2;exact ⟨_,_,_,_,rfl,e,a,k1.1,k1.2,r⟩
def kL {K:aab} {G:Ue} (k:EnvOk K G H0 env σ H) (hi:env[i]?=some (.own (.obj c ns ds))):
  ∃a C dx fs,σ[i]?=some (some (.ref a))/\H a=some (.ins C dx fs)/\aan K aam c=some (some (.ref C))/\fs.map (·.1)=ns/\Reps K (Sf G env σ) H (fs.map (·.2)) ds:=by
 obtain ⟨a,h1,_,h2⟩:=k.own i _ hi
 cases h2 with
 |obj e k1 k2 r=>subst k2;exact ⟨a,_,_,_,h1,e,k1.1,k1.2,r⟩
structure FldN (K:aab) (c f:Str):Prop where
 ex: ∃C,aan K aam c=some (some (.ref C))/\Cls K C/\NoAttr K C f
def FldN.at {K:aab} {f:Str} (h:FldN K c f) (e:aan K aam c=some (some (.ref C))):Cls K C/\NoAttr K C f:=by
 obtain ⟨C',h1,h2⟩:=h.ex;rw [e] at h1;cases h1;exact h2
def fldD (c f:Str):D->Res D
 | .obj c' ns ds=>must (c'=c) (match getN f ns ds with
  |some d=> .ok d
  |none=> .stuck)
 |_=> .stuck
def jbo {f:Str} {o:D} (h:fldD c f o= .ok d): ∃ns ds,o= .obj c ns ds/\getN f ns ds=some d:=by
 unfold fldD at h
 split at h
 · rename_i c' ns ds;obtain ⟨hc,h2⟩:=jq h;subst hc
   cases e:getN f ns ds with
   |none=>rw [e] at h2;cases h2
   |some d'=>rw [e] at h2;cases h2;exact ⟨ns,ds,rfl,e⟩
 · cases h
def fldF (c f:Str) (fo:TK):Sl->Res D:=fun env=>fo env>>=fldD c f
section
variable {X:Cx} {e:Expr} {fo:TK} {pos p:Pos} {c f:Str}
def Kd (i:Nat) {x:Str} (hf:FldN X.K c f) (hN:X.N[i]?=some x:=by rfl) (hv:Vis X.env.scope x:=by first|exact acg rfl|exact abA (acg rfl)|exact abA (abA rfl))
   (hd:Z0 x:=by decide) (hcd:Zh x:=by decide)
   (hb:ab7 (.Name x p) f X.env (eval (.Name x p) X.env)=eval (.Name x p) X.env:=by rfl):DE X .s (.Attribute (.Name x p) f pos) (fldF c f (rdB i)):=by
 with_unfolding_all exact (
  PE.imp (jfC (xu hN hv hd hcd) hb) fun σ H Q=>by
   rintro ⟨G,H0,env,d,k,ef,q⟩;obtain ⟨o,e1,e2⟩:=jd ef;obtain ⟨ns,ds,rfl,e3⟩:=jbo e2;rcases YB e1 with z|z
   · obtain ⟨v,h1,h2⟩:=k.shr i _ z;obtain ⟨a,C,dx,fs,rfl,ha,_,hc,hn,rs⟩:=h2.objE;subst hn;obtain ⟨v',g1,g2⟩:=WG rs e3;exact ⟨_,h1,a,C,dx,fs,v',rfl,ha,(hf.at hc).1,(hf.at hc).2,g1,q v' H (Same.refl H) (g2.weak fun _ z=>z.1) trivial⟩
   · obtain ⟨a,C,dx,fs,h1,ha,hc,hn,rs⟩:=kL k z;subst hn;obtain ⟨v',g1,g2⟩:=WG rs e3
     exact ⟨_,h1,a,C,dx,fs,v',rfl,ha,(hf.at hc).1,(hf.at hc).2,g1,q v' H (Same.refl H) g2 trivial⟩)
end
inductive OutO where
 |nx (env:Sl)|rt (d:D) (env:Sl)
def jeQ (K:aab) (G:Ue) (H0:Hp) (i:Nat) (a:Addr) (env:Sl) (σ:L2.St) (H:Hp) (E:Ends):OutO->Prop
 | .nx env'=> ∀σ' H',EnvOk K G H0 env' σ' H'->At σ' i a->Frm env σ H env' σ' H'->E.nx σ' H'
 | .rt d env'=> ∀v σ' H',EnvOk K G H0 env' σ' H'->At σ' i a->Frm env σ H env' σ' H'->Rep K (Sf G env' σ') H' v d->E.rt v H'
def tSO (K:aab) (i:Nat) (g:Sl->Res OutO):TS:=fun E σ H=> ∃G H0 env o a,EnvOk K G H0 env σ H/\At σ i a/\g env= .ok o/\jeQ K G H0 i a env σ H E o
@[irreducible] def DSO (X:Cx) (i:Nat) (st:Stmt) (g:Sl->Res OutO):Prop:=PS X st (tSO X.K i g)
@[irreducible] def DSsO (X:Cx) (i:Nat) (st:List Stmt) (g:Sl->Res OutO):Prop:=PSs X st (tSO X.K i g)
theorem YL {K:aab} {G:Ue} {o:OutO} (f:Frm env σ H env' σ' H') (q:jeQ K G H0 i a env σ H E o):jeQ K G H0 i a env' σ' H' E o:=by
 cases o with
 |nx e=>exact fun σ2 H2 k2 a2 f2=>q σ2 H2 k2 a2 (f.trans f2)
 |rt b e=>exact fun v σ2 H2 k2 a2 f2 r2=>q v σ2 H2 k2 a2 (f.trans f2) r2
section
variable {X:Cx} {i:Nat} {e c0 tg:Expr} {st:Stmt} {rest body orelse:List Stmt} {pos p apos:Pos} {l:Lv} {f:TK} {g g1 g2:Sl->Res OutO} {c n x:Str}
def seqJ (g1 g2:Sl->Res OutO):Sl->Res OutO:=fun env=>g1 env>>=fun o=>match o with
 | .nx env'=>g2 env'
 | .rt b e=> .ok (.rt b e)
def uB (h1:DSO X i st g1) (h2:DSsO X i rest g2):DSsO X i (st::rest) (seqJ g1 g2):=by
 with_unfolding_all exact (PSs.imp (Ql h1 h2) fun E σ H=>by
  rintro ⟨G,H0,env,o,a,k,ha,ef,q⟩;obtain ⟨o1,e1,e2⟩:=jd ef;refine ⟨G,H0,env,o1,a,k,ha,e1,?_⟩
  cases o1 with
  |nx env1=>exact fun σ' H' k' a' f'=>⟨G,H0,env1,o,a,k',a',e2,YL f' q⟩
  |rt b env1=>cases e2;exact q)
def Vs (h1:DSO X i st g1):DSsO X i [st] g1:=by
 with_unfolding_all exact (PSs.imp (Z8 h1) fun E σ H q=>q)
def nxJ:Sl->Res OutO:=fun env=> .ok (.nx env)
def jbz:DSsO X i [] nxJ:=by
 with_unfolding_all exact (PSs.imp Z9 fun E σ H=>by
  rintro ⟨G,H0,env,o,a,k,ha,ef,q⟩;cases ef
  exact q σ H k ha (Frm.refl (Same.refl H)))
def ifJ (t:TJ) (g1 g2:Sl->Res OutO):Sl->Res OutO:=fun env=>t env>>=fun b=>if b=true then g1 env else g2 env
def jgj {t:TJ} (hc:DT X c0 t) (h1:DSsO X i body g1) (h2:DSsO X i orelse g2):DSO X i (.If c0 body orelse pos) (ifJ t g1 g2):=by
 with_unfolding_all exact (PS.imp (kA hc h1 h2) fun E σ H=>by
  rintro ⟨G,H0,env,o,a,k,ha,ef,q⟩;obtain ⟨b,e1,e2⟩:=jd ef;refine ⟨G,H0,env,b,k,e1,fun H' s=>?_⟩
  cases b with
  |true=>
   rw [if_pos rfl] at e2 ⊢;exact ⟨G,H0,env,o,a,k.grow s,ha,e2,YL (Frm.refl s) q⟩
  |false=>
   rw [if_neg aaN] at e2 ⊢
   exact ⟨G,H0,env,o,a,k.grow s,ha,e2,YL (Frm.refl s) q⟩)
def Ks:Sl->Res OutO:=fun _=> .stuck
def uC:DSO X i st Ks:=by
 with_unfolding_all exact (fun pins s σ H E I ⟨G,H0,env,o,a,k,ha,ef,q⟩=>by cases ef)
def ownJ (i:Nat) (c:Str):Sl->Res (List Str×List D):=fun env=>match env[i]? with
 |some (.own (.obj c' ns ds))=>must (c'=c) (.ok (ns,ds))
 |_=> .stuck
def jaX {q:List Str×List D} (h:ownJ i c env= .ok q):env[i]?=some (.own (.obj c q.1 q.2)):=by
 unfold ownJ at h
 split at h
 · rename_i c' ns ds e;obtain ⟨hc,h2⟩:=jq h;subst hc;cases h2;exact e
 · cases h
def jfb (i:Nat) (c n:Str) (f:TK):Sl->Res OutO:=fun env=>f env>>=fun d=>ownJ i c env>>=fun q=>must (q.1.length<1000) (.ok (.nx (env.set i (.own (.obj c (kr n q.1) (ku n d q.1 q.2))))))
def jbA (hf:FldN X.K c n) (h:DE X .s e f) (hN:X.N[i]?=some x:=by rfl) (hv:Vis X.env.scope x:=by first|exact acg rfl|exact abA (acg rfl)|exact abA (abA rfl))
   (hd:Z0 x:=by decide) (hcd:Zh x:=by decide)
   (hs:acq e (some (.Attribute (.Name x p) n apos)) pos.line X.env=pure false:=by rfl):DSO X i (.Assign [.Attribute (.Name x p) n apos] e pos) (jfb i c n f):=by
 with_unfolding_all exact (
  PS.imp (jfr (xu hN hv hd hcd) h hs) fun E σ H=>by
   rintro ⟨G,H0,env,o,a,k,ha,ef,q⟩;obtain ⟨d,e1,ef⟩:=jd ef;obtain ⟨ns,e2,ef⟩:=jd ef;obtain ⟨hz,e3⟩:=jq ef;cases e3;have hi:=jaX e2;refine ⟨G,H0,env,d,k,e1,fun y H1 s1 r1 _=>?_⟩;obtain ⟨a',C,dx,fs,h1,hx,hc,hn,rs⟩:=kL (k.grow s1) hi;rw [ha] at h1;cases h1;refine ⟨_,ha,a,C,dx,fs,rfl,hx,(hf.at hc).1,(hf.at hc).2,by rw [←hn,aaj] at hz;exact hz,?_⟩;obtain ⟨p1,p2⟩:=KI r1 rs;rw [hn] at p1 p2;have W:=(k.grow s1).writeG (o':= .ins C dx (putF n y fs)) hi ha hx trivial fun A' H' st e w=> .obj e ⟨hc,p1⟩ rfl (p2.stay st w)
   exact q σ _ W.1 ha (W.2.grow s1))
end
structure AvM (P:aay) (w:World) (K:aab) (mg:Yx) (base:Heap) (k:Nat) (c m:Str) (ps:List Str) (fr:Bool) (F:TD):Prop where
 ex: ∃C f fd,FnOk P w K mg base CX0 k f fd ps (spF K fr ps.length F)/\aan K aam c=some (some (.ref C))/\Cls K C/\Meth K C m f/\Binds K fd ps []
def AvM.mono {K:aab} {k:Nat} {m:Str} {F:TD} (h:AvM P w K mg base j c m ps fr F) (hj:j<=k):AvM P w K mg base k c m ps fr F:=
 let ⟨C,f,fd,a,b⟩:=h.ex
 ⟨C,f,fd,a.mono hj,b⟩
def Uq (c m:Str) (n:Nat) (F:TD) (fo:TK) (g:TF):Sl->Res D:=fun env=>fo env>>=fun o=>match o with
 | .obj c' ns vs=>must (c'=c/\ns.contains m=false) (g env>>=fun ds=>must (ds.length+1=n) (F (.obj c' ns vs::ds)))
 |_=> .stuck
def vh {m:Str} {F:TD} {g:TF} (h:Uq c m n F fo g env= .ok d): ∃ns vs ds,fo env= .ok (.obj c ns vs)/\ns.contains m=false/\g env= .ok ds/\ds.length+1=n/\F (.obj c ns vs::ds)= .ok d:=by
 obtain ⟨o,h1,h⟩:=jd h
 cases o with
 |obj c' ns vs=>
  obtain ⟨⟨hc,h2⟩,h'⟩:=jq h;subst hc;obtain ⟨ds,h3,h''⟩:=jd h';obtain ⟨h4,h5⟩:=jq h'';exact ⟨ns,vs,ds,h1,h2,h3,h4,h5⟩
 |_=>cases h
section
variable {X:Cx} {k n:Nat} {c m:Str} {ps:List Str} {fr:Bool} {F:TD} {o e:Expr} {es:List Expr} {pos apos:Pos} {fo:TK} {g:TF} {pl:Sem Bool}
def AvM.callT (A:AvM X.prog X.w X.K X.mg X.base k c m ps true F) (hr:Room k X.A) (ho:DE X .s o fo) (ha:DA X .s (e::es) g) (hn:ps.length=n:=by rfl)
  (hst:T9 X e es:=by exact jk rfl) (hpl:T8 X pos es:=by exact jz rfl)
  (ht:eval (.Call (.Attribute o m apos) (e::es) [] pos) X.env=(do
   let ov←eval o X.env
   ae5 apos.atName
   let (f,first)←adW [ov] (getMethod ov m pl)
   callWith pos f first (abo pos (aai (e::es) X.env)) (acs pos (abt [] X.env))):=by rfl):DE X .t (.Call (.Attribute o m apos) (e::es) [] pos) (Uq c m n F fo g):=by
 subst hn;obtain ⟨C,f,fd,h1,h2,h3,h4,h5⟩:=A.ex
 with_unfolding_all exact (
 PE.imp (jdm ho h3 h4 h1 hr h5 .nil Uh ha hst hpl ht) fun σ H Q=>by
  rintro ⟨GG,H0,env,d,k,ef,q⟩;obtain ⟨ns,vs,ds,e1,e2,e3,e4,e5⟩:=vh ef;refine ⟨GG,H0,env,_,k,e1,fun v H1 s1 r1 _=>?_⟩;obtain ⟨a,C',dx,fs,rfl,hx,_,hc,hn,rs⟩:=r1.objE;rw [h2] at hc;cases hc;refine ⟨a,dx,fs,rfl,hx,Jz (by rw [hn];exact e2),GG,H0,env,ds,k.grow s1,e3,fun ws H2 s2 r2=>?_⟩;show spF X.K true ps.length F (.ref a::(ws++[])) H2 Q (fun _ _ _=>False);rw [abC]
  exact ⟨_,_::ds,d,by simp [r2.length,e4],.cons (r1.grow s2) r2,e5,fun v H3 s3 r3 nt=>q v H3 (s1.trans (s2.trans s3)) (r3.weak fun c z=>z.elim (fun z=>k.new c (Same.free s1 (Same.free s2 z))) fun z=>z) (((nt rfl).grow s2).grow s1)⟩)
def noA:Sl->Res (List D):=fun _=> .ok []
end
section
variable {P:aay} {w:World} {K:aab} {mg:Yx} {base:Heap}
def jgy {m:Str} {st:Stmt} {k:Nat} (fr:Bool) {g:TH} (Fu:Fun K m qual st f fd) (hC:aan K aam c=some (some (.ref C))) (cl:Cls K C) (me:Meth K C m f) (S:FnScope N ps (jh st)) (hbi:Binds K fd ps [])
  (hb: ∀(cdv:Value) (A:aaV) (outer:List Env) (s:aaf) (H:Hp) (E:XK),Room k (A.deeper (ac4 qual (jh st) s.heap.objs.size f cdv))->DSs (cxOf CX0 P w K mg base N qual (jh st) f cdv A outer s H E).nox (jI st) g):
  AvM P w K mg base (k+1) c m ps fr (runF fr N.length g):=
 ⟨C,f,fd,jd8 Fu S hb fun ds d _ h=>JX h,hC,cl,me,hbi⟩
end
abbrev FO:=D->List D->Res (D×D)
def spJ (K:aab) (n:Nat) (F:FO):Sp:=fun vs H Q _=> ∃(B:Ue) (ds:List D) (us:List V) (a:Addr) (d0 r d1:D),vs=V.ref a::us/\us.length=n/\Reps K (fun c=>B c/\c≠a) H us ds/\Top K (fun c=>B c/\c≠a) H a d0/\F d0 ds= .ok (r,d1)/\
 ∀v H',(∀c o,c≠a->H c=some o->H' c=some o)->Top K (fun c=>(H c=none\/B c)/\c≠a) H' a d1->Rep K (fun c=>(H c=none\/B c)/\c≠a) H' v r->Q v H'
def Qa (n:Nat) (d0:D) (ds:List D):Sl:= .own d0::(ds.map .shr++aaP (n-ds.length-1) .un)
def yl {s:Slot} (h:(Qa n d0 ds)[j]?=some s):(j=0/\s= .own d0)\/(∃j' d,j=j'+1/\ds[j']?=some d/\s= .shr d)\/s= .un:=by
 unfold Qa at h
 cases j with
 |zero=>simp at h;exact .inl ⟨rfl,h.symm⟩
 |succ j=>
  rw [aaW] at h
  by_cases q:j<ds.length
  · rw [aaz (by simpa using q),aaE] at h
    cases e:ds[j]? with
    |none=>rw [e] at h;cases h
    |some x=>rw [e] at h;cases h;exact .inr (.inl ⟨j,x,rfl,e,rfl⟩)
  · rw [aaq (by simpa using q),abk] at h
    split at h
    · cases h;exact .inr (.inr rfl)
    · cases h
def UB {K:aab} {N:List Str} {us:List V} (r:Reps K (fun c=>B c/\c≠a) H us ds) (t:Top K (fun c=>B c/\c≠a) H a d0) (hN:ds.length+1<=N.length):
   EnvOk K (fun c=>H c=none\/c=a\/B c) (fun c=>if c=a then none else H c) (Qa N.length d0 ds) (start N (V.ref a::us)) H/\At (start N (V.ref a::us)) 0 a:=by
 have hl:=r.length
 have hat:At (start N (V.ref a::us)) 0 a:=by
   show (L2.start N (V.ref a::us))[0]?=_;unfold L2.start;simp
 have hget: ∀(j:Nat) (v:V),us[j]?=some v->(start N (V.ref a::us))[j+1]?=some (some v):=fun j v h=>by
   have hj:=(aav.mp h).1;unfold L2.start;rw [aaz (by simp;omega),aaE,aaW,h];rfl
 have own1: ∀c,j4 (Qa N.length d0 ds) (start N (V.ref a::us)) c->c=a:=fun c ⟨j,d,h1,h2⟩=>by
   rcases yl h1 with ⟨rfl,_⟩| ⟨_,_,_,_,z⟩|z
   · rw [hat] at h2;cases h2;rfl
   · cases z
   · cases z
 have w: ∀c,B c/\c≠a->Sf (fun c=>H c=none\/c=a\/B c) (Qa N.length d0 ds) (start N (V.ref a::us)) c:=fun c z=>⟨fun o=>z.2 (own1 c o),.inr (.inr z.1)⟩
 refine ⟨⟨?_,fun c o e=>?_,fun c e=>?_,fun j d h=>?_,fun j d h=>?_,fun j j' d e b h1 h2 h3 h4=>?_⟩,hat⟩
 · simp [L2.start,Qa,hl];omega
 · split at e
   · cases e
   · exact e
 · split at e
   · rename_i z;exact .inr (.inl z)
   · exact .inl e
 · rcases yl h with ⟨_,z⟩| ⟨j',d',rfl,e,z⟩|z
   · cases z
   · cases z;obtain ⟨v,h1,h2⟩:=r.get e;exact ⟨v,hget j' v h1,h2.weak w⟩
   · cases z
 · rcases yl h with ⟨rfl,z⟩| ⟨j',d',_,e,z⟩|z
   · cases z;exact ⟨a,hat,if_pos rfl,t.stay (fun _ _ e _=>e) w fun _ e=>e⟩
   · cases z
   · cases z
 · have real: ∀(j:Nat) (d:D),(Qa N.length d0 ds)[j]?=some (.own d)->j=0:=fun j d h=>by
     rcases yl h with ⟨z,_⟩| ⟨_,_,_,_,z⟩|z
     · exact z
     · cases z
     · cases z
   rw [real j d h1,real j' e h2]
def U6:Sl->Res D
 | .own d::_=> .ok d
 |_=> .stuck
def U2 (h:U6 env= .ok d):env[0]?=some (.own d):=by
 unfold U6 at h
 split at h
 · cases h;rfl
 · cases h
def runJ (N n:Nat) (g:Sl->Res OutO):FO:=fun d0 ds=>must (ds.length=n) (g (Qa N d0 ds)>>=fun o=>match o with
 | .nx env=>U6 env>>=fun d=> .ok (.non,d)
 | .rt r env=>U6 env>>=fun d=> .ok (r,d))
section
variable {P:aay} {w:World} {K:aab} {mg:Yx} {base:Heap}
def jgb {m:Str} {st:Stmt} {k:Nat} {g:Sl->Res OutO} (Fu:Fun K m qual st f fd) (S:FnScope N ps (jh st)) (hn:ps.length=n+1) (hN:n+1<=N.length)
  (hb: ∀(cdv:Value) (A:aaV) (outer:List Env) (s:aaf) (H:Hp) (E:XK),Room k (A.deeper (ac4 qual (jh st) s.heap.objs.size f cdv))->DSsO (cxOf CX0 P w K mg base N qual (jh st) f cdv A outer s H E).nox 0 (jI st) g):
  FnOk P w K mg base CX0 (k+1) f fd ps (spJ K n (runJ N.length n g)):=by
 with_unfolding_all exact (by
 refine Fu.ok S (fun vs H Q E ⟨B,ds,us,a,d0,r,d1,ev,hl,_⟩=>by rw [ev,aaL,hl,hn]) (fun cdv A outer s H vs Q E hr h=>?_);obtain ⟨B,ds,us,a,d0,r,d1,ev,hl,rs,t,eF,q⟩:=h;refine ⟨_,hb cdv A outer s H E hr,?_⟩;obtain ⟨e0,eF⟩:=jq eF;obtain ⟨o,e1,eF⟩:=jd eF;subst ev;obtain ⟨kk,hat⟩:=UB (N:=N) rs t (by omega)
 have fin: ∀(env':Sl) (σ':L2.St) (H':Hp) (v:V),EnvOk K (fun c=>H c=none\/c=a\/B c) (fun c=>if c=a then none else H c) env' σ' H'->At σ' 0 a->U6 env'= .ok d1->Rep K (Sf (fun c=>H c=none\/c=a\/B c) env' σ') H' v r->Q v H':=fun env' σ' H' v k' a' e2 rv=>by
  have hi:=U2 e2;obtain ⟨a2,h1,_,t2⟩:=k'.own 0 _ hi;rw [a'] at h1;cases h1
  have ww: ∀c,Sf (fun c=>H c=none\/c=a\/B c) env' σ' c->(H c=none\/B c)/\c≠a:=fun c z=>by
   have hca:c≠a:=by
     rintro rfl;exact z.1 ⟨0,_,hi,a'⟩
   refine ⟨?_,hca⟩;rcases z.2 with z|z|z
   · exact .inl z
   · exact absurd z hca
   · exact .inr z
  exact q v H' (fun c o hc e=>k'.base c o (by rw [if_neg hc];exact e)) (t2.stay (fun _ _ e _=>e) ww fun _ e=>e) (rv.weak ww)
 refine ⟨_,_,_,o,a,kk,hat,e1,?_⟩
 cases o with
 |nx env'=>
  obtain ⟨d,e2,e3⟩:=jd eF;cases e3;exact fun σ' H' k' a' f'=>fin env' σ' H' .non k' a' e2 .non
 |rt r' env'=>
  obtain ⟨d,e2,e3⟩:=jd eF;cases e3
  exact fun v σ' H' k' a' f' rv=>fin env' σ' H' v k' a' e2 rv)
end
structure AvK (P:aay) (w:World) (K:aab) (mg:Yx) (base:Heap) (k:Nat) (c:Str) (n:Nat) (F:FO):Prop where
 ex: ∃C f fd ps,FnOk P w K mg base CX0 k f fd ps (spJ K n F)/\aan K aam c=some (some (.ref C))/\mg c=some (.ref C)/\Mk K C f/\Binds K fd ps []
def jdN (c:Str) (n:Nat) (F:FO) (g:TF):Sl->Res D:=fun env=>g env>>=fun ds=>must (ds.length=n) (F (.obj c [] []) ds>>=fun q=>match q with
 | (.non,d)=> .ok d
 |_=> .stuck)
section
variable {X:Cx} {k n:Nat} {c:Str} {F:FO} {e:Expr} {es:List Expr} {pos p:Pos} {g:TF}
def AvK.make (A:AvK X.prog X.w X.K X.mg X.base k c n F) (hr:Room (k+1) X.A) (ha:DA X .s (e::es) g) (hg:Gl X c:=by rfl) (hdb:Z0 c:=by decide)
  (he:T9 X e es:=by exact jk rfl) (hpl:T8 X pos es:=by exact jz rfl):
  DE X .t (.Call (.Name c p) (e::es) [] pos) (jdN c n F g):=by
 obtain ⟨C,f,fd,ps,h1,h2,h3,h4,h5⟩:=A.ex
 with_unfolding_all exact (
 PE.imp (jdn h4 h1 hr hg h3 h5 .nil Uh ha hdb he hpl) fun σ H Q=>by
  rintro ⟨G,H0,env,d,k,ef,q⟩;obtain ⟨ds,e1,ef⟩:=jd ef;obtain ⟨hn,ef⟩:=jq ef;obtain ⟨⟨r,d1⟩,e2,ef⟩:=jd ef
  cases r with
  |non=>
   cases ef;refine ⟨G,H0,env,ds,k,e1,fun vs H1 s1 r1 x dx hx hdx ne=>?_⟩
   have S:Same H1 (upd (upd H1 dx (.own x)) x (.ins C dx [])):=fun b o eb=>by
    rw [jL (jK eb hx),jL (jK eb hdx)];exact eb
   have kx:=k.new x (Same.free s1 hx);have rr:=r1.inDom.grow S;rw [abC];refine ⟨Sf G env σ,ds,vs,x,_,.non,d,rfl,by rw [r1.length];exact hn,rr.weak fun b z=>⟨z.1,by rintro rfl;exact z.2 hx⟩,.obj ju ⟨h2,rfl⟩ rfl .nil,e2,fun v H' hs t rv=>⟨rv.nonE,?_⟩⟩;have sH:Same H H':=fun b o eb=>hs b o (jK (s1 b o eb) hx) (S b o (s1 b o eb))
   refine q _ H' sH (t.rep (fun b z=>⟨z.1.elim (fun z=>k.new b (Same.free s1 (Same.free S z))) fun z=>z,z.2⟩) kx) fun b eb o qb m=>?_
   cases eb;rw [s1 _ _ qb] at hx;cases hx
  |_=>cases ef)
end
section
variable {P:aay} {w:World} {K:aab} {mg:Yx} {base:Heap}
def jgB {m:Str} {st:Stmt} {k:Nat} {g:Sl->Res OutO} (Fu:Fun K m qual st f fd) (hC:aan K aam c=some (some (.ref C))) (hmg:mg c=some (.ref C)) (mk:Mk K C f) (S:FnScope N ps (jh st)) (hbi:Binds K fd ps []) (hn:ps.length=n+1) (hN:n+1<=N.length)
  (hb: ∀(cdv:Value) (A:aaV) (outer:List Env) (s:aaf) (H:Hp) (E:XK),Room k (A.deeper (ac4 qual (jh st) s.heap.objs.size f cdv))->DSsO (cxOf CX0 P w K mg base N qual (jh st) f cdv A outer s H E).nox 0 (jI st) g):
  AvK P w K mg base (k+1) c n (runJ N.length n g):=
 ⟨C,f,fd,ps,jgb Fu S hn hN hb,hC,hmg,mk,hbi⟩
end
section
variable {prog:aay} {w:World} {A:aaV} {E:Ud} {s:aaf}
def Xy:typeLookup (.type "list") "keys" =pure none:=by rw [typeLookup_type,builtinLookup_eq_fast];kernel_rfl
def vB {xs:Array Value} {k:Nat} {Q:Option Value->aaf->Prop} (ho:s.heap.get? a=some o) (hc:o.cls= .type "list") (hdd:o.dict=none) (hd:o.data= .seq xs k) (hA:A.handled=none)
  (h: ∀h' tk,(∀b ob,s.heap.get? b=some ob->h'.get? b=some ob)->Q none {s with heap:=h',toks:=tk}):wpAny (model prog w) A (getAttr? (.ref a) "keys") Q E s:=by
 obtain ⟨hp,g,d,tk,os⟩:=s;obtain ⟨oc,od,odata,osl⟩:=o;simp only at hc hdd hd;subst hc hdd hd;have hT:(⟨hp,g,d,tk,os⟩:aaf).TypeIs (.ref a) "list" :=⟨_,ho,rfl⟩
 have hT':(⟨hp,g,d,tk+1,os⟩:aaf).TypeIs (.ref a) "list" :=⟨_,ho,rfl⟩
 have f1:=sub_AttributeError;have f3:=adn.lookup;have f4:=adn.bind (.ref a);have f5:=am_list_getattr_none;unfold getAttr? getAttrBy? getAttrBy
 repeat (any_goals (first | assumption | ((with_reducible show wpAny _ _ (call (Value.builtin "list.__getattribute__") _ _) _ _ _); refine adK adn hT' am_entry_list_getattribute (F.args_list_getattribute_2 _ _) (meets_getattribute_miss_list a xs k osl "keys" _ Xy (by decide)) ⟨ho, hA, fun h' tk' e hx => ?_⟩) | wp_step))
 obtain ⟨t',u',he⟩:=hx.there;unfold getattributeRaised
 repeat (any_goals (first|assumption|wp_step))
 exact h h' _ hx.keeps
def q8:entryFor table "dict.update.loop" =some acF.«dict.update.loop» :=entryFor_of_tree (by kernel_rfl)
def jZ:plainId "dict.update.loop" =true:=by decide+kernel
def Wb {t:Addr} {its:Array Value} {Q:List Value->aaf->Prop} (ho:s.heap.get? t=some o) (hc:o.cls= .type "tuple") (hd:o.data= .seq its n) (h:Q its.toList s):wpAny (model prog w) A (ae1 (.ref t)) Q E s:=by
 unfold ae1;refine aaa (adP (show s.TypeIs (.ref t) "tuple" from ⟨o,ho,hc⟩) ?_);rw [if_pos (by decide)];refine aaa (abK ho hd ?_);exact aae h
def Yb (pr:Nat->List Key×Addr×Value):Nat->List (List Key×Addr×Value)
 |0=>[]
 |i+1=>storedH (Yb pr i) (pr i).1 (pr i).2.1 (pr i).2.2
def Ys (xs:List (List Key×Addr×Value)) (k:List Key) (a:Addr) (v:Value):(storedH xs k a v).length<=xs.length+1:=by
 cases h:atKey xs k with
 |none=>rw [storedH_new h];simp
 |some p=>rw [storedH_old h];simp
theorem Q9 (pr:Nat->List Key×Addr×Value): ∀i,(Yb pr i).length<=i
 |0=>aag _
 |i+1=>aaw (Ys _ _ _ _) (Nat.succ_le_succ (Q9 pr i))
def Xa {k:List Key} {v:Value} {N:Nat} (h: ∀x∈xs,x.2.1<N) (ha:a<N): ∀x∈storedH xs k a v,x.2.1<N:=by
 intro x hx
 cases q:atKey xs k with
 |none=>
  rw [storedH_new q] at hx;rcases aa1.mp hx with z|z
  · exact h x z
  · rw [aaJ] at z;subst z;exact ha
 |some p=>
  rw [storedH_old q] at hx;obtain ⟨y,hy,rfl⟩:=aat.mp hx;unfold putAt
  split
  · exact h y hy
  · exact h y hy
theorem J7 {pr:Nat->List Key×Addr×Value} {N:Nat} (h: ∀i,i<n->(pr i).2.1<N): ∀i,i<=n-> ∀x∈Yb pr i,x.2.1<N
 |0,_,x,hx=>by cases hx
 |i+1,hi,x,hx=>Xa (J7 h i (by omega)) (h i (by omega)) x hx
variable {R:Result->aaf->Prop} {I:Addr} {fp wr:List Addr} {G:Array GenState->Array GenState->Prop} {n:Nat} {P:Nat->Value->Prop} {St:Nat->aaf->Prop}
def Uu (W:WalksS prog w A.in1 I fp wr G n P St) (d:Addr) (hdf:d∉fp) (pr:Nat->List Key×Addr×Value) (h0:Heap) (hkey: ∀i,i<n->abB (jM prog w) h0 (pr i).1 (pr i).2.1)
  (hval: ∀i v,P i v-> ∃t o m,v= .ref t/\h0.get? t=some o/\o.cls= .type "tuple" /\o.data= .seq #[.ref (pr i).2.1,(pr i).2.2] m)
  (hdw:h0.objs.size<=d) (hIw: ∀b∈wr,h0.objs.size<=b) (hu:A.in1.units<cLine) (hn:n<=aak):
  ∀(k i:Nat) (s:aaf),n-i=k->i<=n->St i s->s.heap.DictOfH (acL (jM prog w)) d (Yb pr i)->(∀b o,b<h0.objs.size->h0.get? b=some o->s.heap.get? b=some o)->
    (∀s',Moved (d::wr) G s s'->s'.heap.DictOfH (acL (jM prog w)) d (Yb pr n)->R (.ok (.ret .none)) s')->
    adX (model prog w) A (.builtin "dict.update.loop" ⟨[.ref d,.ref I,rawInt i,.none],[]⟩) R s:=by
 have hSw:d∉wr:=fun h=>hdf (W.sub _ h)
 have hsub: ∀b∈wr,b∈d::wr:=fun b hb=>aal _ hb
 have hka: ∀i,i<n->(pr i).2.1<h0.objs.size:=fun i hi=>by
  obtain ⟨o',items,n',g1,g2⟩:=hkey i hi;exact aar g1
 have dkeep: ∀ {s s':aaf} {xs:List (List Key×Addr×Value)},s.heap.DictOfH (acL (jM prog w)) d xs->(∀x∈xs,x.2.1<h0.objs.size)->Moved wr G s s'->s'.heap.DictOfH (acL (jM prog w)) d xs:=fun hS hx hm=>by
  obtain ⟨o,es,ep,ho,hc,hd,he,his,hnd⟩:=hS;refine ⟨o,es,ep,hm.heap d _ hSw ho,hc,hd,he,fun x hxx=>?_,hnd⟩;obtain ⟨o',items,n',g1,g2⟩:=(show abB (jM prog w) _ x.1 x.2.1 from his x hxx)
  exact ⟨o',items,n',hm.heap _ _ (fun z=>absurd (hIw _ z) (Nat.not_le_of_lt (hx x hxx))) g1,g2⟩
 intro k
 induction k with
 |zero=>
  intro i s hk hi hst hS hold hR;have hin:i=n:=by omega
  subst hin;refine acW q8 ?_;rw [ac7 jZ _];refine aaa (W.done s _ _ hst fun s' hm=>?_);refine aaa (aae ?_);exact aae (hR s' (hm.mono hsub) (dkeep hS (J7 hka _ (aag _)) hm))
 |succ k ih=>
  intro i s hk hi hst hS hold hR;have hlt:i<n:=by omega
  refine acW q8 ?_;rw [ac7 jZ _];refine aaa (W.item i s _ _ hlt hst fun v s' hP hst' hm=>?_);obtain ⟨t,o,m,rfl,ht,hc,hd⟩:=hval i v hP;have hold': ∀b o,b<h0.objs.size->h0.get? b=some o->s'.heap.get? b=some o:=fun b o hb e=>hm.heap b o (fun z=>absurd (hIw _ z) (Nat.not_le_of_lt hb)) (hold b o hb e)
  have hS':=dkeep hS (J7 hka _ hi) hm;have ht':=hold' _ _ (aar ht) ht;refine aaa (aa4 ?_);refine aaa (wpAny_tryCatch (Wb ht' hc hd ?_));refine aa4 ?_
  have hk':(acL (jM prog w)).is s'.heap (pr i).1 (pr i).2.1:=by
    obtain ⟨o',items,n',g1,g2⟩:=hkey i hlt;exact ⟨o',items,n',hold' _ _ (aar g1) g1,g2⟩
  refine wpAny_dictSet_heap hu hk' hS' (fun h' dd' hs=>?_) (aaw (Q9 pr i) (aaw hi hn));refine aae ⟨plainId_quiet jZ _,?_⟩;have hrun:=ih (i+1) {s' with heap:=h',toks:=s'.toks+(acL (jM prog w)).draws (pr i).1} (by omega) hlt (W.frame _ s' _ _ hst' (abO _ _) fun b hb o e=>?_) dd' (fun b o hb e=>?_) fun s'' hm'' hS''=>?_
  · exact hrun
  · rw [hs.2 b (fun h:b=d=>hdf (by rw [←h];exact hb))];exact e
  · rw [hs.2 b (fun h:b=d=>absurd hdw (by rw [←h];exact Nat.not_le_of_lt hb))];exact hold' b o hb e
  · refine hR s'' (Moved.trans W.gtrans ((hm.mono hsub).then_heap (abO _ _) fun b o hb e=>?_) hm'') hS'';rw [hs.2 b (fun h:b=d=>hb (by rw [h];exact aap))];exact e
def Q8 {l:Addr} {its:Array Value} {Q:Ud} (pr:Nat->List Key×Addr×Value) (hh:A.handled=none) (ho:s.heap.get? l=some ol) (hc:ol.cls= .type "list") (hdd:ol.dict=none) (hd:ol.data= .seq its m)
  (hkey: ∀i,i<its.size->abB (jM prog w) s.heap (pr i).1 (pr i).2.1)
  (hval: ∀i v,its[i]?=some v-> ∃t o m,v= .ref t/\s.heap.get? t=some o/\o.cls= .type "tuple" /\o.data= .seq #[.ref (pr i).2.1,(pr i).2.2] m) (hu:A.units+2<cLine) (hn:its.size<=aak)
  (h: ∀h' tk,(∀b o,s.heap.get? b=some o->h'.get? b=some o)->h'.DictOfH (acL (jM prog w)) s.heap.objs.size (Yb pr its.size)->Q (.ref s.heap.objs.size) {s with heap:=h',toks:=tk}):
  wpAny (model prog w) A (call (.type "dict") [.ref l]) Q E s:=by
 refine callType_codes (Q₁:=fun obj s₁=>obj= .ref s.heap.objs.size/\s₁={s with heap:=s.heap.push {cls:= .type "dict",data:= .dict #[]}}) F.kt_called_dict (F.kt_typeCall_dict_1 _) F.entry_dict_init (kt_code_dict_new _ ⟨rfl,rfl⟩) ?_;rintro obj s₁ ⟨rfl,rfl⟩;have kp: ∀b o,s.heap.get? b=some o->(s.heap.push {cls:= .type "dict",data:= .dict #[]}).get? b=some o:=fun b o e=>aac _ e
 have hT:Shared.TypeIs {s with heap:=s.heap.push {cls:= .type "dict",data:= .dict #[]}} (.ref s.heap.objs.size) "dict" :=⟨_,aao _ rfl,rfl⟩
 have hTl:Shared.TypeIs {s with heap:=s.heap.push {cls:= .type "dict",data:= .dict #[]}} (.ref l) "list" :=⟨_,kp _ _ ho,hc⟩
 refine ⟨hT,F.args_dict_init_2 _ _,?_⟩;unfold acF.«dict.__init__»;refine aaa ?_;unfold Builtin.Dict.selfAndRest;refine aaa (wpAny_notOrdered_dict hT ?_);refine aae ?_;show wpAny _ _ (aeV "dict.__init__" s.heap.objs.size (.ref l) [] .none) _ _ _;unfold aeV;refine aaa (adP hTl ?_);rw [if_pos (by decide)];refine aaa (vB (kp _ _ ho) hc hdd hd (by simp [hh]) fun h1 tk1 k1=>?_);simp;refine aaa (adl ?_);have hl1:h1.IsList l its:=⟨_,k1 _ _ (kp _ _ ho),hc,m,hd⟩
 refine aaa (abU hl1 ?_);have hz1:=aar (k1 _ _ (aao _ rfl));have hlS:=aar ho;have hneI:=aaF (ae8 hlS hz1);refine aae ⟨plainId_quiet jZ _,?_⟩;have hh3:A.in1.in1.handled=none:=by simp [hh]
 refine Uu ((afe hh3 h1.objs.size l hneI its).toS) s.heap.objs.size (by simp;exact ⟨aaF hz1,aet hlS⟩) pr s.heap hkey (fun i v hv=>hval i v hv) (aag _) (fun b hb=>by simp at hb;subst hb;exact ae4 hz1) (by simpa [Around.in1] using hu) hn (its.size-0) 0 _ (by omega) (abe _)
  ⟨⟨_,aao _ rfl,rfl,rfl⟩,hl1.push _⟩ ?hd0 (fun b o hb e=>aac _ (k1 _ _ (kp _ _ e))) ?hR
 case hd0=>
  exact ⟨_, #[],0,aac _ (k1 _ _ (aao _ rfl)),⟨rfl,rfl,rfl⟩,rfl,rfl,(fun x hx=>by cases hx),List.nodup_nil⟩
 case hR=>
  intro s' hm hS';obtain ⟨h',g',d',tk',os'⟩:=s';have eg:=hm.gens;have ed:=hm.drawn;have eo:=hm.os;subst eg;subst ed;subst eo;refine ⟨rfl,h h' tk' (fun b o e=>?_) hS'⟩;have hb:=aar e;exact hm.heap b o (by simp;exact ⟨aaF hb,aaF (ae8 hb hz1)⟩) (aac _ (k1 _ _ (kp _ _ e)))
end
def jf4 {A:aaV} {k:Nat} (hr:Room k A):A.units+2<cLine:=aev (Nat.add_le_add_left (by decide:2<=64) _) hr.units
section
variable {X:Cx} {K:aab}
inductive Prs (H:Hp):List V->List (List Key×V)->Prop where
 |nil:Prs H [] []
 |cons {t b:Addr} {k:List Key} {v:V} {r:List V} {ps:List (List Key×V)}:H t=some (.tup [.ref b,v])->H b=some (.tup (k.map kV))->Prs H r ps->Prs H (.ref t::r) ((k,v)::ps)
def QC (ps:List (List Key×V)):List (List Key×V):=ps.foldl (fun kvs p=>putK kvs p.1 p.2) []
theorem kD {s:aaf} (I:Inv X pins σ H s): ∀ {ys:List V} {ps:List (List Key×V)} {its:List Value},Prs H ys ps->Vals ys its->
  ∃qs:List (List Key×Addr×Value),qs.length=its.length/\aeJ (fun (p:List Key×V) (q:List Key×Addr×Value)=>p.1=q.1/\H q.2.1=some (.tup (p.1.map kV))/\RelV p.2 q.2.2) ps qs/\
   ∀(i:Nat) (v:Value),its[i]?=some v-> ∃q,qs[i]?=some q/\ ∃t o m,v= .ref t/\s.heap.get? t=some o/\o.cls= .type "tuple" /\o.data= .seq #[.ref q.2.1,q.2.2] m
 |_,_,_,.nil,.nil=>⟨[],rfl,.nil,fun i v h=>by simp at h⟩
 |_,_,_,.cons (t:=t) (b:=b) (k:=k) ht hb hr,.cons r1 rr=>by
  obtain ⟨qs,h1,h2,h3⟩:=kD I hr rr;obtain ⟨its2,r2,⟨o,e1,e2,m,e3⟩,_⟩:=I.tuple (.inl (.of ht))
  cases r2 with
  |cons ra r2=>
   cases r2 with
   |cons rb r2=>
    cases r2;rename_i ua ub;cases (show ua=aau b from ra);cases r1;refine ⟨(k,b,ub)::qs,by simp [h1],.cons ⟨rfl,hb,rb⟩ h2,fun i v hv=>?_⟩
    cases i with
    |zero=>
     simp at hv;subst hv;exact ⟨_,rfl,t,o,m,rfl,e1,e2,e3⟩
    |succ i=>
     simp at hv;obtain ⟨q,g1,g2⟩:=h3 i v hv;exact ⟨q,by simpa using g1,g2⟩
theorem JZ {β:Type} {F:α->β->Prop}: ∀ {l₁:List α} {l₂:List β},aeJ F l₁ l₂-> ∀(i:Nat) (y:β),l₂[i]?=some y-> ∃x,l₁[i]?=some x/\F x y
 |_,_,.nil,i,y,h=>by simp at h
 |_,_,.cons r t,0,y,h=>by simp at h;subst h;exact ⟨_,rfl,r⟩
 |_,_,.cons r t,i+1,y,h=>by
  obtain ⟨x,h1,h2⟩:=JZ t i y (by simpa using h);exact ⟨x,by simpa using h1,h2⟩
theorem VJ {ps:List (List Key×V)} (r:aeJ (fun (p:List Key×V) (q:List Key×Addr×Value)=>p.1=q.1/\H q.2.1=some (.tup (p.1.map kV))/\RelV p.2 q.2.2) ps qs):
  ∀i,i<=qs.length->KT H (QC (ps.take i)) (Yb (fun j=>qs.getD j ([],0,.none)) i)
 |0,_=> .nil
 |i+1,hi=>by
  have ih:=VJ r i (by omega);obtain ⟨q,hq⟩: ∃q,qs[i]?=some q:=⟨qs[i]'(by omega),aad _⟩
  obtain ⟨p,hp,⟨e1,e2,e3⟩⟩:=JZ r i q hq;have hg:qs.getD i ([],0,.none)=q:=by simp [List.getD,hq]
  have ht:ps.take (i+1)=ps.take i++[p]:=by rw [List.take_add_one,hp];rfl
  have hpa:QC (ps.take (i+1))=putK (QC (ps.take i)) p.1 p.2:=by unfold QC;rw [ht,List.foldl_append];rfl
  rw [hpa];show KT H _ (storedH (Yb (fun j=>qs.getD j ([],0,.none)) i) (qs.getD i ([],0,.none)).1 (qs.getD i ([],0,.none)).2.1 (qs.getD i ([],0,.none)).2.2);rw [hg,←e1];exact ih.put p.1 e2 e3
def UF (hc:X.calm=true) (hu:X.A.units+2<cLine):CallR X (.type "dict") (fun xs H Q=> ∃p ys ps,xs=[.ref p]/\H p=some (.lst ys)/\Prs H ys ps/\ ∀l,H l=none->Q (.ref l) (upd H l (.dT (QC ps)))):=by
 rintro pins s σ H xs us Q I r ⟨p,ys,ps,ex,hp,hps,q⟩;subst ex;obtain ⟨u,rfl,ru⟩:=Jj r;cases ru;obtain ⟨its,rv,⟨o,n,ho,hcl,hdd,hd⟩,hz⟩:=I.list (SqL.of hp);obtain ⟨qs,h1,h2,h3⟩:=kD I hps rv;have hsz:its.toArray.size=qs.length:=by rw [aah,h1]
 have hql:qs.length<=aak:=by rw [h1,←rv.length];exact hz
 refine Q8 (fun j=>qs.getD j ([],0,.none)) (I.ok.hd hc) ho hcl hdd hd (fun i hi=>?_) (fun i v hv=>?_) hu (by rw [hsz];exact hql) fun h' tk hk dd=>?_
 · obtain ⟨qq,hq⟩: ∃q,qs[i]?=some q:=⟨qs[i]'(by rw [hsz] at hi;exact hi),aad _⟩
   obtain ⟨pp,hp',⟨e1,e2,e3⟩⟩:=JZ h2 i qq hq;have hg:qs.getD i ([],0,.none)=qq:=by simp [List.getD,hq]
   rw [hg,←e1];exact QR I.hok e2
 · obtain ⟨qq,hq,g⟩:=h3 i v (by rw [←hv];simp);have hg:qs.getD i ([],0,.none)=qq:=by simp [List.getD,hq]
   rw [hg];exact g
 · have hl:=I.hok.fresh (aag _);rw [hsz] at dd;have kt:=VJ h2 qs.length (aag _);have hpl:=ad7 h2;rw [List.take_of_length_le (by omega)] at kt;have kl:=ad7 kt;have hbl:=Q9 (fun j=>qs.getD j ([],0,.none)) qs.length;obtain ⟨qq,es,ep,hq,g2,g3,g4,_,g5⟩:=dd;refine ⟨.ref s.heap.objs.size,_,I.laid hk (aag _) (show ObjOk X.prog X.w _ h' _ (.dT (QC ps)) from ⟨by omega,beq_eq_false_iff_ne.mpr (adh (aaF I.big)),_,kt.keeps fun c ys ec=>?_,qq,es,ep,hq,g2,g3,g4,g5⟩),rfl,q _ hl⟩;rw [jL (jK ec hl)];exact ec
def prsD:List D->Option (List (List Key×D))
 | []=>some []
 | .tup [kd,d]::r=>match keyT kd,prsD r with
  |some k,some q=>some ((k,d)::q)
  |_,_=>none
 |_=>none
theorem KK {A:Ue}: ∀ {vs:List V} {ds:List D} {ps:List (List Key×D)},Reps K A H vs ds->prsD ds=some ps-> ∃qs:List (List Key×V),Prs H vs qs/\qs.map (·.1)=ps.map (·.1)/\Reps K A H (qs.map (·.2)) (ps.map (·.2))
 |_,[],ps,.nil,h=>by simp [prsD] at h;subst h;exact ⟨[],.nil,rfl,.nil⟩
 |_,d::ds,ps,.cons r rs,h=>by
  unfold prsD at h
  split at h
  · rename_i e;cases e
  · rename_i kd d' r' e;cases e
    cases hk:keyT kd with
    |none=>rw [hk] at h;cases h
    |some k=>
     cases hq:prsD ds with
     |none=>rw [hk,hq] at h;cases h
     |some q=>
      rw [hk,hq] at h;cases h;obtain ⟨qs,g1,g2,g3⟩:=KK rs hq;obtain ⟨t,xs,rfl,ht,rx⟩:=r.tupE;obtain ⟨v1,v2,rfl,r1,r2⟩:=rx.two;obtain ⟨b,rfl,hb⟩:=JB r1 hk;exact ⟨(k,v2)::qs,.cons ht hb g1,by simp [g2],.cons r2 g3⟩
  · cases h
def Zk (q:List (List Key)×List D) (p:List Key×D):List (List Key)×List D:=(Zi q.1 p.1,Zj q.1 q.2 p.1 p.2)
def ZL:List D->Res D
 | [.lst ds]=>match prsD ds with
  |some ps=> .ok (.dit (ps.foldl Zk ([],[])).1 (ps.foldl Zk ([],[])).2)
  |none=> .stuck
 |_=> .stuck
theorem Zr {A:Ue}: ∀ {qs:List (List Key×V)} {ps:List (List Key×D)} {kvs:List (List Key×V)} {q:List (List Key)×List D},qs.map (·.1)=ps.map (·.1)->Reps K A H (qs.map (·.2)) (ps.map (·.2))->kvs.map (·.1)=q.1->Reps K A H (kvs.map (·.2)) q.2->
  (qs.foldl (fun kvs p=>putK kvs p.1 p.2) kvs).map (·.1)=(ps.foldl Zk q).1/\Reps K A H ((qs.foldl (fun kvs p=>putK kvs p.1 p.2) kvs).map (·.2)) (ps.foldl Zk q).2
 | [],[],kvs,q,_,_,h1,h2=>⟨h1,h2⟩
 | [],_::_,_,_,h,_,_,_=>by cases h
 |_::_,[],_,_,h,_,_,_=>by cases h
 | (k,v)::qs,(k',d)::ps,kvs,q,h,.cons r rs,h1,h2=>by
  simp at h;obtain ⟨rfl,h⟩:=h;obtain ⟨p1,p2⟩:=KD k h2 r;rw [h1] at p1 p2;exact Zr (kvs:=putK kvs k v) (q:=Zk q (k,d)) h rs p1 p2
def jbT:Zf K (fun xs H Q=> ∃p ys ps,xs=[.ref p]/\H p=some (.lst ys)/\Prs H ys ps/\ ∀l,H l=none->Q (.ref l) (upd H l (.dT (QC ps)))) ZL:=by
 intro A xs H ds d Q r e q;unfold ZL at e
 split at e
 · split at e
   · rename_i ps hps;cases e;obtain ⟨v,rfl,r1⟩:=r.one;obtain ⟨p,ys,rfl,hp,_,ry⟩:=r1.lstE;obtain ⟨qs,g1,g2,g3⟩:=KK ry.low hps;obtain ⟨a1,a2⟩:=Zr (kvs:=[]) (q:=([],[])) g2 g3 rfl .nil;exact ⟨p,ys,qs,rfl,hp,g1,fun l hl=>q _ _ (Same.upd hl) (.dit ju (.inl hl) a1 rfl ((a2.laid hl).weak fun c z=>⟨.inr z.1,z.2⟩)) (qh (Same.refl H) hl)⟩
   · cases e
 · cases e
end
def fsc {P:List Str} (h1:sc.kind= .function:=by rfl) (h2:sc.isCoroutine=false:=by rfl) (h3:sc.isGenerator=false:=by rfl) (h4:N.Nodup:=by decide+kernel) (h5:N.take P.length=P:=by rfl) (h6: ∀x∈P,sc.names.lookup x=some .local\/sc.names.lookup x=some .cell:=by decide+kernel) (h7: ∀y∈sc.names,y.2≠ .free:=by decide+kernel):FnScope N P sc:=⟨h1,h2,h3,h4,h5,h6,h7⟩
def Dx (K:aab) (mg:Yx) (x:Str) (st:Stmt) (ps:List Str):Prop:= ∃f fd,Fun K x x st f fd/\mg x=some (.ref f)/\Binds K fd ps []
def LkF (K:aab) (p:Addr) (x q:Str) (st:Stmt):Prop:= ∃(oc:Value) (od an:Option Addr) (osl:Array (Option Value)) (kV doc pm cdv ct:Value),
 K.lookup p=some ⟨oc,od,.func (abh x q (qw st) (jI st) (jh st) .none kV doc pm an cdv ct),osl⟩/\acp K cdv q=true
def DefN (K:aab) (x:Str) (st:Stmt):Prop:= ∃p:Addr,aan K aam x=some (some (.ref p))/\LkF K p x x st/\aaZ K (.ref p)=true
def Dm (K:aab) (C:Addr) (m q:Str) (st:Stmt) (ps:List Str):Prop:= ∃f fd,Fun K m q st f fd/\Meth K C m f/\Binds K fd ps []
def DefM (K:aab) (C:Addr) (m q:Str) (st:Stmt):Prop:= ∃p:Addr,abg K (.ref C) m=some (some (.ref p))/\aeu K (.ref p)=true/\LkF K p m q st/\aaZ K (.ref p)=true
abbrev Tk (x q:Str) (st:Stmt) (us:List Value) (ps:List Str):Prop:= ∀(kV doc pm:Value) (an:Option Addr) (cdv ct:Value),bindArgs (abh x q (qw st) (jI st) (jh st) .none kV doc pm an cdv ct) ⟨us,[]⟩=pure (ps.zip us)
section
variable {K:aab} {mg:Yx} {x q m:Str} {st:Stmt} {ps:List Str} {h:Heap} {C:Addr}
def LkF.fn {p:Addr} (l:LkF K p x q st) (k:aaZ K (.ref p)=true) (hb: ∀us,us.length=ps.length->Tk x q st us ps): ∃fd,Fun K x q st p fd/\Binds K fd ps []:=by
 obtain ⟨oc,od,an,osl,kV,doc,pm,cdv,ct,l,c⟩:=l;have F:=jcy l c k;exact ⟨_,F,F.binds fun a b c d e f us hl=>hb us hl a b c d e f⟩
def DefN.dx (d:DefN K x st) (KX:K.In h) (G:h.Ns aam mg) (hb: ∀us,us.length=ps.length->Tk x x st us ps):Dx K mg x st ps:=by
 obtain ⟨p,a,l,k⟩:=d;obtain ⟨fd,F,B⟩:=l.fn k hb;exact ⟨p,fd,F,aaR KX G a,B⟩
def DefM.dm (d:DefM K C m q st) (hb: ∀us,us.length=ps.length->Tk m q st us ps):Dm K C m q st ps:=by
 obtain ⟨p,a,i,l,k⟩:=d;obtain ⟨fd,F,B⟩:=l.fn k hb;exact ⟨p,fd,F,⟨a,i,k⟩,B⟩
theorem tk0 {x:Str} {st:Stmt} (h:Tk x q st [] []:=by intro _ _ _ _ _ _;rfl): ∀us:List Value,us.length=([]:List Str).length->Tk x q st us []
 | [],_=>h
theorem tk1 {x:Str} {st:Stmt} {p:Str} (h: ∀a,Tk x q st [a] [p]:=by intro _ _ _ _ _ _ _;rfl): ∀us:List Value,us.length=[p].length->Tk x q st us [p]
 | [a],_=>h a
theorem tk2 {x:Str} {st:Stmt} {p:Str} (h: ∀a b,Tk x q st [a,b] [p,p2]:=by intro _ _ _ _ _ _ _ _;rfl): ∀us:List Value,us.length=[p,p2].length->Tk x q st us [p,p2]
 | [a,b],_=>h a b
theorem tk3 {x:Str} {st:Stmt} {p:Str} (h: ∀a b c,Tk x q st [a,b,c] [p,p2,p3]:=by intro _ _ _ _ _ _ _ _ _;rfl): ∀us:List Value,us.length=[p,p2,p3].length->Tk x q st us [p,p2,p3]
 | [a,b,c],_=>h a b c
theorem tk4 {x:Str} {st:Stmt} {p:Str} (h: ∀a b c d,Tk x q st [a,b,c,d] [p,p2,p3,p4]:=by intro _ _ _ _ _ _ _ _ _ _;rfl): ∀us:List Value,us.length=[p,p2,p3,p4].length->Tk x q st us [p,p2,p3,p4]
 | [a,b,c,d],_=>h a b c d
theorem tk5 {x:Str} {st:Stmt} {p p5:Str} (h: ∀a b c d e,Tk x q st [a,b,c,d,e] [p,p2,p3,p4,p5]:=by intro _ _ _ _ _ _ _ _ _ _ _;rfl): ∀us:List Value,us.length=[p,p2,p3,p4,p5].length->Tk x q st us [p,p2,p3,p4,p5]
 | [a,b,c,d,e],_=>h a b c d e
end
section
variable {P:aay} {w:World} {K:aab} {mg:Yx} {base:Heap}
def zY {x:Str} {st:Stmt} {k:Nat} (fr:Bool) {g:TH} (d:Dx K mg x st ps) (S:FnScope N ps (jh st))
  (hb: ∀(f:Addr) (cdv:Value) (A:aaV) (outer:List Env) (s:aaf) (H:Hp) (E:XK),Room k (A.deeper (ac4 x (jh st) s.heap.objs.size f cdv))->DSs (cxOf CX0 P w K mg base N x (jh st) f cdv A outer s H E).nox (jI st) g):
  Av P w K mg base (k+1) x ps fr (runF fr N.length g):=by
 obtain ⟨f,fd,F,m,B⟩:=d;exact jhp fr F m S B (hb f)
def jgv {x:Str} {st:Stmt} {k:Nat} (fr:Bool) {g:TH} (d:Dx K mg x st ps) (S:FnScope N ps (jh st))
  (hb: ∀(f:Addr) (cdv:Value) (A:aaV) (outer:List Env) (s:aaf) (H:Hp) (E:XK),Room k (A.deeper (ac4 x (jh st) s.heap.objs.size f cdv))->DSsX (cxOf (CX1 P w) P w K mg base N x (jh st) f cdv A outer s H E) (jI st) g):
  AvX P w K mg base (k+1) x ps fr (runX fr N.length g):=by
 obtain ⟨f,fd,F,m,B⟩:=d;exact jgw fr F m S B (hb f)
def jgx {m:Str} {st:Stmt} {k:Nat} (fr:Bool) {g:TH} (d:Dm K C m q st ps) (hC:aan K aam c=some (some (.ref C))/\Cls K C) (S:FnScope N ps (jh st))
  (hb: ∀(f:Addr) (cdv:Value) (A:aaV) (outer:List Env) (s:aaf) (H:Hp) (E:XK),Room k (A.deeper (ac4 q (jh st) s.heap.objs.size f cdv))->DSs (cxOf CX0 P w K mg base N q (jh st) f cdv A outer s H E).nox (jI st) g):
  AvM P w K mg base (k+1) c m ps fr (runF fr N.length g):=by
 obtain ⟨f,fd,F,m,B⟩:=d;exact jgy fr F hC.1 hC.2 m S B (hb f)
def jgA {st:Stmt} {k:Nat} {g:Sl->Res OutO} (d:Dm K C "__init__" q st ps) (hC:aan K aam c=some (some (.ref C))/\Cls K C) (hmg:mg c=some (.ref C)) (mk:adu K C=true/\aaZ K (.ref C)=true) (S:FnScope N ps (jh st)) (hn:ps.length=n+1) (hN:n+1<=N.length)
  (hb: ∀(f:Addr) (cdv:Value) (A:aaV) (outer:List Env) (s:aaf) (H:Hp) (E:XK),Room k (A.deeper (ac4 q (jh st) s.heap.objs.size f cdv))->DSsO (cxOf CX0 P w K mg base N q (jh st) f cdv A outer s H E).nox 0 (jI st) g):
  AvK P w K mg base (k+1) c n (runJ N.length n g):=by
 obtain ⟨f,fd,F,m,B⟩:=d;exact jgB F hC.1 hmg ⟨mk.1,m.at_,m.fn,mk.2⟩ S B hn hN (hb f)
def jb0 {x:Str} {st:Stmt} {k:Nat} (fr:Bool) (d:Dx K mg x st ps):Av P w K mg base k x ps fr (fun _=> .stuck):=by
 obtain ⟨f,fd,F,m,B⟩:=d;exact jeF fr F m B
end
section
variable {X:Cx} {a b e:Expr} {f f1 f2:TK} {pos:Pos} {x:Str}
def vb (i:Nat) {x:Str} (hN:X.N[i]?=some x:=by rfl) (hv:Vis X.env.scope x:=by first|exact acg rfl|exact abA (acg rfl)|exact abA (abA rfl)) (hd:Z0 x:=by decide) (hcd:Zh x:=by decide):DE X .b (.Name x pos) (rdS i):=DE.b (dv i hN hv hd hcd)
def ib {i:Int} {j}:DE X .b (.Constant (.int i) j pos) (cI i):=uJ
def i_s {i:Int} {j}:DE X .s (.Constant (.int i) j pos) (cI i):=uJ
def ob {g:D->D->Res D} (ho:OpR X (abP op) r) (hr:OpS X.K r g) (ha:DE X .b a f1) (hb:DE X .b b f2):DE X .b (.BinOp a op b pos) (two f1 f2 g):=Kc ho hr ha hb
def o_s {g:D->D->Res D} (ho:OpR X (abP op) r) (hr:OpS X.K r g) (ha:DE X .b a f1) (hb:DE X .b b f2):DE X .s (.BinOp a op b pos) (two f1 f2 g):=Kc ho hr ha hb
def Wr (ha:DE X .b a f1) (hb:DE X .b b f2):DE X .b (.BinOp a .Mod b pos) (two f1 f2 modI):=Kc wK wL ha hb
def yU (ha:DE X .b a f1) (hb:DE X .b b f2):DE X .b (.BinOp a .Pow b pos) (two f1 f2 powI):=Kc jci jck ha hb
def kX (ha:DE X .b a f1) (hb:DE X .b b f2):DE X .b (.BinOp a .FloorDiv b pos) (two f1 f2 divW):=Kc Wf Wq ha hb
def gi {x:Str} {i:Int} (hg:Gl X x) (hm: ∃t,X.mg x=some (.int i t)) (hd:Z0 x:=by decide):DE X .b (.Name x pos) (cI i):=hm.elim fun _ h=>jer hg h hd
def gst {x y:Str} (hg:Gl X x) (hm: ∃t,X.mg x=some (.str y t)) (hl:y.length<=aak:=by decide) (hd:Z0 x:=by decide):DE X .b (.Name x pos) (cS y):=hm.elim fun _ h=>jeq hg h hl hd
end
structure AvMX (P:aay) (w:World) (K:aab) (mg:Yx) (base:Heap) (k:Nat) (c m:Str) (ps:List Str) (dfs:List D) (fr:Bool) (F:TD):Prop where
 ex: ∃C f fd dvs dus,FnOk P w K mg base (CX1 P w) k f fd ps (spX K fr ps.length F)/\aan K aam c=some (some (.ref C))/\Cls K C/\Meth K C m f/\Binds K fd ps dus/\Vals dvs dus/\ ∀A H,Reps K A H dvs dfs
def AvMX.mono {K:aab} {k:Nat} {m:Str} {F:TD} (h:AvMX P w K mg base j c m ps dfs fr F) (hj:j<=k):AvMX P w K mg base k c m ps dfs fr F:=
 let ⟨C,f,fd,dvs,dus,a,b⟩:=h.ex
 ⟨C,f,fd,dvs,dus,a.mono hj,b⟩
def wb (c m:Str) (n:Nat) (dfs:List D) (F:TD) (fo:TK) (g:TF):Sl->Res D:=fun env=>match fo env with
 | .ok (.obj c' ns vs)=>if c'=c/\ns.contains m=false then match g env with
   | .ok ds=>must (ds.length+dfs.length+1=n) (F (.obj c' ns vs::(ds++dfs)))
   |_=> .stuck
  else .stuck
 |_=> .stuck
def Xu {m:Str} {F:TD} {g:TF} (h:wb c m n dfs F fo g env≠ .stuck): ∃ns vs ds,fo env= .ok (.obj c ns vs)/\ns.contains m=false/\g env= .ok ds/\ds.length+dfs.length+1=n/\wb c m n dfs F fo g env=F (.obj c ns vs::(ds++dfs)):=by
 unfold wb at h ⊢
 split at h
 · rename_i c' ns vs e1
   split at h
   · rename_i hc;obtain ⟨rfl,h2⟩:=hc
     split at h
     · rename_i ds e2;unfold must at h
       split at h
       · rename_i h3;refine ⟨ns,vs,ds,e1,h2,e2,h3,?_⟩;rw [if_pos ⟨rfl,h2⟩];exact jo h3
       · exact (h rfl).elim
     · exact (h rfl).elim
   · exact (h rfl).elim
 · exact (h rfl).elim
section
variable {X:Cx} {k n:Nat} {c m:Str} {ps:List Str} {dfs:List D} {fr:Bool} {F:TD} {o e:Expr} {es:List Expr} {pos apos:Pos} {fo:TK} {g:TF} {pl:Sem Bool}
def kh {E:XK} {pins:List (Addr×Obj)} {σ:L2.St} {H:Hp} {s:aaf} {Q:VK} {us dus:List Value} {vs dvs:List V} (F:FnOk X.prog X.w X.K X.mg X.base CX k f fd ps sp) (hr:Room k X.A) (hb:Binds X.K fd ps dus) (hd:Vals dvs dus)
  (I:Inv X pins σ H s) (r:Vals vs us) (h:sp (vs++dvs) H Q E) (hx: ∀e s',CX X.stack H s E e s'->X.xe e s'):wpAny (model X.prog X.w) X.A (call (.ref f) us) (EP X pins σ Q) X.xe s:=by
 have hl:(us++dus).length=ps.length:=by rw [←F.len _ _ _ _ h,aaC,aaC,r.length,hd.length]
 have hb':=hb s us I.kIn hl;refine adI (acI (F.run X.A X.stack s H ⟨us,[]⟩ (us++dus) (vs++dvs) Q E hr I.env0 hb' (r.append hd) h) fun r s' hq=>?_)
 cases r with
 |error e=>exact hx e s' hq
 |ok fl=>
  cases fl with
  |ret u=>exact I.after hq
  |next=>exact abj hq
  |brk=>exact abj hq
  |cont=>exact abj hq
def AvMX.callG {l:Lv} (hl: ∀ {H:Hp} {v:V},(fr=true->NewTop H v)->l.T H v) (A:AvMX X.prog X.w X.K X.mg X.base k c m ps dfs fr F) (hr:Room k X.A) (ho:DE X .s o fo) (ha:DA X .s (e::es) g) (hA: ∀ {G:Ue} {env:Sl} {σ:L2.St} {c:Addr},Sf G env σ c->l.A G env σ c:=by exact fun z=>z) (hn:ps.length=n:=by rfl)
   (hst:T9 X e es:=by exact jk rfl) (hpl:T8 X pos es:=by exact jz rfl)
   (ht:eval (.Call (.Attribute o m apos) (e::es) [] pos) X.env=(do
     let ov←eval o X.env
     ae5 apos.atName
     let (f,first)←adW [ov] (getMethod ov m pl)
     callWith pos f first (abo pos (aai (e::es) X.env)) (acs pos (abt [] X.env))):=by rfl):DEX X l (.Call (.Attribute o m apos) (e::es) [] pos) (wb c m n dfs F fo g):=by
 subst hn;obtain ⟨C,f,fd,dvs,dus,h1,h2,h3,h4,h5,h6,h7⟩:=A.ex
 with_unfolding_all exact (by
 rintro pins s σ H Q I ⟨GG,H0,env,kk,q⟩
 have ns:wb c m ps.length dfs F fo g env≠ .stuck:=by
   intro z;rcases q with ⟨o,ef,_⟩| ⟨c,ef,_⟩<;>(rw [z] at ef;cases ef)
 obtain ⟨nms,vs,ds,e1,e2,e3,e4,e5⟩:=Xu ns;rw [e5] at q;refine adO (thn ((show PE X o (tE X.K .s fo) from ho) pins s σ H (fun v H1=>Same H H1/\Rep X.K (Sf GG env σ) H1 v (.obj c nms vs)) I ⟨GG,H0,env,_,kk,e1,fun v H' s' r' _=>⟨s',r'⟩⟩) fun u s1 ⟨x,H1,I1,rx,sm1,r1⟩=>?_) ht;obtain ⟨a,C',dx,fs,rfl,hx,_,hc,hn,rs⟩:=r1.objE;rw [h2] at hc;cases hc;obtain rfl:u=aau a:=rx;refine J5 I1 hx h3 h4 (Jz (by rw [hn];exact e2)) ?_;refine acO I.ok.mod.kin h4.kp (thn ((show PA X (e::es) (tA X.K .s g) from ha) pos pins s1 σ H1 (fun vs H2=>Same H1 H2/\Reps X.K (Sf GG env σ) H2 vs ds) I1 ⟨GG,H0,env,ds,kk.grow sm1,e3,fun vs H' s' r'=>⟨s',r'⟩⟩) fun us s2 ⟨ws,H2,I2,r,sm2,rws⟩=>⟨I2.kIn,?_⟩) hst hpl;have rall:Reps X.K (Sf GG env σ) H2 (.ref a::(ws++dvs)) (.obj c nms vs::(ds++dfs)):= .cons (r1.grow sm2) (rws.append (h7 _ _));have hlen:(V.ref a::(ws++dvs)).length=ps.length:=by rw [rall.length,aaL,aaC];omega
 rcases q with ⟨d,ef,q⟩| ⟨c',ef,th⟩
 · refine kh (vs:= .ref a::ws) (E:=fun _ _ _=>False) h1 hr h5 h6 I2 (.cons rfl r) ⟨_,_,hlen,rall,.inl ⟨d,ef,fun v H3 s3 r3 nt=>?_⟩⟩ fun e s' cx=>?_
   · exact q v H3 (sm1.trans (sm2.trans s3)) (r3.weak fun c z=>hA (z.elim (fun z=>kk.new c (Same.free sm1 (Same.free sm2 z))) fun z=>z)) (hl fun z=>((nt z).grow sm2).grow sm1)
   · obtain ⟨_,_,_,_,_,_,_,_,_,_,_,_,_,z⟩:=cx;exact z.elim
 · refine kh (vs:= .ref a::ws) (E:=XE X.K c' H2) h1 hr h5 h6 I2 (.cons rfl r) ⟨_,_,hlen,rall,.inr ⟨c',ef,fun C H' hC s'=>⟨C,rfl,hC,s'⟩⟩⟩ fun e s' cx=>?_
   exact th pins H2 s2 e s' (sm1.trans sm2) I2 cx)
end
def DmX (K:aab) (C:Addr) (m q:Str) (st:Stmt) (ps:List Str) (dfs:List D):Prop:= ∃(f:Addr) (oc:Value) (od an:Option Addr) (osl:Array (Option Value)) (dV kV doc pm cdv ct:Value) (dvs:List V) (dus:List Value),
 K.lookup f=some ⟨oc,od,.func (abh m q (qw st) (jI st) (jh st) dV kV doc pm an cdv ct),osl⟩/\acp K cdv q=true/\Meth K C m f/\Binds K (abh m q (qw st) (jI st) (jh st) dV kV doc pm an cdv ct) ps dus/\Vals dvs dus/\ ∀A H,Reps K A H dvs dfs
def Dm.x {K:aab} {m:Str} {st:Stmt} (d:Dm K C m q st ps):DmX K C m q st ps []:=by
 obtain ⟨f,fd,F,me,B⟩:=d;obtain ⟨oc,od,kV,doc,pm,an,cdv,ct,osl,rfl,lk,hcd⟩:=F.ex;exact ⟨f,oc,od,an,osl,_,kV,doc,pm,cdv,ct,[],[],lk,hcd,me,B,.nil,fun _ _=> .nil⟩
section
variable {P:aay} {w:World} {K:aab} {mg:Yx} {base:Heap}
def jai {m:Str} {st:Stmt} {k:Nat} (fr:Bool) {g:TH} (d:DmX K C m q st ps dfs) (hC:aan K aam c=some (some (.ref C))/\Cls K C) (S:FnScope N ps (jh st))
   (hb: ∀(f:Addr) (cdv:Value) (A:aaV) (outer:List Env) (s:aaf) (H:Hp) (E:XK),Room k (A.deeper (ac4 q (jh st) s.heap.objs.size f cdv))->DSsX (cxOf (CX1 P w) P w K mg base N q (jh st) f cdv A outer s H E) (jI st) g):
   AvMX P w K mg base (k+1) c m ps dfs fr (runX fr N.length g):=by
 obtain ⟨f,oc,od,an,osl,dV,kV,doc,pm,cdv,ct,dvs,dus,lk,hcd,me,B,r1,r2⟩:=d;refine ⟨C,f,_,dvs,dus,?_,hC.1,hC.2,me,B,r1,r2⟩
 with_unfolding_all exact (by
 refine jbn lk hcd S (fun vs H Q E ⟨B,ds,hl,_⟩=>hl) fun A outer s H vs Q E hr h=>?_
 obtain ⟨B,ds,hl,r,q⟩:=h;refine ⟨_,hb f cdv A outer s H E hr,?_⟩;have kk:=JJ (N:=N) r;rcases q with ⟨d,e,q⟩| ⟨c,e,q⟩
 · rcases JW e with ⟨fr',z,hf⟩| ⟨rfl,env',z⟩
   · exact ⟨_,H,_,kk,.inl ⟨_,z,fun v H' s r nt=>q v H' s r fun hh=>nt (hf hh)⟩⟩
   · exact ⟨_,H,_,kk,.inl ⟨_,z,fun σ' H' k' f'=>q .non H' k'.base .non fun _ a e=>by cases e⟩⟩
 · refine ⟨_,H,_,kk,.inr ⟨c,Z3 e,fun pins σ H1 s1 h e C vs sm hC I hx=>J2 I hx (q C H1 hC sm),fun σ H1 sm pins H2 s1 e s' sm2 I cx=>Wy I cx fun C H' z=>?_⟩⟩;obtain ⟨C',e',hC,s3⟩:=z;cases e'
   exact q C H' hC (sm.trans (sm2.trans s3)))
end
abbrev BdK (K:aab) (fd:abJ) (ps:List Str) (kw:Str):Prop:= ∀(s:aaf) (us:List Value) (w:Value),K.In s.heap->us.length+1=ps.length->BindsTo s fd ⟨us,[(kw,w)]⟩ (ps.zip (us++[w]))
structure AvMK (P:aay) (w:World) (K:aab) (mg:Yx) (base:Heap) (k:Nat) (c m:Str) (ps:List Str) (kw:Str) (fr:Bool) (F:TD):Prop where
 ex: ∃C f fd,FnOk P w K mg base (CX1 P w) k f fd ps (spX K fr ps.length F)/\aan K aam c=some (some (.ref C))/\Cls K C/\Meth K C m f/\BdK K fd ps kw
def AvMK.mono {K:aab} {k:Nat} {m:Str} {kw:Str} {F:TD} (h:AvMK P w K mg base j c m ps kw fr F) (hj:j<=k):AvMK P w K mg base k c m ps kw fr F:=
 let ⟨C,f,fd,a,b⟩:=h.ex
 ⟨C,f,fd,a.mono hj,b⟩
def DmK (K:aab) (C:Addr) (m q:Str) (st:Stmt) (ps:List Str) (kw:Str):Prop:= ∃(f:Addr) (oc:Value) (od an:Option Addr) (osl:Array (Option Value)) (dV kV doc pm cdv ct:Value),
 K.lookup f=some ⟨oc,od,.func (abh m q (qw st) (jI st) (jh st) dV kV doc pm an cdv ct),osl⟩/\acp K cdv q=true/\Meth K C m f/\BdK K (abh m q (qw st) (jI st) (jh st) dV kV doc pm an cdv ct) ps kw
section
variable {P:aay} {w:World} {K:aab} {mg:Yx} {base:Heap}
def jeE {m:Str} {st:Stmt} {kw:Str} {k:Nat} (fr:Bool) {g:TH} (d:DmK K C m q st ps kw) (hC:aan K aam c=some (some (.ref C))/\Cls K C) (S:FnScope N ps (jh st))
   (hb: ∀(f:Addr) (cdv:Value) (A:aaV) (outer:List Env) (s:aaf) (H:Hp) (E:XK),Room k (A.deeper (ac4 q (jh st) s.heap.objs.size f cdv))->DSsX (cxOf (CX1 P w) P w K mg base N q (jh st) f cdv A outer s H E) (jI st) g):
   AvMK P w K mg base (k+1) c m ps kw fr (runX fr N.length g):=by
 obtain ⟨f,oc,od,an,osl,dV,kV,doc,pm,cdv,ct,lk,hcd,me,B⟩:=d;refine ⟨C,f,_,?_,hC.1,hC.2,me,B⟩
 with_unfolding_all exact (by
 refine jbn lk hcd S (fun vs H Q E ⟨B,ds,hl,_⟩=>hl) fun A outer s H vs Q E hr h=>?_
 obtain ⟨B,ds,hl,r,q⟩:=h;refine ⟨_,hb f cdv A outer s H E hr,?_⟩;have kk:=JJ (N:=N) r;rcases q with ⟨d,e,q⟩| ⟨c,e,q⟩
 · rcases JW e with ⟨fr',z,hf⟩| ⟨rfl,env',z⟩
   · exact ⟨_,H,_,kk,.inl ⟨_,z,fun v H' s r nt=>q v H' s r fun hh=>nt (hf hh)⟩⟩
   · exact ⟨_,H,_,kk,.inl ⟨_,z,fun σ' H' k' f'=>q .non H' k'.base .non fun _ a e=>by cases e⟩⟩
 · refine ⟨_,H,_,kk,.inr ⟨c,Z3 e,fun pins σ H1 s1 h e C vs sm hC I hx=>J2 I hx (q C H1 hC sm),fun σ H1 sm pins H2 s1 e s' sm2 I cx=>Wy I cx fun C H' z=>?_⟩⟩;obtain ⟨C',e',hC,s3⟩:=z;cases e'
   exact q C H' hC (sm.trans (sm2.trans s3)))
end
abbrev FJ:=Sl->Res (D×Sl)
end M
namespace M
open PySem
namespace Tab
open SetTable (Probe runEnd leap bits)
def adv (m:Nat) (p:Probe):Probe:=
 if p.more>0 then {p with j:=p.j+1,more:=p.more-1} else
 {p with j:=(leap m p.i p.perturb).1,more:=runEnd m (leap m p.i p.perturb).1-(leap m p.i p.perturb).1,i:=(leap m p.i p.perturb).1,perturb:=(leap m p.i p.perturb).2}
def beg (m:Nat) (i q:Nat):Probe:={j:=i,more:=runEnd m i-i,i:=i,perturb:=q,dummy:=none}
def pth (m:Nat) (h:Int):Nat->Probe
 |0=>beg m (bits h%(m+1)) (bits h)
 |n+1=>adv m (pth m h n)
def at' (m:Nat) (h:Int) (n:Nat):Nat:=(pth m h n).j
def lp (m:Nat) (h:Int):Nat->Nat×Nat
 |0=>(bits h%(m+1),bits h)
 |c+1=>leap m (lp m h c).1 (lp m h c).2
def off (m:Nat) (h:Int):Nat->Nat
 |0=>0
 |c+1=>off m h c+(runEnd m (lp m h c).1-(lp m h c).1)+1
theorem YD {h:Int} {q:Nat} (e:pth m h n=beg m i q): ∀k,k<=runEnd m i-i->pth m h (n+k)={j:=i+k,more:=runEnd m i-i-k,i:=i,perturb:=q,dummy:=none}
 |0,_=>by rw [adT,e];rfl
 |k+1,hk=>by
  have:=YD e k (by omega);rw [←Nat.add_assoc];show adv m (pth m h (n+k))=_;rw [this];unfold adv;rw [if_pos (show runEnd m i-i-k>0 by omega)];simp;omega
theorem ky (m:Nat) (h:Int): ∀c,pth m h (off m h c)=beg m (lp m h c).1 (lp m h c).2
 |0=>rfl
 |c+1=>by
  have e:=YD (ky m h c) _ (aag _);show adv m (pth m h (off m h c+(runEnd m (lp m h c).1-(lp m h c).1)))=_;rw [e];unfold adv;rw [if_neg (by simp)];rfl
def Yj {m:Nat} {h:Int} {c k:Nat} (hk:k<=runEnd m (lp m h c).1-(lp m h c).1):at' m h (off m h c+k)=(lp m h c).1+k:=by
 unfold at';rw [YD (ky m h c) k hk]
def jfe (m i:Nat):runEnd m i-i<=9:=by unfold runEnd;split<;>omega
theorem jcj (m:Nat) (h:Int): ∀c,off m h c<=10*c
 |0=>aag _
 |c+1=>by
  have:=jcj m h c;have:=jfe m (lp m h c).1;show off m h c+(runEnd m (lp m h c).1-(lp m h c).1)+1<=_;omega
theorem jfT (m:Nat) (h:Int): ∀c,(lp m h c).1<=m
 |0=>aeQ (Nat.mod_lt _ (afc _))
 |c+1=>aeQ (Nat.mod_lt _ (afc _))
def jeD (h:Int):bits h<2^64:=by
 unfold bits;have h1:(0:Int)<=h%(2^64:Int):=aeo _ (by decide);have h2:h%(2^64:Int)< (2^64:Int):=adC _ (by decide);omega
theorem Zz (m:Nat) (h:Int): ∀c,(lp m h c).2=bits h/32^c
 |0=>by simp [lp]
 |c+1=>by
  show (lp m h c).2/32=_;rw [Zz m h c,Nat.div_div_eq_div_mul,Nat.pow_succ]
def jdP (m:Nat) (h:Int) {c:Nat} (hc:13<=c):(lp m h c).2=0:=by
 rw [Zz];refine Nat.div_eq_of_lt (aas (jeD h) ?_);exact aaw (by decide:2^64<=32^13) (Nat.pow_le_pow_right (by decide) hc)
def fv (m:Nat):Nat->Nat->Nat
 |0,i=>i
 |d+1,i=>(fv m d i*5+1)%(m+1)
theorem jfU (m:Nat) (h:Int): ∀d,(lp m h (13+d)).1=fv m d (lp m h 13).1
 |0=>rfl
 |d+1=>by
  show (leap m (lp m h (13+d)).1 (lp m h (13+d)).2).1=_;rw [jdP m h (by omega)];rw [jfU m h d];rfl
def Cyc (m:Nat):Prop:= ∀i j,i<=m->j<=m-> ∃d,d<=m/\fv m d i=j
theorem Vi (m:Nat) (a i:Nat): ∀b,fv m (a+b) i=fv m b (fv m a i)
 |0=>rfl
 |b+1=>by show (fv m (a+b) i*5+1)%(m+1)=_;rw [Vi m a i b];rfl
def jgq (h0:fv m (m+1) 0=0) (h: ∀j,j<=m-> ∃d,d<=m/\fv m d 0=j):Cyc m:=fun i j hi hj=>by
 obtain ⟨a,ha,ea⟩:=h i hi;obtain ⟨b,hb,eb⟩:=h j hj
 by_cases hab:a<=b
 · exact ⟨b-a,by omega,by rw [←ea,←Vi,show a+(b-a)=b by omega,eb]⟩
 · refine ⟨m+1-a+b,by omega,?_⟩;rw [←ea,←Vi,show a+(m+1-a+b)=m+1+b by omega,Vi,h0,eb]
def orb (m:Nat):Nat->Nat->List Nat
 |0,_=>[]
 |n+1,i=>i::orb m n ((i*5+1)%(m+1))
theorem jcx (m:Nat) (i:Nat): ∀d,fv m (d+1) i=fv m d ((i*5+1)%(m+1))
 |0=>rfl
 |d+1=>by show (fv m (d+1) i*5+1)%(m+1)=_;rw [jcx m i d];rfl
theorem kQ (m:Nat): ∀n i j,j∈orb m n i-> ∃d,d<n/\fv m d i=j
 |0,_,_,h=>by cases h
 |n+1,i,j,h=>by
  rcases aaG.mp h with rfl|h
  · exact ⟨0,afc _,rfl⟩
  · obtain ⟨d,h1,h2⟩:=kQ m n _ j h;exact ⟨d+1,by omega,by rw [jcx];exact h2⟩
def Kf (h0:fv m (m+1) 0=0) (h:(aa5 (m+1)).all (fun j=>(orb m (m+1) 0).contains j)=true):Cyc m:=
 jgq h0 fun j hj=>by
  have h1:=abw.mp h j (aaM.mpr (by omega));obtain ⟨d,h2,h3⟩:=kQ m _ _ _ (List.contains_iff_mem.mp h1);exact ⟨d,by omega,h3⟩
def cyc7:Cyc 7:=Kf (by decide+kernel) (by decide+kernel)
def jhl:Cyc 31:=Kf (by decide+kernel) (by decide+kernel)
def jgr:Cyc 127:=Kf (by decide+kernel) (by decide+kernel)
def ZB (C:Cyc m) (h:Int) (hj:j<=m): ∃c,c<=m+13/\(lp m h c).1=j:=by
 obtain ⟨d,h1,h2⟩:=C _ j (jfT m h 13) hj;exact ⟨13+d,by omega,by rw [jfU,h2]⟩
def Uf (C:Cyc m) (h:Int) (hj:j<=m): ∃n,n<=10*(m+13)/\at' m h n=j:=by
 obtain ⟨c,h1,h2⟩:=ZB C h hj;refine ⟨off m h c,aaw (jcj m h c) (by omega),?_⟩;have:=Yj (m:=m) (h:=h) (c:=c) (abe _);rw [adT] at this;rw [this,h2,adT]
def jeH {m:Nat} (h:Int) (n:Nat):at' m h n<=m:=by
 suffices hs: ∀n,(pth m h n).j+(pth m h n).more<=m by exact aaw (abO _ _) (hs n)
 have hb: ∀i q,i<=m->(beg m i q).j+(beg m i q).more<=m:=fun i q hi=>by
  show i+(runEnd m i-i)<=m;unfold runEnd;split<;>omega
 intro n
 induction n with
 |zero=>exact hb _ _ (jfT m h 0)
 |succ n ih=>
  show (adv m (pth m h n)).j+(adv m (pth m h n)).more<=m;unfold adv
  split
  · show (pth m h n).j+1+((pth m h n).more-1)<=m;omega
  · exact hb _ 0 (aeQ (Nat.mod_lt _ (afc _)))
def ZK (C:Cyc m) (h:Int) (occ:Nat->Prop) [DecidablePred occ] (hj:j<=m) (hf: ¬occ j): ∃n,n<=10*(m+13)/\ ¬occ (at' m h n)/\ ∀k,k<n->occ (at' m h k):=by
 obtain ⟨n,h1,h2⟩:=Uf C h hj
 suffices hs: ∀N,¬occ (at' m h N)-> ∃n,n<=N/\ ¬occ (at' m h n)/\ ∀k,k<n->occ (at' m h k) by
  obtain ⟨n',a,b⟩:=hs n (by rw [h2];exact hf);exact ⟨n',by omega,b⟩
 intro N
 induction N using Nat.strongRecOn with
 |ind N ih=>
  intro hN
  by_cases hk: ∀k,k<N->occ (at' m h k)
  · exact ⟨N,aag _,hN,hk⟩
  · simp at hk;obtain ⟨k,hkN,hk⟩:=hk;obtain ⟨n',a,b⟩:=ih k hkN hk;exact ⟨n',by omega,b⟩
end Tab
end M
namespace M
open PySem
namespace Tab
open SetTable (Probe runEnd leap bits below insertAt)
theorem WT (xs:Array Nat) (j:Nat) (up:xs.toList.Pairwise (· < ·)): ∀(fuel lo hi:Nat),hi-lo<=fuel->lo<=hi->hi<=xs.size->(∀k v,k<lo->xs[k]?=some v->v<j)->(∀k v,hi<=k->xs[k]?=some v->j<=v)->
  (∀k v,k<below.go xs j fuel lo hi->xs[k]?=some v->v<j)/\(∀k v,below.go xs j fuel lo hi<=k->xs[k]?=some v->j<=v)/\below.go xs j fuel lo hi<=xs.size
 |0,lo,hi,h1,h2,h3,h4,h5=>by
  obtain rfl:lo=hi:=by omega
  exact ⟨h4,h5,h3⟩
 |fuel+1,lo,hi,h1,h2,h3,h4,h5=>by
  unfold below.go
  by_cases hl:lo<hi
  · rw [if_pos hl];have hm:(lo+hi)/2<xs.size:=by omega
    have hg:xs.getD ((lo+hi)/2) j=xs[(lo+hi)/2]:=by rw [abM,aaA hm];rfl
    have mono: ∀a b va vb,a<b->xs[a]?=some va->xs[b]?=some vb->va<vb:=fun a b va vb hab ha hb=>by
      rw [←aax] at ha hb;obtain ⟨ha1,ha2⟩:=aav.mp ha;obtain ⟨hb1,hb2⟩:=aav.mp hb;rw [←ha2,←hb2];exact abY.mp up a b ha1 hb1 hab
    dsimp only;rw [hg]
    by_cases hc:xs[(lo+hi)/2]<j
    · rw [if_pos hc];refine WT xs j up fuel _ hi (by omega) (by omega) h3 (fun k v hk e=>?_) h5
      by_cases hk2:k=(lo+hi)/2
      · subst hk2;rw [aaA hm] at e;cases e;exact hc
      · exact ae8 (mono k _ v _ (by omega) e (aaA hm)) hc
    · rw [if_neg hc];refine WT xs j up fuel lo _ (by omega) (by omega) (by omega) h4 (fun k v hk e=>?_)
      by_cases hk2:k=(lo+hi)/2
      · subst hk2;rw [aaA hm] at e;cases e;omega
      · have:=mono _ k _ v (by omega) (aaA hm) e;omega
  · rw [if_neg hl];obtain rfl:lo=hi:=by omega
    exact ⟨h4,h5,h3⟩
def ZQ {xs:Array Nat} (up:xs.toList.Pairwise (· < ·)) (j:Nat):(∀k v,k<below xs j->xs[k]?=some v->v<j)/\(∀k v,below xs j<=k->xs[k]?=some v->j<=v)/\below xs j<=xs.size:=
 WT xs j up xs.size 0 xs.size (by omega) (abe _) (aag _) (fun k v h _=>absurd h (aci _)) fun k v h e=>by
  rw [Array.getElem?_eq_none h] at e;cases e
def JO {xs:Array Nat} (up:xs.toList.Pairwise (· < ·)) (e:xs[i]?=some j):below xs j=i:=by
 obtain ⟨h1,h2,h3⟩:=ZQ up j
 have hi:below xs j<=i:=by
  refine acM fun h=>?_
  exact absurd (h1 i j h e) (abq _)
 have hi2:=(abQ.mp e).1;refine Nat.le_antisymm hi (acM fun h=>?_);have hb:below xs j<xs.size:=by omega
 have:=h2 _ _ (aag _) (aaA hb)
 have h4:xs[below xs j]<xs[i]:=by
  have:=abY.mp up (below xs j) i (by simpa using hb) (by simpa using hi2) h;simpa using this
 rw [aaA hi2] at e;cases e;omega
theorem UY {t:abZ} (up:t.place.toList.Pairwise (· < ·)) (dm:t.dummies= #[]) (j:Nat):t.slot j=match t.place[below t.place j]? with
  |some v=>if v=j then .live (below t.place j) else .empty
  |none=> .empty:=by
 unfold SetTable.slot;have hd:SetTable.has t.dummies j=false:=by rw [dm];rfl
 dsimp only;rw [hd]
 cases h:t.place[below t.place j]? with
 |none=>simp
 |some v=>simp
def Qy {t:abZ} (up:t.place.toList.Pairwise (· < ·)) (dm:t.dummies= #[]) (e:t.place[i]?=some j):t.slot j= .live i:=by
 rw [UY up dm,JO up e,e];simp
def VZ {t:abZ} (up:t.place.toList.Pairwise (· < ·)) (dm:t.dummies= #[]) (e:j∉t.place.toList):t.slot j= .empty:=by
 rw [UY up dm]
 split
 · rename_i v h;rw [if_neg];rintro rfl;rw [←aax] at h;exact e (aa2 h)
 · rfl
structure Tb (m:Nat) (t:abZ) (es:Array (Int×Value)):Prop where
 mask:t.mask=m
 dm:t.dummies= #[]
 sz:t.place.size=es.size
 up:t.place.toList.Pairwise (· < ·)
 le: ∀j∈t.place.toList,j<=m
 road: ∀(i j:Nat) (e:Int×Value),t.place[i]?=some j->es[i]?=some e-> ∃n,at' m e.1 n=j/\ ∀k,k<n->at' m e.1 k∈t.place.toList
def Tb.fresh (led:Bool):Tb 7 (.fresh 0 0 led) #[]:=⟨rfl,rfl,rfl,.nil,(fun _ h=>by cases h),(fun i j e h=>by simp [SetTable.fresh] at h)⟩
section
variable {m:Nat} {t:abZ} {es:Array (Int×Value)}
def Tb.el (T:Tb m t es) (h:t.place[i]?=some j): ∃e,es[i]?=some e:=by
 have:=(abQ.mp h).1;exact ⟨_,aaA (by rw [←T.sz];exact this)⟩
def Tb.met (T:Tb m t es) {e:Int×Value} (he:es[i]?=some e) {N:Nat} (hN:at' m e.1 N∉t.place.toList): ∃n j,n<N/\at' m e.1 n=j/\t.place[i]?=some j:=by
 have hi:=(abQ.mp he).1;have hj:t.place[i]?=some (t.place[i]'(by rw [T.sz];exact hi)):=aaA _;obtain ⟨n,h1,h2⟩:=T.road i _ e hj he;refine ⟨n,_,Nat.lt_of_le_of_ne (acM fun h=>hN (h2 N h)) ?_,h1,hj⟩;rintro rfl;rw [h1] at hN;exact hN (by rw [←aax] at hj;exact aa2 hj)
def Qe (xs:Array α) {p:Nat} (x:α) (hp:p<=xs.size) (i:Nat):(insertAt xs p x)[i]?=if i<p then xs[i]? else if i=p then some x else xs[i-1]?:=by
 rw [←aax,ado];rw [show xs[i]?=xs.toList[i]? from aax.symm,show xs[i-1]?=xs.toList[i-1]? from aax.symm];have hl:(xs.toList.take p).length=p:=by simp;omega
 by_cases h1:i<p
 · rw [if_pos h1,aaz (by omega),adk h1]
 · rw [if_neg h1,aaq (by omega),hl]
   by_cases h2:i=p
   · subst h2;simp
   · rw [if_neg h2,show i-p=(i-p-1)+1 by omega,aaW,aey,show p+(i-p-1)=i-1 by omega]
def Tb.put (T:Tb m t es) {h:Int} {x:Value} {N:Nat} (hj:at' m h N=j) (hf:j∉t.place.toList) (ho: ∀k,k<N->at' m h k∈t.place.toList):Tb m (t.put j).1 (insertAt es (t.put j).2 (h,x)):=by
 obtain ⟨b1,b2,b3⟩:=ZQ T.up j
 have hmem: ∀k,k∈(insertAt t.place (below t.place j) j).toList↔k=j\/k∈t.place.toList:=fun k=>by
   rw [ado];have:t.place.toList=t.place.toList.take (below t.place j)++t.place.toList.drop (below t.place j):=(List.take_append_drop _ _).symm
   constructor
   · intro z;rcases aa1.mp z with z|z
     · exact .inr (ad4 z)
     · rcases aaG.mp z with z|z
       · exact .inl z
       · exact .inr (ad5 z)
   · rintro (rfl|z)
     · exact aaU _ aap
     · rw [this] at z;rcases aa1.mp z with z|z
       · exact abi _ z
       · exact aaU _ (aal _ z)
 have hd:(t.put j).1.dummies= #[]:=by
   show (if SetTable.has t.dummies j then _ else t.dummies)= #[];rw [T.dm];rfl
 refine ⟨T.mask,hd,?_,?_,?_,?_⟩
 · show (insertAt t.place (below t.place j) j).size=(insertAt es (below t.place j) (h,x)).size;have:=T.sz;rw [←aaI,←aaI,(adF _ _ _).length_eq,(adF _ _ _).length_eq];simp [this]
 · show (insertAt t.place (below t.place j) j).toList.Pairwise (· < ·);rw [ado,List.pairwise_append,act];refine ⟨T.up.sublist (List.take_sublist _ _),⟨fun v hv=>?_,T.up.sublist (List.drop_sublist _ _)⟩,fun v hv w hw=>?_⟩
   · obtain ⟨q,hq⟩:=abv.mp hv;rw [aey,aax] at hq;have:=b2 _ _ (abO _ _) hq;refine Nat.lt_of_le_of_ne this ?_;rintro rfl;exact hf (by rw [←aax] at hq;exact aa2 hq)
   · have hvj:v<j:=by
       obtain ⟨q,hq⟩:=abv.mp hv;obtain ⟨q1,q2⟩:=aav.mp hq;have q3:q<below t.place j:=by simp at q1;omega
       rw [adk q3,aax] at hq;exact b1 q v q3 hq
     rcases aaG.mp hw with rfl|hw
     · exact hvj
     · obtain ⟨q,hq⟩:=abv.mp hw;rw [aey,aax] at hq;exact aas hvj (b2 _ _ (abO _ _) hq)
 · intro k hk;rcases (hmem k).mp hk with rfl|hk
   · rw [←hj];exact jeH h N
   · exact T.le k hk
 · intro i k e hk he;have hb4:below t.place j<=es.size:=by rw [←T.sz];exact b3
   rw [show (t.put j).1.place=insertAt t.place (below t.place j) j from rfl,Qe _ _ b3] at hk;rw [show (t.put j).2=below t.place j from rfl,Qe _ _ hb4] at he
   have old: ∀i',t.place[i']?=some k->es[i']?=some e-> ∃n,at' m e.1 n=k/\ ∀q,q<n->at' m e.1 q∈(t.put j).1.place.toList:=fun i' a b=>by
     obtain ⟨n,c,d⟩:=T.road i' k e a b;exact ⟨n,c,fun q hq=>(hmem _).mpr (.inr (d q hq))⟩
   by_cases h1:i<below t.place j
   · rw [if_pos h1] at hk he;exact old i hk he
   · rw [if_neg h1] at hk he
     by_cases h2:i=below t.place j
     · rw [if_pos h2] at hk he;cases hk;cases he;exact ⟨N,hj,fun q hq=>(hmem _).mpr (.inr (ho q hq))⟩
     · rw [if_neg h2] at hk he;exact old _ hk he
theorem jdJ: ∀ {l l':List Nat},l.Nodup->(∀x∈l,x∈l')->l.length<=l'.length
 | [],_,_,_=>abe _
 |a::l,l',nd,h=>by
  obtain ⟨n1,n2⟩:=acf.mp nd;have h1:=jdJ n2 fun x hx=>(List.mem_erase_of_ne (by rintro rfl;exact n1 hx)).mpr (h x (aal _ hx))
  have h2:=List.length_erase_of_mem (h a aap);have h3:=adE (h a aap);rw [aaL];omega
def Tb.free (T:Tb m t es) (hs:es.size<=m): ∃j,j<=m/\j∉t.place.toList:=by
 refine acx fun h=>?_
 have hall: ∀j,j∈aa5 (m+1)->j∈t.place.toList:=fun j hj=>acx fun z=>h ⟨j,by have:=aaM.mp hj;omega,z⟩
 have h1:=jdJ (adg) hall;rw [adM,aaI,T.sz] at h1;omega
end
end Tab
end M
namespace M
open PySem
namespace Tab
open SetTable (Probe runEnd leap bits below insertAt)
def j4 (ow:Array (Option Nat)) (j:Nat):Prop:=(ow.getD j (some 0)).isNone=false
instance (ow:Array (Option Nat)):DecidablePred (j4 ow):=fun j=>inferInstanceAs (Decidable (_=false))
def jff (m i:Nat):i<=runEnd m i:=by unfold runEnd;split<;>omega
def Wo (m:Nat) (h:Int) (c:Nat):off m h (c+1)=off m h c+(runEnd m (lp m h c).1-(lp m h c).1)+1:=rfl
def ja5 (m:Nat) (h:Int) {a b:Nat} (hab:a<b):off m h a<off m h b:=by
 induction b with
 |zero=>omega
 |succ b ih=>
  rw [Wo]
  by_cases e:a=b
  · subst e;omega
  · have:=ih (by omega);omega
theorem uh {h:Int} {N:Nat} (hN: ¬j4 ow (at' m h N)) (hb: ∀k,k<N->j4 ow (at' m h k)): ∀(fuel c:Nat),off m h c<=N->N<off m h (c+fuel)->
  ack m ow fuel (lp m h c).1 (lp m h c).2=some (at' m h N)
 |0,c,h1,h2=>by rw [adT] at h2;omega
 |fuel+1,c,h1,h2=>by
  have hr:=jff m (lp m h c).1;unfold ack
  by_cases hc:N<off m h (c+1)
  · rw [Wo] at hc
    have hat:at' m h N=(lp m h c).1+(N-off m h c):=by
     rw [←Yj (by omega)];congr 1;omega
    have hf:(aa5 (runEnd m (lp m h c).1+1-(lp m h c).1)).find? (fun k=>(ow.getD ((lp m h c).1+k) (some 0)).isNone)=some (N-off m h c):=by
     rw [List.find?_range_eq_some];refine ⟨?_,by rw [aaM];omega,fun k hk=>?_⟩
     · rw [←hat];unfold j4 at hN;simpa using hN
     · have h3:=hb (off m h c+k) (by omega);rw [Yj (by omega)] at h3;unfold j4 at h3;simpa using h3
    rw [hf,hat]
  · have hf:(aa5 (runEnd m (lp m h c).1+1-(lp m h c).1)).find? (fun k=>(ow.getD ((lp m h c).1+k) (some 0)).isNone)=none:=by
     rw [List.find?_eq_none];intro k hk;have hk:=aaM.mp hk;rw [Wo] at hc;have h3:=hb (off m h c+k) (by omega);rw [Yj (by omega)] at h3;unfold j4 at h3;rw [Bool.not_eq_true];exact h3
    rw [hf];exact uh hN hb fuel (c+1) (by omega) (by rw [show c+1+fuel=c+(fuel+1) by omega];exact h2)
def jd7 (C:Cyc m) (h:Int) (hj:j<=m) (hf: ¬j4 ow j): ∃N,ack m ow (ab0 m) (bits h%(m+1)) (bits h)=some (at' m h N)/\ ¬j4 ow (at' m h N)/\ ∀k,k<N->j4 ow (at' m h k):=by
 obtain ⟨c,h1,h2⟩:=ZB C h hj;obtain ⟨N,_,h3,h4⟩:=ZK C h (j4 ow) hj hf;refine ⟨N,?_,h3,h4⟩
 have hc:N<=off m h c:=by
  refine acM fun z=>?_
  have:=h4 _ z;have e:=Yj (m:=m) (h:=h) (c:=c) (abe _);rw [adT,adT,h2] at e;rw [e] at this;exact hf this
 have:=ja5 m h (show c<0+ab0 m by unfold ab0;omega);exact uh h3 h4 (ab0 m) 0 (abe _) (by omega)
structure Ow (m:Nat) (hs:List Int) (ow:Array (Option Nat)) (k:Nat):Prop where
 sz:ow.size=m+1
 own: ∀(j q:Nat),ow[j]?=some (some q)->q<k/\ ∃hq,hs[q]?=some hq/\ ∃n,at' m hq n=j/\ ∀r,r<n->j4 ow (at' m hq r)
 all: ∀q,q<k-> ∃j:Nat,ow[j]?=some (some q)
 one: ∀(j j' q:Nat),ow[j]?=some (some q)->ow[j']?=some (some q)->j=j'
def QG (hj:j<ow.size):j4 ow j↔ ∃q,ow[j]?=some (some q):=by
 unfold j4;rw [abM,aaA hj];cases h:ow[j]<;>simp [h]
def Ow.room {hs:List Int} {k:Nat} (O:Ow m hs ow k) (hk:k<=m): ∃j,j<=m/\ ¬j4 ow j:=by
 refine acx fun h=>?_
 have hall: ∀j,j<=m-> ∃q,ow[j]?=some (some q):=fun j hj=>by
   have:j4 ow j:=acx fun z=>h ⟨j,hj,z⟩
   exact (QG (by rw [O.sz];omega)).mp this
 have hL:=jdJ (l:=(aa5 (m+1)).map fun j=>((ow[j]?).getD none).getD 0) (l':=aa5 k) ?_ ?_
 · rw [aaj,adM,adM] at hL;omega
 · refine aby.mpr ((adg).imp_of_mem fun {a b} ha hb hab e=>?_);obtain ⟨qa,ea⟩:=hall a (by have:=aaM.mp ha;omega);obtain ⟨qb,eb⟩:=hall b (by have:=aaM.mp hb;omega);simp only [ea,eb,Option.getD_some] at e;subst e;exact hab (O.one a b qa ea eb)
 · intro x hx;obtain ⟨j,hj,rfl⟩:=aat.mp hx;obtain ⟨q,e⟩:=hall j (by have:=aaM.mp hj;omega);simp only [e,Option.getD_some];exact aaM.mpr (O.own j q e).1
def Ow.step {hs:List Int} {k N:Nat} {h:Int} (O:Ow m hs ow k) (hh:hs[k]?=some h) (hN: ¬j4 ow (at' m h N)) (hb: ∀r,r<N->j4 ow (at' m h r)):Ow m hs (ow.setIfInBounds (at' m h N) (some k)) (k+1):=by
 have hlt:at' m h N<ow.size:=by rw [O.sz];have:=jeH (m:=m) h N;omega
 have get: ∀j:Nat,(ow.setIfInBounds (at' m h N) (some k))[j]?=if at' m h N=j then some (some k) else ow[j]?:=fun j=>by
   rw [Array.getElem?_setIfInBounds]
   split
   · rename_i e;subst e;simp [hlt]
   · rfl
 have mono: ∀j,j4 ow j->j4 (ow.setIfInBounds (at' m h N) (some k)) j:=fun j hj=>by
   unfold j4 at hj ⊢;rw [abM] at hj ⊢;rw [get];split
   · rfl
   · exact hj
 refine ⟨by rw [Array.size_setIfInBounds];exact O.sz,fun j q e=>?_,fun q hq=>?_,fun j j' q e e'=>?_⟩
 · rw [get] at e
   split at e
   · rename_i z;cases e;exact ⟨adf _,h,hh,N,z,fun r hr=>mono _ (hb r hr)⟩
   · obtain ⟨a,hq,b,n,c,d⟩:=O.own j q e;exact ⟨by omega,hq,b,n,c,fun r hr=>mono _ (d r hr)⟩
 · by_cases z:q=k
   · subst z;exact ⟨_,by rw [get,if_pos rfl]⟩
   · obtain ⟨j,e⟩:=O.all q (by omega);refine ⟨j,?_⟩;rw [get,if_neg];exact e;intro ej;subst ej;exact hN ((QG hlt).mpr ⟨q,e⟩)
 · rw [get] at e e'
   split at e
   · rename_i z
     split at e'
     · rename_i z';rw [←z,←z']
     · cases e;have:=(O.own _ _ e').1;omega
   · split at e'
     · cases e';have:=(O.own _ _ e).1;omega
     · exact O.one j j' q e e'
theorem jcn (C:Cyc m) {hs:List Int} (hm:hs.length<=m): ∀(l done:List Int) (ow:Array (Option Nat)),done++l=hs->Ow m hs ow done.length->
  ∃ow',l.foldl (fun (acc:Option (Array (Option Nat)×Nat)) h=>do
   let (owner,k)←acc
   let j←ack m owner (ab0 m) (bits h%(m+1)) (bits h)
   pure (owner.setIfInBounds j (some k),k+1)) (some (ow,done.length))=some (ow',hs.length)/\Ow m hs ow' hs.length
 | [],done,ow,e,O=>by
  rw [abC] at e;subst e;exact ⟨ow,rfl,O⟩
 |h::l,done,ow,e,O=>by
  have hl:done.length<hs.length:=by rw [←e];simp
  obtain ⟨j,hj,hf⟩:=O.room (by omega);obtain ⟨N,h1,h2,h3⟩:=jd7 C h hj hf;have O':=O.step (by rw [←e];simp) h2 h3;obtain ⟨ow',a,b⟩:=jcn C hm l (done++[h]) _ (by rw [←e];simp) (by rw [aaC];exact O');refine ⟨ow',?_,b⟩;rw [←a,aef];congr 1;show (ack m ow (ab0 m) (bits h%(m+1)) (bits h)>>=fun j=>_)=_;rw [h1,aaC];rfl
def YV (C:Cyc m) {hs:Array Int} (hm:hs.size<=m): ∃ow,SetTable.layClean m hs=some ow/\Ow m hs.toList ow hs.size:=by
 have O0:Ow m hs.toList (Array.replicate (m+1) none) 0:=⟨by simp,fun j q e=>by rw [Array.getElem?_replicate] at e;split at e<;>simp at e,fun q h=>absurd h (aci _),fun j j' q e=>by rw [Array.getElem?_replicate] at e;split at e<;>simp at e⟩
 obtain ⟨ow,a,b⟩:=jcn C (by simpa using hm) hs.toList [] _ rfl O0;refine ⟨ow,?_,by simpa using b⟩;unfold SetTable.layClean;rw [←Array.foldl_toList];have a':=a;simp only [acA] at a';rw [a'];rfl
theorem JE {β:Type} {f:α->Option β} {g:α->β}: ∀ {l:List α},(∀x∈l,f x=some (g x))->l.filterMap f=l.map g
 | [],_=>rfl
 |x::l,h=>by rw [acJ,h x aap,aaB,JE fun y hy=>h y (aal _ hy)]
def kn {t:abZ} (T:Tb m t es) (hw:acP wanted-1=m') (C:Cyc m') (hm:es.size<=m'):
   ∃t' order,t.relaid (es.map (·.1)) wanted=some (t',order)/\Tb m' t' (order.filterMap (es[·]?))/\(order.filterMap (es[·]?)).toList.Perm es.toList:=by
 obtain ⟨ow,h1,O⟩:=YV C (hs:=es.map (·.1)) (by simpa using hm);rw [Array.size_map] at O;unfold SetTable.relaid SetTable.laid;rw [hw,h1];generalize hlv:(aa5 (m'+1)).filterMap (fun j=>(ow.getD j none).map (j, ·))=live
 have mem: ∀j q,(j,q)∈live↔ow[j]?=some (some q):=fun j q=>by
   rw [←hlv,adq]
   constructor
   · rintro ⟨a,ha,e⟩;rw [abR] at e;obtain ⟨b,e1,e2⟩:=e;cases e2;have ha:=aaM.mp ha;rw [abM,aaA (by rw [O.sz];exact ha)] at e1;rw [aaA (by rw [O.sz];exact ha)];simpa using e1
   · intro e;have hj:=(abQ.mp e).1;rw [O.sz] at hj;exact ⟨j,aaM.mpr hj,by rw [abM,e];rfl⟩
 have up:live.Pairwise (fun a b=>a.1<b.1):=by
   rw [←hlv];refine List.pairwise_filterMap.mpr ((List.pairwise_lt_range).imp fun {a b} hab x hx y hy=>?_);rw [abR] at hx hy;obtain ⟨_,_,rfl⟩:=hx;obtain ⟨_,_,rfl⟩:=hy;exact hab
 have hlt: ∀p∈live,p.2<es.size:=fun p hp=>(O.own p.1 p.2 ((mem _ _).mp hp)).1
 have hord:(live.map (·.2)).Perm (aa5 es.size):=by
   refine (List.perm_ext_iff_of_nodup ?_ adg).mpr fun q=>?_
   · refine aby.mpr (up.imp_of_mem fun {a b} ha hb hab e=>?_);have:=O.one a.1 b.1 a.2 ((mem _ _).mp ha) (by rw [e];exact (mem _ _).mp hb);omega
   · rw [aaM]
     constructor
     · intro h;obtain ⟨p,hp,rfl⟩:=aat.mp h;exact hlt p hp
     · intro h;obtain ⟨j,e⟩:=O.all q h;exact aat.mpr ⟨(j,q),(mem _ _).mpr e,rfl⟩
 have hes:((live.map (·.2)).toArray.filterMap (es[·]?)).toList=(live.map (·.2)).filterMap (es[·]?):=by simp
 have hperm:((live.map (·.2)).toArray.filterMap (es[·]?)).toList.Perm es.toList:=by
   rw [hes];have:=hord.filterMap (es[·]?)
   rwa [filterMap_getElem?_range] at this
 have hmap: ∃g:Nat->Int×Value,(∀q,q<es.size->es[q]?=some (g q))/\(live.map (·.2)).filterMap (es[·]?)=(live.map (·.2)).map g:=by
   refine ⟨fun q=>(es[q]?).getD (0,.none),fun q hq=>by show es[q]?=some ((es[q]?).getD (0,.none));rw [aaA hq];rfl,JE fun q hq=>?_⟩;obtain ⟨p,hp,rfl⟩:=aat.mp hq;show es[p.2]?=some ((es[p.2]?).getD (0,.none));rw [aaA (hlt p hp)];rfl
 obtain ⟨g,hg,hmap⟩:=hmap;refine ⟨{mask:=m',place:=(live.map (·.1)).toArray,dummies:= #[],finger:=t.finger,led:=t.led,moves:=t.movedTo m',plain:=t.plain},(live.map (·.2)).toArray,by rw [←hlv];rfl,⟨rfl,rfl,?_,?_,?_,?_⟩,hperm⟩
 · show (live.map (·.1)).toArray.size=_;rw [←aaI (xs:=Array.filterMap _ _),hes,hmap];simp
 · show ((live.map (·.1)).toArray).toList.Pairwise (· < ·);exact aby.mpr up
 · intro j hj;obtain ⟨p,hp,rfl⟩:=aat.mp (show j∈live.map (·.1) from hj);have:=(abQ.mp ((mem p.1 p.2).mp hp)).1;rw [O.sz] at this;omega
 · intro i j e hj he;have hj:(live.map (·.1))[i]?=some j:=by rw [←aax] at hj;exact hj
   rw [←aax,hes,hmap,abb,aaE] at he;rw [aaE] at hj
   cases hp:live[i]? with
   |none=>rw [hp] at hj;cases hj
   |some p=>
     rw [hp] at hj he;cases hj;cases he;have hp:=aa2 hp;obtain ⟨a,hq,b,n,c,d⟩:=O.own p.1 p.2 ((mem _ _).mp hp)
     have e1:hq=(g p.2).1:=by
       rw [aax,Array.getElem?_map,hg _ (hlt p hp)] at b;simpa using b.symm
     subst e1;refine ⟨n,c,fun k hk=>?_⟩;have h3:=d k hk;obtain ⟨q,h4⟩:=(QG (by rw [O.sz];have:=jeH (m:=m') (g p.2).1 k;omega)).mp h3;exact aat.mpr ⟨_,(mem _ _).mpr h4,rfl⟩
end Tab
end M
namespace M
open PySem
namespace Tab
open SetTable (Probe runEnd leap bits below insertAt)
theorem Xi (m:Nat) (h:Int): ∀n,(pth m h n).dummy=none
 |0=>rfl
 |n+1=>by
  show (adv m (pth m h n)).dummy=none;unfold adv;split<;>exact Xi m h n
def jgD (t:abZ) (p:Probe):t.advance p=adv t.mask p:=by unfold SetTable.advance adv;split<;>rfl
def jaz (t:abZ) (h:Int):t.probeStart h=pth t.mask h 0:=rfl
section
variable {m:Nat} {t:abZ} {es:Array (Int×Value)}
theorem KL (T:Tb m t es) {hashAt:Nat->Int} (hA: ∀(i:Nat) (e:Int×Value),es[i]?=some e->hashAt i=e.1) (h:Int) {N:Nat} (hN:at' m h N∉t.place.toList) (hb: ∀k,k<N->at' m h k∈t.place.toList):
  ∀(F n:Nat),N-n<F->n<=N->
    (abV t hashAt h F (pth m h n)=some (.empty (at' m h N) none)/\ ∀q (i:Nat) (e:Int×Value),n<=q->q<N->t.place[i]?=some (at' m h q)->es[i]?=some e->e.1≠h)\/
    (∃(q i:Nat) (e:Int×Value),n<=q/\q<N/\t.place[i]?=some (at' m h q)/\es[i]?=some e/\e.1=h/\abV t hashAt h F (pth m h n)=some (.candidate (at' m h q) i (pth m h (q+1)))/\ ∀r (i:Nat) (e:Int×Value),n<=r->r<q->t.place[i]?=some (at' m h r)->es[i]?=some e->e.1≠h)
 |0,n,h1,_=>absurd h1 (aci _)
 |F+1,n,h1,h2=>by
  by_cases hn:n=N
  · subst hn;refine .inl ⟨?_,fun q i e a b=>by omega⟩;unfold abV;rw [show (pth m h n).j=at' m h n from rfl,VZ T.up T.dm hN];rw [Xi]
  · obtain ⟨i,hi⟩:=abv.mp (hb n (by omega));rw [aax] at hi;obtain ⟨e,he⟩:=T.el hi
    have one: ∀(i':Nat) (e':Int×Value),t.place[i']?=some (at' m h n)->es[i']?=some e'->e'=e:=fun i' e' a b=>by
      have:=JO T.up hi;have h3:=JO T.up a;rw [this] at h3;subst h3;rw [he] at b;cases b;rfl
    have hgo:abV t hashAt h (F+1) (pth m h n)=if hashAt i==h then some (.candidate (at' m h n) i (pth m h (n+1))) else abV t hashAt h F (pth m h (n+1)):=by
      rw [abV];rw [show (pth m h n).j=at' m h n from rfl,Qy T.up T.dm hi];simp only [jgD,T.mask];rfl
    rw [hgo,hA i e he]
    by_cases hh:e.1=h
    · refine .inr ⟨n,i,e,aag _,by omega,hi,he,hh,by rw [hh];simp,fun r i e a b=>by omega⟩
    · rw [show (e.1==h)=false by simpa using hh];simp only [abd,if_false];rcases KL T hA h hN hb F (n+1) (by omega) (by omega) with ⟨a,b⟩| ⟨q,i',e',a,b,c,d,f,g,k⟩
      · refine .inl ⟨a,fun q i e' h3 h4 h5 h6=>?_⟩
        by_cases hq:q=n
        · subst hq;rw [one i e' h5 h6];exact hh
        · exact b q i e' (by omega) h4 h5 h6
      · refine .inr ⟨q,i',e',by omega,b,c,d,f,g,fun r i e' h3 h4 h5 h6=>?_⟩
        by_cases hq:r=n
        · subst hq;rw [one i e' h5 h6];exact hh
        · exact k r i e' (by omega) h4 h5 h6
end
section
variable {prog:aay} {w:World} {K:Type} [DecidableEq K] {knd:KeyKind prog w K} {A:aaV} {E:Ud} {s:aaf}
def WR (n:Nat) {v:Value} (h:ada v=true):ac1 n v=pure false:=by
 cases v with
 |ref a=>simp [ada] at h
 |_=>first|rfl|simp [ac1]| (unfold ac1;rfl)
def JN {ks:List K} (hk:abB knd s.heap ks a) (h:Q false s):wpAny (model prog w) A (ac1 8 (.ref a)) Q E s:=by
 have hT:=hk.typeIs;obtain ⟨o,items,n,ho,_,hd,hi⟩:=hk;unfold ac1;refine aaa (adP hT ?_);refine aaa (aae ?_);simp;refine aaa (abK ho hd ?_);dsimp only;refine aaa ?_;rw [←Array.forIn_toList];refine wpAny_forIn_list _ (fun rest r s'=>r.1=none/\s'=s/\ ∀v∈rest,ada v=true) _ ?_ ?_ _ _ ⟨rfl,rfl,hi.byValue⟩
 · rintro v rest r s' ⟨hr,rfl,hall⟩;rw [WR _ (hall v aap)];refine aaa (aae ?_);simp;exact aae ⟨rfl,rfl,fun u hu'=>hall u (aal _ hu')⟩
 · rintro ⟨r1,r2⟩ s' ⟨hr,rfl,_⟩;simp only at hr;subst hr;exact aae h
def YX (n:Nat) {v:Value} (h:ada v=true): ∃b,hashByValue n v=pure b:=by
 cases v with
 |ref a=>simp [ada] at h
 |_=>cases n<;>first|exact ⟨_,rfl⟩| (unfold hashByValue;exact ⟨_,rfl⟩)
def YY {ks:List K} (hk:abB knd s.heap ks a) (h: ∀b,Q b s):wpAny (model prog w) A (hashByValue 8 (.ref a)) Q E s:=by
 have hT:=hk.typeIs;obtain ⟨o,items,n,ho,_,hd,hi⟩:=hk;unfold hashByValue;refine aaa (wpAny_specialOf hT F.slot_tuple_hash.lookup ?_);refine aaa (abK ho hd ?_);refine aaa ?_;rw [←Array.forIn_toList];refine wpAny_forIn_list _ (fun rest r s'=>s'=s/\ ∀v∈rest,ada v=true) _ ?_ ?_ _ _ ⟨rfl,hi.byValue⟩
 · rintro v rest r s' ⟨rfl,hall⟩;obtain ⟨b,hb⟩:=YX 7 (hall v aap);rw [hb];refine aaa (aae ?_)
   cases b with
   |true=>
    simp;exact aae ⟨rfl,fun u hu'=>hall u (aal _ hu')⟩
   |false=>
    simp;exact aae (aae (h _))
 · rintro ⟨r1,r2⟩ s' ⟨rfl,_⟩
   cases r1 with
   |none=>exact aae (h _)
   |some b=>exact aae (h _)
def VS {ks:List K} (hk:abB knd s.heap ks a) (l:List Value) (hl: ∀y∈l,∃b k,y= .ref b/\abB knd s.heap k b) (h:Q false s):wpAny (model prog w) A (searchCouldBeSeen (.ref a) l) Q E s:=by
 unfold searchCouldBeSeen;refine aaa ?_;refine wpAny_forIn_list _ (fun rest r s'=>r.1=none/\s'=s/\ ∀y∈rest,∃b k,y= .ref b/\abB knd s.heap k b) _ ?_ ?_ _ _ ⟨rfl,rfl,hl⟩
 · rintro y rest r s' ⟨hr,rfl,hall⟩;obtain ⟨b,k,rfl,hb⟩:=hall y aap;have go: ∀u hu',_:=fun u (hu':u∈rest)=>hall u (aal _ hu')
   dsimp only
   split
   · exact aae ⟨rfl,rfl,go⟩
   · refine aaa (wpAny_eqIsQuiet_tuple hk ?_);simp only [acK,abd,if_false];refine aaa (wpAny_eqIsQuiet_tuple hb ?_);simp only [acK,abd,if_false];refine aaa (JN hk ?_);simp only [abd,if_false];refine aaa (JN hb ?_);simp only [abd,if_false];exact aae ⟨rfl,rfl,go⟩
 · rintro ⟨r1,r2⟩ s' ⟨hr,rfl,_⟩;simp only at hr;subst hr;exact aae h
end
end Tab
end M
namespace M
open PySem
namespace Tab
open SetTable (Probe runEnd leap bits below insertAt)
def Sz (m n:Nat):Prop:=(m=7/\n<=4)\/(m=31/\n<=18)\/(m=127/\n<=76)
def Sz.cyc (S:Sz m n):Cyc m:=by
 rcases S with ⟨rfl,_⟩| ⟨rfl,_⟩| ⟨rfl,_⟩
 · exact cyc7
 · exact jhl
 · exact jgr
def Sz.le (S:Sz m n):n<=m/\m<=127/\m%2=1/\n<=76:=by rcases S with ⟨rfl,h⟩| ⟨rfl,h⟩| ⟨rfl,h⟩<;>omega
def Tb.fits {t:abZ} (T:Tb m t es) (h:es.size<=m):t.fits es.size=true:=by
 unfold SetTable.fits SetTable.fill;rw [T.dm,T.sz,T.mask];simpa using h
section
variable {prog:aay} {w:World} {K:Type} [DecidableEq K] {knd:KeyKind prog w K} {A:aaV} {E:Ud} {s:aaf}
def U7 (hu:A.units<cLine) {t:abZ} {kp:List (List K×Addr)} (ho:s.heap.get? a=some o) (hd:o.data= .set es ep t) (T:Tb m t es) (S:Sz m es.size)
  (he:es.toList=kp.map fun p=>(aaQ knd p.1,aau p.2)) (hk: ∀p∈kp,abB knd s.heap p.1 p.2) {k0:List K} {xa:Addr} (hx:abB knd s.heap k0 xa) {Q:SetFound->aaf->Prop}
  (h1:k0∈kp.map (·.1)->Q (.there none) s) {N:Nat} (hN:at' m (aaQ knd k0) N∉t.place.toList) (hb: ∀k,k<N->at' m (aaQ knd k0) k∈t.place.toList) (hN2:N<=10*(m+13)) (h2:k0∉kp.map (·.1)->Q (.free (at' m (aaQ knd k0) N) false) s):
  ∀(F n:Nat) (stand:Option Probe),N-n<F->n<=N->stand.getD (t.probeStart (aaQ knd k0))=pth m (aaQ knd k0) n->
    (∀q (i:Nat) (p:List K×Addr),q<n->t.place[i]?=some (at' m (aaQ knd k0) q)->kp[i]?=some p->p.1≠k0)->
    wpAny (model prog w) A (setSearchFrom a (.ref xa) (aaQ knd k0) true F stand) Q E s:=by
 have hf:=T.fits S.le.1
 have get: ∀(i:Nat) (e:Int×Value),es[i]?=some e-> ∃p,kp[i]?=some p/\e=(aaQ knd p.1,aau p.2):=fun i e h=>by
  rw [←aax,he,aaE] at h
  cases hp:kp[i]? with
  |none=>rw [hp] at h;cases h
  |some p=>rw [hp] at h;cases h;exact ⟨p,rfl,rfl⟩
 intro F
 induction F with
 |zero=>intro n _ z;exact absurd z (aci _)
 |succ F ih=>
  intro n stand hF hn hst hseen;unfold setSearchFrom;refine aaa (acH ho hd hf ?_);dsimp only;have hgw:t.gaveWay=false:=by unfold SetTable.gaveWay;rw [T.mask];have:=S.le.2.2.1;simp [this]
  rw [hgw];simp;rw [hst];unfold SetTable.probe;generalize e0:abV t _ (aaQ knd k0) (10*ab0 t.mask) (pth m (aaQ knd k0) n)=R;have e0:abV t (fun i=>(es[i]?.map (·.1)).getD 0) (aaQ knd k0) (10*ab0 t.mask) (pth m (aaQ knd k0) n)=R:=e0;rcases KL T (hashAt:=fun i=>(es[i]?.map (·.1)).getD 0) (fun i e h=>by simp [h]) _ hN hb (10*ab0 t.mask) n (by rw [T.mask];unfold ab0;omega) hn with ⟨e1,e2⟩| ⟨q,i,e,a1,a2,a3,a4,a5,a6,a7⟩
  · rw [e0] at e1;subst e1;dsimp only;refine aae (h2 fun z=>?_);obtain ⟨p,hp,e3⟩:=aat.mp z;obtain ⟨i,hi⟩:=abv.mp hp;have hei:es[i]?=some (aaQ knd p.1,aau p.2):=by rw [←aax,he,aaE,hi];rfl
    subst e3;obtain ⟨n',j,b1,b2,b3⟩:=T.met hei hN;subst b2
    by_cases hq:n'<n
    · exact hseen n' i p hq b3 hi rfl
    · exact e2 n' i _ (by omega) b1 b3 hei rfl
  · rw [e0] at a6;subst a6;dsimp only;obtain ⟨p,hp,rfl⟩:=get i e a4;have hpk:=hk p (aa2 hp);have hmv:t.sameMemory t.moves t.mask=some true:=by unfold SetTable.sameMemory;simp
    have next:p.1≠k0-> ∀q' (i':Nat) (p':List K×Addr),q'<q+1->t.place[i']?=some (at' m (aaQ knd k0) q')->kp[i']?=some p'->p'.1≠k0:=fun hne q' i' p' g1 g2 g3=>by
      by_cases hq:q'<n
      · exact hseen q' i' p' hq g2 g3
      · by_cases hq2:q'=q
        · subst hq2;have:=JO T.up a3;have h4:=JO T.up g2;rw [this] at h4;subst h4;rw [hp] at g3;cases g3;exact hne
        · have hei:es[i']?=some (aaQ knd p'.1,aau p'.2):=by rw [←aax,he,aaE,g3];rfl
          rintro rfl;exact a7 q' i' _ (by omega) (by omega) g2 hei rfl
    split
    · refine aaa (VS hx _ (fun y hy=>?_) ?_)
      · obtain ⟨e',he',rfl⟩:=aat.mp hy;have he':e'∈es/\e'.1=aaQ knd k0:=by simpa using he'
        have:=Array.mem_toList_iff.mpr he'.1;obtain ⟨i',hi'⟩:=abv.mp this;rw [aax] at hi';obtain ⟨p',hp',rfl⟩:=get i' e' hi';exact ⟨_,_,rfl,hk p' (aa2 hp')⟩
      simp;rw [a4];dsimp only;refine aaa (aa4 (wpAny_eqBool_tuple hu hpk hx ?_));refine aaa (acH ho hd hf ?_)
      by_cases hkk:p.1=k0
      · rw [decide_eq_true hkk];simp;exact aae (h1 (aat.mpr ⟨p,aa2 hp,hkk⟩))
      · rw [decide_eq_false hkk];simp;rw [hmv];simp;rw [Qy T.up T.dm a3];dsimp only;rw [a4];dsimp only;refine aaa (wpAny_isSame_ref_self ?_);simp;exact ih (q+1) _ (by omega) (by omega) rfl (next hkk)
    · rw [a4];dsimp only;refine aaa (aa4 (wpAny_eqBool_tuple hu hpk hx ?_));refine aaa (acH ho hd hf ?_)
      by_cases hkk:p.1=k0
      · rw [decide_eq_true hkk];simp;exact aae (h1 (aat.mpr ⟨p,aa2 hp,hkk⟩))
      · rw [decide_eq_false hkk];simp;rw [hmv];simp;rw [Qy T.up T.dm a3];dsimp only;rw [a4];dsimp only;refine aaa (wpAny_isSame_ref_self ?_);simp;exact ih (q+1) _ (by omega) (by omega) rfl (next hkk)
end
end Tab
end M
namespace M
open PySem
namespace Tab
open SetTable (Probe runEnd leap bits below insertAt)
def Tb.led {t:abZ} (T:Tb m t es) (b:Bool):Tb m {t with plain:=b} es:=⟨T.mask,T.dm,T.sz,T.up,T.le,T.road⟩
def jaN {β:Type} {f:α->β} {l l':List β} (p:l.Perm l'): ∀k',l'=k'.map f-> ∃k:List α,l=k.map f/\k.Perm k':=by
 induction p with
 |nil=>intro k' e;exact ⟨k',e,.refl _⟩
 |cons x p ih=>
  intro k' e
  cases k' with
  |nil=>cases e
  |cons a k'=>
   simp at e;obtain ⟨k,h1,h2⟩:=ih k' e.2;exact ⟨a::k,by rw [h1,e.1];rfl,h2.cons a⟩
 |swap x y l=>
  intro k' e
  cases k' with
  |nil=>cases e
  |cons a k'=>
   cases k' with
   |nil=>cases e
   |cons b k'=>
    simp at e;obtain ⟨rfl,rfl,rfl⟩:=e;exact ⟨b::a::k',rfl,.swap a b k'⟩
 |trans p q ih1 ih2=>
  intro k' e;obtain ⟨k1,h1,h2⟩:=ih2 k' e;obtain ⟨k2,h3,h4⟩:=ih1 k1 h1;exact ⟨k2,h3,h4.trans h2⟩
section
variable {prog:aay} {w:World} {K:Type} [DecidableEq K] (knd:KeyKind prog w K)
def ent (p:List K×Addr):Int×Value:=(aaQ knd p.1,aau p.2)
def SetT (G:Ue) (h:Heap) (a:Addr) (ks:List (List K)):Prop:= ∃(o:Obj) (es:Array (Int×Value)) (ep:Nat) (t:abZ) (m:Nat) (kp:List (List K×Addr)),h.get? a=some o/\o.ExactSet/\o.data= .set es ep t/\Tb m t es/\Sz m es.size/\es.toList=kp.map (ent knd)/\(∀p∈kp,abB knd h p.1 p.2/\G p.2)/\(kp.map (·.1)).Perm ks/\ks.Nodup
variable {knd} {G:Ue} {A:aaV} {E:Ud} {s:aaf}
def XD {ks:List K} {d:Addr} {t:abZ} (x:abB knd h ks a) (ho:h.get? d=some o) (hd:o.data= .set es ep t) (hs:ab8 d h h'):abB knd h' ks a:=by
 obtain ⟨o',items,n,ho',hc,hd',hi⟩:=x
 have hne:a≠d:=by
  rintro rfl;obtain rfl:o'=o:=aaH (ho'.symm.trans ho);rw [hd] at hd';exact nomatch hd'
 exact ⟨o',items,n,(hs.2 a hne).trans ho',hc,hd',hi⟩
def Xc {t:abZ} (ho:h.get? a=some o) (hd:o.data= .set es ep t) (es':Array (Int×Value)) (t':abZ):
  (h.update a (aff es' t')).get? a=some {o with data:= .set es' (ep+1) t'}:=by
 have:=acU (aff es' t') ho (by rw [putSet_of es' t' hd];rfl);rw [putSet_of es' t' hd] at this;exact this
def jaF {t:abZ} (ho:s.heap.get? a=some o) (hd:o.data= .set es ep t) (T:Tb m t es) (hm:es.size<=m) (hw:acP wanted-1=m') (hz:acP wanted<=aak) (C:Cyc m') (hm':es.size<=m') (hl:es.size<=aak) {Q:Unit->aaf->Prop}
  (h: ∀es' t',Tb m' t' es'->es'.toList.Perm es.toList->Q () {s with heap:=s.heap.update a (aff es' t')}):wpAny (model prog w) A (setRelay a wanted) Q E s:=by
 obtain ⟨t',order,e1,T',pm⟩:=kn T hw C hm';have hsz:(order.filterMap (es[·]?)).size=es.size:=by rw [←aaI,pm.length_eq,aaI]
 unfold setRelay;refine aaa (acH ho hd (T.fits hm) ?_);dsimp only;rw [if_neg (Nat.not_lt.mpr hz)];rw [e1];refine aaa ?_;show wpAny _ _ (if (order.filterMap (es[·]?)).size !=es.size then _ else _) _ _ _;rw [hsz];simp;refine aae ?_;exact wpAny_storeSet_of ho hd (h _ _ T' pm) (by rw [hsz];exact hl)
def jeN (hu:A.units<cLine) {ks:List (List K)} (hS:SetT knd G s.heap a ks) {k0:List K} (hx:abB knd s.heap k0 xa) (hg:G xa) (hn:ks.length<76) {Q:Bool->aaf->Prop}
   (h: ∀h' b,ab8 a s.heap h'->SetT knd G h' a (if k0∈ks then ks else ks++[k0])->Q b {s with heap:=h'}):wpAny (model prog w) A (setAddHashed a (.ref xa) (aaQ knd k0)) Q E s:=by
 obtain ⟨o,es,ep,t,m,kp,ho,hex,hd,T,S,he,hk,pm,nd⟩:=hS;have hf:=T.fits S.le.1;have hlen:es.size=ks.length:=by rw [←aaI,he,aaj,←pm.length_eq,aaj]
 unfold setAddHashed setAddHashedIn;refine aa4 (aaa (acH ho hd hf ?_));dsimp only;have hbs:byScan (.ref xa) es=false:=rfl;rw [hbs];simp only [abd,if_false];obtain ⟨j0,hj0,hf0⟩:=T.free S.le.1;obtain ⟨N,hN2,hN,hb⟩:=ZK S.cyc (aaQ knd k0) (fun j=>j∈t.place.toList) hj0 hf0;unfold setSearch;refine aaa (U7 hu ho hd T S he (fun p hp=>(hk p hp).1) hx (fun hin=>?_) hN hb hN2 (fun hout=>?_) 100000 0 none (by have:=S.le;omega) (abe _) (by rw [aeY,jaz,T.mask]) (fun q i p hq=>absurd hq (aci _)))
 · dsimp only;have hmem:=pm.mem_iff.mp hin;have:=h s.heap false (Heap.SameBut.refl a s.heap) (by rw [if_pos hmem];exact ⟨o,es,ep,t,m,kp,ho,hex,hd,T,S,he,hk,pm,nd⟩);exact aae this
 · dsimp only;have hmem:k0∉ks:=fun z=>hout (pm.mem_iff.mpr z)
   refine aaa (acH ho hd hf ?_);dsimp only;have T1:=T.put (x:= .ref xa) rfl hN hb;generalize htp:t.put (at' m (aaQ knd k0) N)=tp at T1 ⊢;obtain ⟨t1,p1⟩:=tp;dsimp only at T1 ⊢;generalize hes1:insertAt es p1 (aaQ knd k0,aau xa)=es1 at T1 ⊢
   have hperm1:es1.toList.Perm (es.toList++[(aaQ knd k0,aau xa)]):=by
     rw [←hes1];have:=adF es p1 (aaQ knd k0,aau xa)
     rwa [Array.toList_push] at this
   have hsz1:es1.size=es.size+1:=by rw [←aaI,hperm1.length_eq,aaC,aaI];rfl
   have hle:es1.size<=m:=by
     have:=S.le;rcases S with ⟨rfl,h⟩| ⟨rfl,h⟩| ⟨rfl,h⟩<;>omega
   have hline:es1.size<=aak:=by rw [ab4];have:=S.le;omega
   have keys: ∀(es2:Array (Int×Value)),es2.toList.Perm (es.toList++[(aaQ knd k0,aau xa)])-> ∃kp2:List (List K×Addr),es2.toList=kp2.map (ent knd)/\kp2.Perm (kp++[(k0,xa)]):=fun es2 p2=>by
     rw [he,show [(aaQ knd k0,aau xa)]=[(k0,xa)].map (ent knd) from rfl,←aa3] at p2;exact jaN p2 _ rfl
   have fin: ∀(h':Heap) (es2:Array (Int×Value)) (t2:abZ) (m2 ep2:Nat),ab8 a s.heap h'->h'.get? a=some {o with data:= .set es2 ep2 t2}->Tb m2 t2 es2->Sz m2 es2.size->es2.toList.Perm (es.toList++[(aaQ knd k0,aau xa)])->Q true {s with heap:=h'}:=fun h' es2 t2 m2 ep2 sb g T2 S2 p2=>by
     obtain ⟨kp2,e2,q2⟩:=keys es2 p2;refine h h' true sb ?_;rw [if_neg hmem];refine ⟨_,es2,ep2,t2,m2,kp2,g,hex,rfl,T2,S2,e2,fun p hp=>?_,?_,?_⟩
     · rcases aa1.mp (q2.mem_iff.mp hp) with z|z
       · exact ⟨XD (hk p z).1 ho hd sb,(hk p z).2⟩
       · rw [aaJ] at z;subst z;exact ⟨XD hx ho hd sb,hg⟩
     · exact (q2.map _).trans (by rw [aa3];exact pm.append_right _)
     · exact abI.mpr ⟨nd,by simp,fun x hx' y hy e=>by rw [aaJ] at hy;subst hy;subst e;exact hmem hx'⟩
   have tail: ∀b:Bool,wpAny (model prog w) A (do
       storeSet a es1 {t1 with plain:=b}
       if (!false&&({t1 with plain:=b}:abZ).tooFull)=true then do
          setRelay a (aeG (es.size+1))
          pure true
         else pure true) Q E s:=fun b=>by
     refine aaa (wpAny_storeSet_of ho hd ?_ hline);have g1:=Xc ho hd es1 {t1 with plain:=b};have sb1:=ach s.heap a (aff es1 {t1 with plain:=b})
     by_cases hfull:({t1 with plain:=b}:abZ).tooFull=true
     · rw [hfull];simp
       have relay: ∀m',acP (aeG (es.size+1))-1=m'->acP (aeG (es.size+1))<=128->Sz m' es1.size->wpAny (model prog w) A (do
          setRelay a (aeG (es.size+1))
          pure true) Q E {s with heap:=s.heap.update a (aff es1 {t1 with plain:=b})}:=fun m' hw hz S'=>by
         refine aaa (jaF g1 rfl (T1.led b) hle hw (by rw [ab4];omega) S'.cyc S'.le.1 hline fun es2 t2 T2 p2=>?_);refine aae ?_;have hs2:es2.size=es1.size:=by rw [←aaI,p2.length_eq,aaI]
         exact fin _ es2 t2 m' _ (sb1.trans (ach _ a _)) (Xc g1 rfl es2 t2) T2 (by rw [hs2];exact S') (p2.trans hperm1)
       have hq:m*3<=(es.size+1)*5:=by
         unfold SetTable.tooFull SetTable.fill at hfull;have h1:=(T1.led b).dm;have h2:=(T1.led b).sz;have h3:=(T1.led b).mask;rw [h1,h2,h3,hsz1] at hfull;simpa using hfull
       rcases S with ⟨rfl,h4⟩| ⟨rfl,h4⟩| ⟨rfl,h4⟩
       · have h5:es.size=4:=by omega
         rw [hsz1,h5] at relay;rw [h5];exact relay 31 (by decide+kernel) (by decide+kernel) (.inr (.inl ⟨rfl,by omega⟩))
       · have h5:es.size=18:=by omega
         rw [hsz1,h5] at relay;rw [h5];exact relay 127 (by decide+kernel) (by decide+kernel) (.inr (.inr ⟨rfl,by omega⟩))
       · omega
     · rw [Bool.not_eq_true] at hfull;rw [hfull];simp;refine aae (fin _ es1 _ m _ sb1 g1 (T1.led b) ?_ hperm1)
       have hq: ¬m*3<=(es.size+1)*5:=by
         unfold SetTable.tooFull SetTable.fill at hfull;have h1:=(T1.led b).dm;have h2:=(T1.led b).sz;have h3:=(T1.led b).mask;rw [h1,h2,h3,hsz1] at hfull;simpa using hfull
       rw [hsz1];rcases S with ⟨rfl,h4⟩| ⟨rfl,h4⟩| ⟨rfl,h4⟩
       · exact .inl ⟨rfl,by omega⟩
       · exact .inr (.inl ⟨rfl,by omega⟩)
       · exact .inr (.inr ⟨rfl,by omega⟩)
   have t1e:({t1 with plain:=t1.plain}:abZ)=t1:=rfl
   split
   · refine aaa (YY hx fun b=>?_)
     cases b with
     |true=>exact tail t1.plain
     |false=>exact tail false
   · refine aaa (aae ?_);exact tail t1.plain
end
end Tab
end M
namespace M
open PySem
open PyProof.Rows
namespace Tab
def fstT [DecidableEq α] (val:Nat->α):Nat->List α
 |0=>[]
 |i+1=>if val i∈fstT val i then fstT val i else fstT val i++[val i]
section
variable {prog:aay} {w:World} {K:Type} [DecidableEq K] {knd:KeyKind prog w K} {Gd:Ue}
def Qo {k:List K} {b:Addr} (x:abB knd h k b) (e: ∀o,h.get? b=some o->h'.get? b=some o):abB knd h' k b:=
 let ⟨o,i,n,h1,h2⟩:=x
 ⟨o,i,n,e o h1,h2⟩
def SetT.same {ks:List (List K)} (x:SetT knd Gd h a ks) (e: ∀b o,(b=a\/Gd b)->h.get? b=some o->h'.get? b=some o):SetT knd Gd h' a ks:=by
 obtain ⟨o,es,ep,t,m,kp,ho,hex,hd,T,S,he,hk,pm⟩:=x;exact ⟨o,es,ep,t,m,kp,e a o (.inl rfl) ho,hex,hd,T,S,he,fun p hp=>⟨Qo (hk p hp).1 fun o=>e p.2 o (.inr (hk p hp).2),(hk p hp).2⟩,pm⟩
variable {A:aaV} {R:Result->aaf->Prop} {I:Addr} {fp wr:List Addr} {G:Array GenState->Array GenState->Prop} {n:Nat} {P:Nat->Value->Prop} {St:Nat->aaf->Prop}
def jha (W:WalksS prog w A.in1 I fp wr G n P St) (S:Addr) (hSf:S∉fp) (hu:A.in1.units<cLine) (val:Nat->List K) (hG: ∀b,Gd b->b≠S/\b∉wr) (hb: ∀i,i<n->(fstT val i).length<76):
  ∀(k i:Nat) (s:aaf),n-i=k->i<=n->St i s->SetT knd Gd s.heap S (fstT val i)->(∀i v,P i v-> ∃b,v= .ref b/\Gd b/\abB knd s.heap (val i) b)->
    (∀s',Moved (S::wr) G s s'->SetT knd Gd s'.heap S (fstT val n)->R (.ok (.ret .none)) s')->
    adX (model prog w) A (.builtin "set.update.loop" ⟨[.ref S,.ref I],[]⟩) R s:=by
 have hSw:S∉wr:=fun h=>hSf (W.sub _ h)
 have up: ∀b∈wr,b∈S::wr:=fun b z=>aal _ z
 have walk: ∀ {s s':aaf} {ks:List (List K)},Moved wr G s s'->SetT knd Gd s.heap S ks->SetT knd Gd s'.heap S ks:=fun hm x=>x.same fun b o hb e=>hm.heap b o (by rcases hb with rfl|hb;exact hSw;exact (hG b hb).2) e
 intro k
 induction k with
 |zero=>
  intro i s hk hi hst hS hK hR;obtain rfl:i=n:=by omega
  refine acW adb ?_;rw [ac7 ab9 _];refine aaa (W.done s _ _ hst fun s' hm=>?_);exact aae (hR s' (hm.mono up) (walk hm hS))
 |succ k ih=>
  intro i s hk hi hst hS hK hR;have hlt:i<n:=by omega
  refine acW adb ?_;rw [ac7 ab9 _];refine aaa (W.item i s _ _ hlt hst fun v s' hP hst' hm=>?_);obtain ⟨b,rfl,hGb,hkb⟩:=hK i v hP;have hkb':=Qo hkb fun o e=>hm.heap b o (hG b hGb).2 e
  refine aaa (aa4 ?_);unfold setAdd;refine aa4 (aaa (wpAny_pyHash_tuple hu hkb' ?_));have hS1:=walk hm hS;refine jeN (s:={s' with toks:=s'.toks+((val i).length+1)}) hu hS1 hkb' hGb (hb i hlt) fun h' bb hsb hS2=>?_
  have mv: ∀c o,c≠S->s'.heap.get? c=some o->h'.get? c=some o:=fun c o hc e=>by rw [hsb.2 c hc];exact e
  have hS3:SetT knd Gd h' S (fstT val (i+1)):=by
    rw [fstT]
    by_cases hm:val i∈fstT val i
    · rw [if_pos hm] at hS2 ⊢;exact hS2
    · rw [if_neg hm] at hS2 ⊢;exact hS2
  refine aae ⟨plainId_quiet ab9 _,ih (i+1) _ (by omega) hlt (W.frame _ s' _ _ hst' (abO _ _) fun c hc o e=>?_) hS3 (fun i' v' hP'=>?_) fun s'' hm'' hS''=>?_⟩
  · exact mv c o (fun z=>hSf (by rw [←z];exact hc)) e
  · obtain ⟨c,e,g,x⟩:=hK i' v' hP';exact ⟨c,e,g,Qo x fun o z=>mv c o (hG c g).1 (hm.heap c o (hG c g).2 z)⟩
  · refine hR s'' (Moved.trans W.gtrans ((hm.mono up).then_heap (abO _ _) fun c o hc e=>?_) hm'') hS'';exact mv c o (fun z=>hc (by rw [z];exact aap)) e
end
section
variable {prog:aay} {w:World} {K:Type} [DecidableEq K] {knd:KeyKind prog w K} {A:aaV} {E:Ud} {s:aaf}
def jgh {led:Bool} {G:Ue} (ho:h.get? a=some o) (hx:o.ExactSet) (hd:o.data= .set #[] 0 (.fresh 0 0 led)):SetT knd G h a []:=
 ⟨o, #[],0,_,7,[],ho,hx,hd,Tb.fresh led,.inl ⟨rfl,by decide⟩,rfl,(fun _ z=>by cases z),.refl _,.nil⟩
def call_setT (hu:A.units+6<cLine) (hh:A.handled=none) {l:Addr} {val:Nat->List K} {Q:Ud} (hl:s.heap.IsList l items)
  (hi: ∀(i:Nat) v,items[i]?=some v-> ∃b,v= .ref b/\abB knd s.heap (val i) b) (hb: ∀i,i<items.size->(fstT val i).length<76)
  (h: ∀(h':Heap) (tk:Nat),SetT knd (fun b=>b<s.heap.objs.size) h' s.heap.objs.size (fstT val items.size)->(∀b o,b<s.heap.objs.size->s.heap.get? b=some o->h'.get? b=some o)->Q (.ref s.heap.objs.size) {s with heap:=h',toks:=tk}):
  wpAny (model prog w) A (call (.type "set") [.ref l]) Q E s:=by
 obtain ⟨c,tl,hmro⟩:=acX.mro;have hmade:=acX.made;have hsub:=acX.sub;refine adI (codeAny_of_tree ?_);refine aae ⟨Code.quiet_builtin _ (by decide+kernel),acW F.entry_type_call ?_⟩;rw [Around.under_plain (weight_type_call_type "set" [.ref l] []) rfl];have h1:=acX.notType;have h2:=acX.canCreate;have hct:=F.typeCall_set_1 (.ref l)
 repeat (any_goals (first|assumption|wp_step))
 refine acI (code_set_new_1 (.ref l) (E:=E) (Q₁:=fun obj s₁=> ∃led:Bool,obj= .ref s.heap.objs.size/\s₁={s with heap:=s.heap.push {cls:= .type "set",dict:=none,data:= .set #[] 0 (.fresh 0 0 led)}}) fun led=>⟨led,rfl,rfl⟩) fun r s₁ hr=>?_
 cases r with
 |error e=>exact hr
 |ok fl=>
  cases fl with
  |ret obj=>
   obtain ⟨led,rfl,rfl⟩:=hr;generalize hso:({cls:= .type "set",dict:=none,data:= .set #[] 0 (.fresh 0 0 led)}:Obj)=so;have hS:(s.heap.push so).get? s.heap.objs.size=some so:=aao _ (by rw [←hso];rfl);have hT:Shared.TypeIs {s with heap:=s.heap.push so} (.ref s.heap.objs.size) "set" :=⟨_,hS,by rw [←hso]⟩
   have hli:=acX.init.lookup;have hbi:=acX.init.bind (.ref s.heap.objs.size)
   repeat (any_goals (first|assumption|wp_step))
   refine acI (ad3 (R:=wants (fun r s₂=>r= .none/\ ∃h' tk,s₂={s with heap:=h',toks:=tk}/\
       SetT knd (fun b=>b<s.heap.objs.size) h' s.heap.objs.size (fstT val items.size)/\(∀b o,b<s.heap.objs.size->s.heap.get? b=some o->h'.get? b=some o)) E) acX.init.plain F.entry_set_init (check_set_init_1 hT ?_)) fun r₂ s₂ hr₂=>?_
   · obtain ⟨ol,hol,hcl,nl,hdl⟩:=hl;obtain ⟨ocls,odict,odata,oslots⟩:=ol;simp only at hcl hdl;subst hcl;subst hdl;have hol':(s.heap.push so).get? l=some {cls:= .type "list",dict:=odict,data:= .seq items nl,slots:=oslots}:=aac _ hol;have hsls:=F.sub_list_set;have hslf:=F.sub_list_frozenset;have hne:(adG "list" ==adG "dict")=false:=by decide
     have hl1:(s.heap.push so).IsList l items:=⟨_,hol',rfl,nl,rfl⟩
     have hlt:=aar hol;have hsz:(s.heap.push so).objs.size=s.heap.objs.size+1:=abW _ _
     have hset:SetT knd (fun b=>b<s.heap.objs.size) ((s.heap.push so).push {cls:= .type "list_iterator",data:= .fields #[.ref l,.int 0 0]}) s.heap.objs.size []:=
       jgh (aac _ hS) (by rw [←hso];exact ⟨rfl,rfl,rfl⟩) (by rw [←hso])
     subst hso;unfold acF.«set.__init__» noKeywords Builtin.Frozenset.updateFrom;generalize hPI:pyIter=PI
     wp_walk
     subst hPI;refine abU hl1 ?_;refine aaa (wpAny_runValue ?_)
     refine jha ((afe (show A.in1.in1.in1.handled=none by simp [hh]) _ l (by rw [hsz];exact aaF (adL hlt)) items).toS) s.heap.objs.size (by rw [hsz];simp only [aaG,List.not_mem_nil,or_false,not_or];exact ⟨aaF (adf _),aet hlt⟩) (by simp;omega) val
       (fun b hb=>by rw [hsz];simp;exact ⟨aaF hb,aaF (adL hb)⟩) hb (items.size-0) 0 _ rfl (abe _) ⟨⟨_,aao _ rfl,rfl,rfl⟩,hl1.push _⟩ hset (fun i v hv=>?_) fun s' hm hS'=>?_
     · obtain ⟨b,e,x⟩:=hi i v hv;refine ⟨b,e,?_,Qo x fun o z=>aac _ (aac _ z)⟩;obtain ⟨o,_,_,ho,_⟩:=x;exact aar ho
     · obtain ⟨h',g',d',tk',os'⟩:=s';have eg:=hm.gens;have ed:=hm.drawn;have eo:=hm.os;subst eg;subst ed;subst eo;refine aae (aae ⟨rfl,h',tk',rfl,hS',fun b o hb e=>?_⟩);refine hm.heap b o ?_ (aac _ (aac _ e));rw [hsz];simp;exact ⟨aaF hb,aaF (adL hb)⟩
   · cases r₂ with
     |error e=>exact hr₂
     |ok fl₂=>
       cases fl₂ with
       |ret r=>
        obtain ⟨rfl,h',tk,rfl,hS',hk'⟩:=hr₂
        repeat (any_goals (first|assumption|wp_step))
        exact h _ _ hS' hk'
       |_=>exact hr₂.elim
  |_=>exact hr.elim
end
end Tab
end M
namespace M
open PySem PySem.Spec L2
open PyProof.Rows hiding St
def tksD:List D->Option (List (List Key))
 | []=>some []
 |d::r=>match keyT d,tksD r with
  |some k,some ks=>some (k::ks)
  |_,_=>none
def nT (ks:List (List Key)):Nat:=(Tab.fstT (fun i=>ks.getD i []) ks.length).length
theorem Y1 [DecidableEq α] (val:Nat->α): ∀i,(Tab.fstT val i).length<=i
 |0=>aag _
 |i+1=>by
  have:=Y1 val i;unfold Tab.fstT;split
  · omega
  · rw [aaC];simp;omega
theorem Vj [DecidableEq α] (val:Nat->α): ∀i x,x∈Tab.fstT val i↔ ∃j,j<i/\val j=x
 |0,x=>by simp [Tab.fstT]
 |i+1,x=>by
  have ih:=Vj val i
  have h1:x∈Tab.fstT val (i+1)↔x∈Tab.fstT val i\/x=val i:=by
    rw [Tab.fstT]
    by_cases h:val i∈Tab.fstT val i
    · rw [if_pos h];exact ⟨.inl,fun z=>z.elim id fun e=>e▸h⟩
    · rw [if_neg h];simp
  rw [h1,ih]
  constructor
  · rintro (⟨j,a,b⟩|rfl)
    · exact ⟨j,by omega,b⟩
    · exact ⟨i,by omega,rfl⟩
  · rintro ⟨j,a,rfl⟩
    by_cases e:j=i
    · subst e;exact .inr rfl
    · exact .inl ⟨j,by omega,rfl⟩
def KZ {ks:List (List Key)} (h:ks.Nodup):nT ks=ks.length:=by
 unfold nT
 suffices hs: ∀i,i<=ks.length->(Tab.fstT (fun i=>ks.getD i []) i).length=i from hs _ (aag _)
 intro i
 induction i with
 |zero=>intro _;rfl
 |succ i ih=>
  intro hi
  have hn:ks.getD i []∉Tab.fstT (fun i=>ks.getD i []) i:=fun z=>by
   obtain ⟨j,a,b⟩:=(Vj _ _ _).mp z;rw [acl,acl,aad (by omega),aad (by omega)] at b;have:=(aeW h).mp b;omega
  rw [Tab.fstT,if_neg hn,aaC,ih (by omega)];rfl
def KyV (H:Hp) (x:V) (k:List Key):Prop:= ∃b,x= .ref b/\H b=some (.tup (k.map kV))
theorem jb8 {K:aab} {A:Ue}: ∀ {vs:List V} {ds:List D} {ks:List (List Key)},Reps K A H vs ds->tksD ds=some ks->F2 (KyV H) vs ks
 |_,_,ks,.nil,h=>by cases h;exact .nil
 |_,_,ks,.cons (d:=d) (ds:=ds) r t,h=>by
  unfold tksD at h
  cases e1:keyT d with
  |none=>rw [e1] at h;cases h
  |some k=>
   cases e2:tksD ds with
   |none=>rw [e1,e2] at h;cases h
   |some r'=>
    rw [e1,e2] at h;cases h;exact .cons (JB r e1) (jb8 t e2)
def LenO (o:Obj) (n:Nat):Prop:=o.ExactSet/\ ∃(es:Array (Int×Value)) (ep:Nat) (t:abZ),o.data= .set es ep t/\t.fits es.size=true/\es.size=n/\n<=76
section
variable {X:Cx}
theorem vC {s:aaf} (I:Inv X pins σ H s): ∀ {ys:List V} {its:List Value} {ks:List (List Key)},Vals ys its->F2 (KyV H) ys ks-> ∀(i:Nat) v,its[i]?=some v-> ∃b,v= .ref b/\abB (jM X.prog X.w) s.heap (ks.getD i []) b
 |_,_,_,.nil,.nil,i,v,h=>by simp at h
 |_,_,_,.cons r rs,.cons x xs,0,v,h=>by
  obtain ⟨b,rfl,hb⟩:=x;simp at h;subst h;cases r;exact ⟨b,rfl,QR I.hok hb⟩
 |_,_,_,.cons r rs,.cons x xs,i+1,v,h=>by
  simpa using vC I rs xs i v (by simpa using h)
def jaa (hc:X.calm=true) (hu:X.A.units+200<cLine):CallR X (.type "set") (fun xs H Q=> ∃p us ks,xs=[.ref p]/\SqL X.K H p us/\F2 (KyV H) us ks/\ks.length<=76/\ ∀l o,H l=none->LenO o (nT ks)->Q (.ref l) (upd H l (.frz o (.own l)))):=by
 rintro pins s σ H xs us Q I r ⟨p,vs,ks,ex,hq,hk,hz,q⟩;subst ex;obtain ⟨u,rfl,ru⟩:=Jj r;cases ru;obtain ⟨its,rv,pl,_⟩:=I.list hq;have hlen:its.toArray.size=ks.length:=by rw [aah,←rv.length,hk.length]
 refine Tab.call_setT (by omega) (I.ok.hd hc) pl.isList (fun i v h=>vC I rv hk i v (by simpa using h)) (fun i hi=>aev (Y1 _ i) (by omega)) fun h' tk hS hkp=>?_
 have hl:=I.hok.fresh (aag _);rw [hlen] at hS;obtain ⟨o,es,ep,t,m,kp,ho,hex,hd,T,S,he,hkk,pm,nd⟩:=hS
 have hsz:es.size=nT ks:=by
  rw [←aaI,he,aaj];have:=pm.length_eq;rw [aaj] at this;rw [this];rfl
 have hn:nT ks<=76:=aaw (Y1 _ _) hz;exact ⟨.ref s.heap.objs.size,_,I.laid (fun b o e=>hkp b o (aar e) e) (aag _) (show ObjOk X.prog X.w _ h' _ (.frz o (.own _)) from ⟨ho,o,ho⟩),rfl,q _ o hl ⟨hex,es,ep,t,hd,T.fits S.le.1,hsz,hn⟩⟩
def jab:CallR X (.builtin "len") (fun xs H Q=> ∃a b o n,xs=[.ref a]/\H a=some (.frz o (.own b))/\LenO o n/\Q (.int n) H):=by
 rintro pins s σ H xs us Q I r ⟨a,b,o,n,ex,ha,⟨hx,es,ep,t,hd,hf,hn,h76⟩,q⟩;subst ex;obtain ⟨u,rfl,ru⟩:=Jj r;cases ru;obtain ⟨ho,_⟩:=(show ObjOk X.prog X.w H s.heap a (.frz o (.own b)) from I.hok a _ ha)
 subst hn;exact call_len_set ho hx hd hf (by omega) ⟨.int es.size,H,I.tok _,⟨_,rfl⟩,q⟩
def Xz:D->Res D
 | .lst ds=>match tksD ds with
  |some ks=>must (ks.length<=76) (.ok (.int (nT ks)))
  |none=> .stuck
 |_=> .stuck
def Uv {a:D} (h:Xz a= .ok d): ∃ds ks,a= .lst ds/\tksD ds=some ks/\ks.length<=76/\d= .int (nT ks):=by
 unfold Xz at h
 split at h
 · rename_i ds
   split at h
   · rename_i ks e;obtain ⟨h1,h2⟩:=jq h;cases h2;exact ⟨ds,ks,rfl,e,h1,rfl⟩
   · cases h
 · cases h
def XA (f:TK):Sl->Res D:=fun env=>f env>>=Xz
variable {l1:Lv} {e1:Expr} {f1:TK} {p1 p3 q1 q3:Pos}
def XW (hc:X.calm=true) (hu:X.A.units+200<cLine) (h1:DE X l1 e1 f1) (hgl:Gl X "len") (hml:X.mg "len" =none) (hgs:Gl X "set") (hms:X.mg "set" =none)
   (he0:aai [.Call (.Name "set" p1) [e1] [] q1] X.env=(false,eval (.Call (.Name "set" p1) [e1] [] q1) X.env)::aai [] X.env:=by exact jk rfl)
   (he1:aai [e1] X.env=(false,eval e1 X.env)::aai [] X.env:=by exact jk rfl):
   DE X .b (.Call (.Name "len" p3) [.Call (.Name "set" p1) [e1] [] q1] [] q3) (XA f1):=by
 with_unfolding_all exact (
  PE.imp (xg jab hgl hml rfl (qg (Jr (jaa hc hu) hgs hms rfl (qg h1 wJ he1) (by decide) (by decide) he1 rfl) wJ he0) (by decide) (by decide) he0 rfl) fun σ H Q=>by
   rintro ⟨G,H0,env,d,k,ef,q⟩;obtain ⟨a,c1,ef⟩:=jd ef;obtain ⟨ds,ks,rfl,e1,e2,rfl⟩:=Uv ef;refine ⟨G,H0,env,_,k,c1,fun x1 H1 s1 r1 _=>?_⟩;obtain ⟨p,xs,rfl,hp,_,rs⟩:=(r1.weak Lv.weak_b).lstE;refine ⟨p,xs,ks,rfl,.inl (.inl hp),jb8 rs e1,e2,fun l o hl hO=>?_⟩
   exact ⟨l,l,o,_,rfl,ju,hO,q _ _ (s1.trans (Same.upd hl)) (.int _) trivial⟩)
end
section
variable {X:Cx} {K:aab}
def anyD:List D->Res D
 | [.lst ds]=>match Zb ds with
  |some bs=> .ok (.bl (bs.any id))
  |none=> .stuck
 |_=> .stuck
def jad (hc:X.calm=true):CallR X (.builtin "any") (fun xs H Q=> ∃(p:Addr) (bs:List Bool),xs=[.ref p]/\SqL X.K H p (bs.map V.bl)/\Q (.bl (bs.any id)) H):=by
 rintro pins s σ H xs us Q I r ⟨p,bs,ex,hq,q⟩;subst ex;obtain ⟨u,rfl,ru⟩:=Jj r;cases ru;obtain ⟨its,rv,pl,hz⟩:=I.list hq;have hits:=JR rv;subst hits;refine call_any_walk (abU pl.isList ?_)
 have hne:p≠s.heap.objs.size:=by
   obtain ⟨o,n,e,_⟩:=pl;exact aaF (aar e)
 refine ⟨s.heap.objs.size,_,_,_,_,_,fun i=>(bs[i]?).getD true,rfl,afe (show X.A.in1.handled=none from I.ok.hd hc) s.heap.objs.size p hne (bs.map aca).toArray,⟨⟨_,aao _ rfl,rfl,rfl⟩,pl.isList.at fun o e=>aac _ e⟩,?_,fun h' tk kk=>?_⟩
 · intro i v s' Q' E' hP hQ;have hP':(bs.map aca)[i]?=some v:=by simpa using hP
   rw [aaE] at hP'
   cases e:bs[i]? with
   |none=>rw [e] at hP';cases hP'
   |some b=>
    rw [e] at hP';cases hP';dsimp only at hQ;rw [e] at hQ;exact abG hQ
 · have hn:(bs.map aca).toArray.size=bs.length:=by simp
   have e:((aa5 (bs.map aca).toArray.size).any fun i=>(bs[i]?).getD true)=bs.any id:=by
    rw [hn,aej,ab6,ab6]
    constructor
    · rintro ⟨i,hi,hh⟩;have hi':=aaM.mp hi;rw [aad hi'] at hh;exact ⟨_,aa9 hi',hh⟩
    · rintro ⟨b,hb,hh⟩;obtain ⟨i,hi,rfl⟩:=List.mem_iff_getElem.mp hb;exact ⟨i,aaM.mpr hi,by rw [aad hi];exact hh⟩
   rw [e];refine ⟨.bl _,H,?_,rfl,q⟩
   exact I.kept fun b o e=>kk b o (by
    intro z;have hb:b=s.heap.objs.size:=by simpa using z
    exact absurd (aar e) (by rw [hb];exact abq _)) (aac _ e)
def jgs:Yk K (fun xs H Q=> ∃(p:Addr) (bs:List Bool),xs=[.ref p]/\SqL K H p (bs.map V.bl)/\Q (.bl (bs.any id)) H) anyD:=by
 intro xs H ds d Q r e q;unfold anyD at e
 split at e
 · split at e
   · rename_i bs hbs;cases e;obtain ⟨v,rfl,r1⟩:=r.one;obtain ⟨p,ys,rfl,hp,_,ry⟩:=r1.lstE;rw [Za hbs] at ry;have:=JY ry;subst this;exact ⟨p,bs,rfl,.of hp,q _ (jhG _)⟩
   · cases e
 · cases e
def jfj:R2:=fun x y H Q=> ∃a kvs b k,y= .ref a/\H a=some (.dT kvs)/\x= .ref b/\H b=some (.tup (k.map kV))/\Q (.bl (!(valV kvs k).isSome)) H
def jdu (hu:X.A.units+1<cLine):OpR X (abr .NotIn) jfj:=by
 rintro pins s σ H x y v u Q I rx ry ⟨a,kvs,b,k,ey,ha,ex,hb,q⟩;subst ey;subst ex;obtain rfl:u=aau a:=ry;exact jev hu I (DGet.t ha hb) rx fun s' I'=>⟨.bl _,H,I',rfl,q⟩
def ninT:D->D->Res D
 |kd,.dit ks _=>match keyT kd with
  |some k=> .ok (.bl (!hasT ks k))
  |none=> .stuck
 |_,_=> .stuck
def jdF:OpS K jfj ninT:=by
 intro x y H a b d Q ra rb e q;unfold ninT at e
 split at e
 · obtain ⟨p,kvs,rfl,hp,_,rfl,r⟩:=rb.ditE
   split at e
   · rename_i k hk;cases e;obtain ⟨b',rfl,hb⟩:=JB ra hk;refine ⟨p,kvs,b',k,rfl,hp,rfl,hb,?_⟩;rw [←ZV,VN];exact q _ (jhG _)
   · cases e
 · cases e
def valT (ks:List (List Key)) (ds:List D) (k:List Key):Option D:=((ks.zip ds).find? fun p=>decide (p.1=k)).map (·.2)
theorem KB {A:Ue}: ∀ {kvs:List (List Key×V)} {ds:List D} (k:List Key) {d:D},Reps K A H (kvs.map (·.2)) ds->valT (kvs.map (·.1)) ds k=some d-> ∃v,valV kvs k=some v/\Rep K A H v d
 | [],ds,k,d,r,h=>by simp [valT] at h
 | (k',v)::kvs,ds,k,d,r,h=>by
  cases r with
  |cons r1 r2=>
   by_cases hk:k'=k
   · subst hk;simp [valT] at h;subst h;exact ⟨v,by simp [valV],r1⟩
   · obtain ⟨w,h1,h2⟩:=KB k r2 (by simpa [valT,hk] using h);exact ⟨w,by simpa [valV,hk] using h1,h2⟩
def jfk:R2:=fun x y H Q=> ∃a kvs b k v,x= .ref a/\H a=some (.dT kvs)/\y= .ref b/\H b=some (.tup (k.map kV))/\valV kvs k=some v/\Q v H
def jbe (hu:X.A.units+1<cLine):IxR X jfk:=by
 intro value slice pins s σ H x y v u Q I rx ry h hs;obtain ⟨a,kvs,b,k,z,rfl,ha,rfl,hb,hv,q⟩:=h;obtain rfl:v=aau a:=rx;have g:DGet H a (.ref b) (some z):=by rw [←hv];exact DGet.t ha hb
 exact tail_any (Ka I g) PySem.F.slot_dict_getitem.lookup (uN hu I g ry fun w' s' I' rw'=>⟨z,H,I',rw',q⟩) hs
def getT:D->D->Res D
 | .dit ks ds,kd=>match keyT kd with
  |some k=>match valT ks ds k with
   |some d=> .ok d
   |none=> .stuck
  |none=> .stuck
 |_,_=> .stuck
def jdC {A:Ue} {x:V} {a b:D} {Q:VK} (ra:Rep K A H x a) (rb:Rep K Any H y b) (h:getT a b= .ok d) (q: ∀v,Rep K A H v d->Q v H):jfk x y H Q:=by
 unfold getT at h
 split at h
 · split at h
   · rename_i k hk
     split at h
     · rename_i d' hd;cases h;obtain ⟨a,kvs,rfl,ha,_,rfl,r⟩:=ra.ditE;obtain ⟨v,h1,h2⟩:=KB k r.low hd;obtain ⟨b',rfl,hb⟩:=JB rb hk;exact ⟨a,kvs,b',k,v,rfl,ha,rfl,hb,h1,q v h2⟩
     · cases h
   · cases h
 · cases h
variable {a b:Expr} {f1 f2:TK} {l2:Lv} {pos p:Pos}
def uK (hu:X.A.units+1<cLine) (ha:DE X .s a f1) (hb:DE X l2 b f2) (hs:WW b:=by intro _ _;rfl):DE X .s (.Subscript a b pos) (two f1 f2 getT):=by
 with_unfolding_all exact (
  PE.imp (jdo (jbe hu) ha hb hs) fun σ H Q=>by
   rintro ⟨G,H0,env,d,k,ef,q⟩;obtain ⟨a',e1,ef⟩:=jd ef;obtain ⟨b',e2,e3⟩:=jd ef;refine ⟨G,H0,env,a',k,e1,fun x H1 s1 r1 _=>⟨G,H0,env,b',k.grow s1,e2,fun y H2 s2 r2 _=>?_⟩⟩
   exact jdC (r1.grow s2) (r2.weak Lv.weak_b) e3 fun v r3=>q v H2 (s1.trans s2) r3 trivial)
end
section
variable {prog:aay} {w:World} {A:aaV} {E:Ud} {s:aaf} {z TI TO i1 i2 l1 l2:Addr} {k1 k2:Nat} {xs ys:Array Value} {a b:Value}
structure ZipAtM (h:Heap) (z TI TO i1 i2 l1 l2:Addr) (k1 k2:Nat) (f0:Value):Prop where
 hz:IsZip h z TI TO f0
 ti:IsPair h TI (.ref i1) (.ref i2)
 to: ∃a b,IsPair h TO a b
 h1:h.IsTupleIter i1 l1 k1
 h2:h.IsListIter i2 l2 k2
def UJ {x y:Value} {Q:Ud} (D:ZipApart z TI TO i1 i2 l1 l2) (Z:ZipAtM s.heap z TI TO i1 i2 l1 l2 k1 k2 .none) (hl1:s.heap.IsTuple l1 xs) (hl2:s.heap.IsList l2 ys) (hx:xs[k1]?=some x) (hy:ys[k2]?=some y)
  (hQ: ∀h',ZipAtM h' z TI TO i1 i2 l1 l2 (k1+1) (k2+1) (rawInt s.heap.objs.size)->IsPair h' s.heap.objs.size x y->
   (∀c o,c≠z->c≠TO->c≠i1->c≠i2->s.heap.get? c=some o->h'.get? c=some o)->Q (.ref s.heap.objs.size) {s with heap:=h'}):
  wpAny (model prog w) A (acF.«zip.__next__» ⟨[.ref z],[]⟩) (fun fin s'=> ∃v,fin= .done (.ret v)/\Q v s') E s:=by
 obtain ⟨hz,hTI,⟨a,b,hTO⟩,h1,h2⟩:=Z;refine (show wpAny _ _ (field (.ref z) 2>>=_) _ _ _ from aaa (abL hz rfl rfl (show wpAny _ _ (field (.ref z) 3>>=_) _ _ _ from aaa (abL hz rfl rfl (aaa (abK hTI rfl (show wpAny _ _ (abF (.ref z)>>=_) _ _ _ from aaa ?_)))))));unfold abF;refine aaa (abL hz rfl rfl (aae ?_));simp only [if_true];refine aaa (adl (aaa (abL hz rfl rfl (aaa (acu hz (by simp) fun g1 z1 s1=>aaa ?_)))));have z1':=z1;simp only [List.zipIdx_cons,List.zipIdx_nil,List.forIn_cons,List.forIn_nil];refine aaa (aaa (wpAny_onRaise (show wpAny _ _ (abf (.ref i1)>>=_) _ _ _ from aaa (KW (h1.extBut s1.extBut D.i1z) (hl1.extBut s1.extBut D.l1z) hx fun g2 q1 s2=>aae ?_))));have to2:=s2.extBut _ _ D.TOi1 (s1.extBut _ _ D.TOz hTO);refine aaa (abK to2 rfl (aaa (ad6 to2 fun g3 to3 s3=>aaa (wpAny_letGo (aae (aaa (aaa (wpAny_onRaise ?_))))))));have to3':=to3;refine (show wpAny _ _ (abf (.ref i2)>>=_) _ _ _ from aaa (wpAny_nextOf_list_item (((h2.extBut s1.extBut D.i2z).extBut s2.extBut D.i12.symm).extBut s3.extBut D.TOi2.symm) (((hl2.extBut s1.extBut D.l2z).extBut s2.extBut D.l2i1).extBut s3.extBut D.l2TO) hy fun g4 q2 s4=>aae ?_));have to4:=s4.extBut _ _ D.TOi2 to3';refine aaa (abK to4 rfl (aaa (ad6 to4 fun g5 to5 s5=>aaa (wpAny_letGo (aae (aae ?_))))));have to5':IsPair g5 TO x y:=to5;refine aaa (abK to5' rfl (aaa (wpAny_newTuple (show wpAny _ _ (adc (.ref z) (.ref g5.objs.size)>>=_) _ _ _ from aaa ?_))));have hsz:g5.objs.size=s.heap.objs.size:=by rw [s5.1,s4.1,s3.1,s2.1,s1.1]
 have z5:=s5.extBut _ _ D.TOz.symm (s4.extBut _ _ D.i2z.symm (s3.extBut _ _ D.TOz.symm (s2.extBut _ _ D.i1z.symm z1')));have k5: ∀c o,c≠z->c≠TO->c≠i1->c≠i2->s.heap.get? c=some o->g5.get? c=some o:=fun c o c1 c2 c3 c4 e=>s5.extBut _ _ c2 (s4.extBut _ _ c4 (s3.extBut _ _ c2 (s2.extBut _ _ c3 (s1.extBut _ _ c1 e))))
 have q1':=((q1.extBut s3.extBut D.TOi1.symm).extBut s4.extBut D.i12).extBut s5.extBut D.TOi1.symm;have q2':=q2.extBut s5.extBut D.TOi2.symm;have zlt:=aar z5;unfold adc;have z6:IsZip (g5.push {cls:= .type "tuple",data:= .seq #[x,y]}) z TI TO .ellipsis:=aac _ z5;refine aaa (acu z6 (by simp) fun g7 z7 s7=>?_);have z7':=z7;refine acu z7' (by simp) fun g8 z8 s8=>aae ⟨_,rfl,(show Q (.ref g5.objs.size) _ from ?_)⟩
 have z8':=z8;have up: ∀c o,c≠z->g5.get? c=some o->g8.get? c=some o:=fun c o c1 e=>s8.extBut _ _ c1 (s7.extBut _ _ c1 (aac _ e))
 have t8:=s8.extBut _ _ (aet zlt) (s7.extBut _ _ (aet zlt) (aao _ rfl));rw [hsz] at z8' t8 ⊢;exact hQ g8 ⟨z8',up _ _ D.TIz (k5 _ _ D.TIz D.TITO D.TIi1 D.TIi2 hTI),⟨_,_,up _ _ D.TOz to5'⟩,q1'.at fun o e=>up _ o D.i1z e,q2'.at fun o e=>up _ o D.i2z e⟩ t8 fun c o c1 c2 c3 c4 e=>up c o c1 (k5 c o c1 c2 c3 c4 e)
def jar {Q:PySem.Fin->aaf->Prop} (hh:A.handled=none) (D:ZipApart z TI TO i1 i2 l1 l2) (Z:ZipAtM s.heap z TI TO i1 i2 l1 l2 k1 k2 .none) (hl1:s.heap.IsTuple l1 xs) (hl2:s.heap.IsList l2 ys) (hend:xs[k1]?=none\/ys[k2]?=none)
  (hE: ∀h' e,(∀c o,c≠z->c≠TO->c≠i1->c≠i2->s.heap.get? c=some o->h'.get? c=some o)->(∃o,h'.get? e=some o/\o.cls= .type "StopIteration")->E (.ref e) {s with heap:=h'}):
  wpAny (model prog w) A (acF.«zip.__next__» ⟨[.ref z],[]⟩) Q E s:=by
 obtain ⟨hz,hTI,⟨a,b,hTO⟩,h1,h2⟩:=Z;refine (show wpAny _ _ (field (.ref z) 2>>=_) _ _ _ from aaa (abL hz rfl rfl (show wpAny _ _ (field (.ref z) 3>>=_) _ _ _ from aaa (abL hz rfl rfl (aaa (abK hTI rfl (show wpAny _ _ (abF (.ref z)>>=_) _ _ _ from aaa ?_)))))));unfold abF;refine aaa (abL hz rfl rfl (aae ?_));simp only [if_true];refine aaa (adl (aaa (abL hz rfl rfl (aaa (acu hz (by simp) fun g1 z1 s1=>aaa ?_)))));have z1':=z1;simp only [List.zipIdx_cons,List.zipIdx_nil,List.forIn_cons,List.forIn_nil];refine aaa (aaa (wpAny_onRaise (show wpAny _ _ (abf (.ref i1)>>=_) _ _ _ from ?_)))
 have ne: ∀ {h:Heap} {e:Addr} {oe:Obj},IsZip h z TI TO .ellipsis->h.get? e=some oe->oe.cls= .type "StopIteration" ->e≠z:=fun {h e oe} hz hoe hce x=>by
  subst x;rw [hz] at hoe;cases hoe;simp at hce
 cases hx:xs[k1]? with
 |none=>
  refine aaa (jeg hh (h1.extBut s1.extBut D.i1z) (hl1.extBut s1.extBut D.l1z) hx fun g2 e s2 ⟨oe,hoe,hce⟩=>?_);have z2:=s2 _ _ D.i1z.symm z1';exact acu z2 (by simp) fun g3 _ s3=>hE g3 e (fun c o c1 _ c3 _ x=>s3.extBut _ _ c1 (s2 _ _ c3 (s1.extBut _ _ c1 x))) ⟨oe,s3.extBut _ _ (ne z2 hoe hce) hoe,hce⟩
 |some x=>
  have hy:=hend.resolve_left (by rw [hx];simp);refine aaa (KW (h1.extBut s1.extBut D.i1z) (hl1.extBut s1.extBut D.l1z) hx fun g2 q1 s2=>aae ?_);have to2:=s2.extBut _ _ D.TOi1 (s1.extBut _ _ D.TOz hTO);refine aaa (abK to2 rfl (aaa (ad6 to2 fun g3 to3 s3=>aaa (wpAny_letGo (aae (aaa (aaa (wpAny_onRaise ?_))))))));refine (show wpAny _ _ (abf (.ref i2)>>=_) _ _ _ from aaa (wpAny_nextOf_list_end hh (((h2.extBut s1.extBut D.i2z).extBut s2.extBut D.i12.symm).extBut s3.extBut D.TOi2.symm) (((hl2.extBut s1.extBut D.l2z).extBut s2.extBut D.l2i1).extBut s3.extBut D.l2TO) hy fun g4 e s4 ⟨oe,hoe,hce⟩=>?_));have z4:=s4 _ _ D.i2z.symm (s3.extBut _ _ D.TOz.symm (s2.extBut _ _ D.i1z.symm z1'));exact acu z4 (by simp) fun g5 _ s5=>hE g5 e (fun c o c1 c2 c3 c4 x=>s5.extBut _ _ c1 (s4 _ _ c4 (s3.extBut _ _ c2 (s2.extBut _ _ c3 (s1.extBut _ _ c1 x))))) ⟨oe,s5.extBut _ _ (ne z4 hoe hce) hoe,hce⟩
def Ul {x y:Value} {Q:Option Value->aaf->Prop} (D:ZipApart z TI TO i1 i2 l1 l2) (Z:ZipAtM s.heap z TI TO i1 i2 l1 l2 k1 k2 .none) (hl1:s.heap.IsTuple l1 xs) (hl2:s.heap.IsList l2 ys) (hx:xs[k1]?=some x) (hy:ys[k2]?=some y)
  (hQ: ∀h',ZipAtM h' z TI TO i1 i2 l1 l2 (k1+1) (k2+1) (rawInt s.heap.objs.size)->IsPair h' s.heap.objs.size x y->
   (∀c o,c≠z->c≠TO->c≠i1->c≠i2->s.heap.get? c=some o->h'.get? c=some o)->Q (some (.ref s.heap.objs.size)) {s with heap:=h'}):wpAny (model prog w) A (pyNext (.ref z)) Q E s:=by
 have hT:s.TypeIs (.ref z) "zip" :=⟨_,Z.hz,rfl⟩
 unfold pyNext;exact aaa (adz (abl hT aep (abD aep hT F.entry_zip_next (UJ D Z hl1 hl2 hx hy fun h' a1 a2 a3=>aae (hQ h' a1 a2 a3)) (F.args_zip_next_1 _))))
def k4 {Q:Option Value->aaf->Prop} (hh:A.handled=none) (D:ZipApart z TI TO i1 i2 l1 l2) (Z:ZipAtM s.heap z TI TO i1 i2 l1 l2 k1 k2 .none) (hl1:s.heap.IsTuple l1 xs) (hl2:s.heap.IsList l2 ys) (hend:xs[k1]?=none\/ys[k2]?=none)
  (hQ: ∀h',(∀c o,c≠z->c≠TO->c≠i1->c≠i2->s.heap.get? c=some o->h'.get? c=some o)->Q none {s with heap:=h'}):wpAny (model prog w) A (pyNext (.ref z)) Q E s:=by
 have hT:s.TypeIs (.ref z) "zip" :=⟨_,Z.hz,rfl⟩
 unfold pyNext;exact aaa (adz (abl hT aep (abD aep hT F.entry_zip_next (jar hh D Z hl1 hl2 hend fun h' e hk ⟨o,ho,hc⟩=>aaa (wpAny_isInstance ⟨o,ho,hc⟩ isSubtype_stop (aae (hQ _ hk)))) (F.args_zip_next_1 _))))
end
abbrev zM1 (h:Heap) (l1:Addr):Heap:=h.push {cls:= .type "tuple_iterator",data:= .fields #[.ref l1,.int 0 0]}
abbrev zM2 (h:Heap) (l1 l2:Addr):Heap:=(zM1 h l1).push {cls:= .type "list_iterator",data:= .fields #[.ref l2,.int 0 0]}
abbrev zM3 (h:Heap) (l1 l2:Addr):Heap:=(zM2 h l1 l2).push {cls:= .type "tuple",data:= .seq #[.ref h.objs.size,.ref (zM1 h l1).objs.size]}
abbrev zM4 (h:Heap) (l1 l2:Addr):Heap:=(zM3 h l1 l2).push {cls:= .type "tuple",data:= .seq #[.none,.none]}
abbrev zM5 (h:Heap) (l1 l2:Addr):Heap:=(zM4 h l1 l2).push {cls:= .type "zip",data:= .fields #[.none,.bool false,.bool false,.ref (zM2 h l1 l2).objs.size,.ref (zM3 h l1 l2).objs.size]}
def jaq (l1 l2:Addr) (xs ys:Array Value):PySem.Meets (acF.«zip.__new__» ⟨[.type "zip",.ref l1,.ref l2],[]⟩) (fun _ R s=>s.heap.IsTuple l1 xs/\s.heap.IsList l2 ys/\R (.ok (.ret (.ref (zM4 s.heap l1 l2).objs.size))) {s with heap:=zM5 s.heap l1 l2}):=
 .of_wp fun prog w A R s h=>by
  obtain ⟨hp,g,d,tk,os⟩:=s;obtain ⟨hl1,hl2,h⟩:=h;have hsub:=sub_zip;have hT1:=hl1;have hT2:Heap.IsList (Shared.heap ⟨hp.push {cls:= .type "tuple_iterator",data:= .fields #[.ref l1,.int 0 0]},g,d,tk,os⟩) l2 ys:=hl2.push _
  wp_walk using wpAny_pyIter_tuple hT1,abU hT2
  exact ⟨_,rfl,h⟩
section
variable {prog:aay} {w:World} {A:aaV} {E:Ud} {s:aaf}
def u0 {l1 l2:Addr} {xs ys:Array Value} {Q:Ud} (hl1:s.heap.IsTuple l1 xs) (hl2:s.heap.IsList l2 ys)
  (h: ∀h',ZipAtM h' (s.heap.objs.size+4) (s.heap.objs.size+2) (s.heap.objs.size+3) s.heap.objs.size (s.heap.objs.size+1) l1 l2 0 0 .none->(∀c o,s.heap.get? c=some o->h'.get? c=some o)->Q (.ref (s.heap.objs.size+4)) {s with heap:=h'}):
  wpAny (model prog w) A (call (.type "zip") [.ref l1,.ref l2]) Q E s:=by
 refine callType_new F.called_zip (by decide) (F.typeCall_zip_2 _ _) (F.newCall_zip_2 _ _) (fun obj=>F.args_object_init_3 obj _ _) F.entry_zip_new (jaq l1 l2 xs ys) ⟨hl1,hl2,?_⟩;have z1:(zM1 s.heap l1).objs.size=s.heap.objs.size+1:=abW ..;have z2:(zM2 s.heap l1 l2).objs.size=s.heap.objs.size+2:=by rw [abW,z1]
 have z3:(zM3 s.heap l1 l2).objs.size=s.heap.objs.size+3:=by rw [abW,z2]
 have z4:(zM4 s.heap l1 l2).objs.size=s.heap.objs.size+4:=by rw [abW,z3]
 have up1: ∀c o,(zM3 s.heap l1 l2).get? c=some o->(zM5 s.heap l1 l2).get? c=some o:=fun c o e=>aac _ (aac _ e)
 have up2: ∀c o,(zM1 s.heap l1).get? c=some o->(zM3 s.heap l1 l2).get? c=some o:=fun c o e=>aac _ (aac _ e)
 have g5:(zM5 s.heap l1 l2).get? (zM4 s.heap l1 l2).objs.size=some _:=aao _ rfl;have g4:(zM5 s.heap l1 l2).get? (zM3 s.heap l1 l2).objs.size=some _:=aac _ (aao _ rfl);have g3:=up1 _ _ (aao _ rfl);have g2:=up1 _ _ (aac _ (aao _ rfl));have g1:=up1 _ _ (up2 _ _ (aao _ rfl));rw [z2,z3,z4] at g5;rw [z1,z2] at g3;rw [z3] at g4;rw [z1] at g2;rw [z4];exact ⟨⟨_,g5,rfl⟩,h _ ⟨g5,g3,⟨_,_,g4⟩,⟨_,g1,rfl,rfl⟩,⟨_,g2,rfl,rfl⟩⟩ fun c o x=>up1 _ _ (up2 _ _ (aac _ x))⟩
end
def ItZM (K:aab) (a1 a2:Addr) (xs ys:List V):It:=⟨fun i H=>(SqT K H a1 xs/\SqL K H a2 ys)/\i<xs.length/\i<ys.length,fun i H v H'=> ∃p x y,H p=none/\xs[i]?=some x/\ys[i]?=some y/\v= .ref p/\H'=upd H p (.tup [x,y]),fun i H=>(SqT K H a1 xs/\SqL K H a2 ys)/\(xs.length<=i\/ys.length<=i)⟩
def UO {P:aay} {w:World} {K:aab} {elts:List Expr} {n:Nat} {pos:Pos} {z TI TO i1 i2 a1 a2:Addr} (xs ys:List V) (D:ZipApart z TI TO i1 i2 a1 a2):
  Turn P w K (.Tuple elts n pos) (ItZM K a1 a2 xs ys) [z,TI,TO,i1,i2] z (fun i h=>ZipAtM h z TI TO i1 i2 a1 a2 i i .none) where
 mem:=by simp
 obj:=fun i h st b hb=>by
  obtain ⟨hz,ti,⟨x,y,to⟩,⟨o1,e1,c1,d1⟩,o2,e2,c2,d2⟩:=st;simp at hb;rcases hb with rfl|rfl|rfl|rfl|rfl
  · exact ⟨_,hz,fun v q=>by cases q⟩
  · exact ⟨_,ti,fun v q=>by cases q⟩
  · exact ⟨_,to,fun v q=>by cases q⟩
  · exact ⟨o1,e1,fun v q=>by rw [d1] at q;cases q⟩
  · exact ⟨o2,e2,fun v q=>by rw [d2] at q;cases q⟩
 keep:=fun i h h' st k=>by
  obtain ⟨hz,ti,⟨x,y,to⟩,q1,q2⟩:=st;exact ⟨k z (by simp) _ hz,k TI (by simp) _ ti,⟨x,y,k TO (by simp) _ to⟩,q1.at fun o e=>k i1 (by simp) o e,q2.at fun o e=>k i2 (by simp) o e⟩
 item:=by
  intro X hP hw hK hc i pins s σ H E I hf st hg;subst hP hw hK;obtain ⟨⟨hq1,hq2⟩,g1,g2⟩:=hg;obtain ⟨its1,rv1,p1,_⟩:=I.tuple hq1;obtain ⟨its2,rv2,p2,_⟩:=I.list hq2;have hx:=aad g1;have hy:=aad g2;obtain ⟨u,hu,ru⟩:=rv1.get hx;obtain ⟨v,hv,rv⟩:=rv2.get hy;refine Ul D st (show s.heap.IsTuple a1 its1.toArray from p1) p2.isList (by simpa using hu) (by simpa using hv) fun h' Z' hT hk=>?_
  refine ⟨_,rfl,wpAny_letOwnedTupleGo_zip Z'.hz fun h'' hz'' hs''=>?_⟩;have lt: ∀ {c o},s.heap.get? c=some o->c<s.heap.objs.size:=fun e=>aar e
  have flt: ∀c∈[z,TI,TO,i1,i2],c<s.heap.objs.size:=fun c hc=>by
    obtain ⟨hz,ti,⟨_,_,to⟩,⟨_,e1,_⟩,_,e2,_⟩:=st;simp at hc;rcases hc with rfl|rfl|rfl|rfl|rfl
    · exact lt hz
    · exact lt ti
    · exact lt to
    · exact lt e1
    · exact lt e2
  have hfr:=I.hok.fresh (aag _)
  have I1:Inv X pins σ (upd H s.heap.objs.size (.tup [xs[i],ys[i]])) {s with heap:=s.heap.push {cls:= .type "tuple",data:= .seq #[u,v]}}:=
    I.laid (fun b o e=>aac _ e) (aag _) ⟨aaw (show 2<=20 by decide) (by decide),[u,v],.cons ru (.cons rv .nil),⟨_,aao _ rfl,rfl,_,rfl⟩⟩
  have f1: ∀b∈[z,TI,TO,i1,i2],FpOk X pins (upd H s.heap.objs.size (.tup [xs[i],ys[i]])) b:=fun b hb=>⟨by rw [jL (aaF (flt b hb))];exact (hf b hb).1,(hf b hb).2⟩
  have I2:=QU (t':=s.toks) I1 (fun b o hb eo=>by
    have hbz:b≠z:=fun e=>hb (by simp [e])
    refine (hs''.2 b hbz).trans ?_
    by_cases hbs:b=s.heap.objs.size
    · subst hbs;rw [aao _ rfl] at eo;rw [←eo];exact hT
    · have eo':s.heap.get? b=some o:=by
       rcases Heap.get?_push_cases eo with ⟨q,_⟩|q
       · exact absurd q hbs
       · exact q
      exact hk b o hbz (fun e=>hb (by simp [e])) (fun e=>hb (by simp [e])) (fun e=>hb (by simp [e])) eo') f1
  obtain ⟨_,ti',⟨q1,q2,to'⟩,w1,w2⟩:=Z';exact ⟨.ref s.heap.objs.size,_,I2,rfl,⟨_,_,_,hfr,hx,hy,rfl,rfl⟩,⟨hz'',hs''.extBut _ _ D.TIz ti',⟨q1,q2,hs''.extBut _ _ D.TOz to'⟩,w1.extBut hs''.extBut D.i1z,w2.extBut hs''.extBut D.i2z⟩,fun b hb=>(f1 b hb).1⟩
 done:=by
  intro X hP hw hK hc i pins s σ H E I hf st hg;subst hP hw hK;obtain ⟨⟨hq1,hq2⟩,g⟩:=hg;obtain ⟨its1,rv1,p1,_⟩:=I.tuple hq1;obtain ⟨its2,rv2,p2,_⟩:=I.list hq2;have hl1:=rv1.length;have hl2:=rv2.length;refine k4 (I.ok.hd hc) D st (show s.heap.IsTuple a1 its1.toArray from p1) p2.isList (g.imp (fun g=>by simp;omega) fun g=>by simp;omega) fun h' hk=>⟨rfl,QU I (fun b o hb eo=>hk b o (fun e=>hb (by simp [e])) (fun e=>hb (by simp [e])) (fun e=>hb (by simp [e])) (fun e=>hb (by simp [e])) eo) hf⟩
 self:=fun _ _ _ _ _ st h=>wpAny_pyIter_zip st.hz h
section
variable {X:Cx} {elts:List Expr} {n:Nat} {tpos p pos:Pos} {e1 e2:Expr} {f1 f2:TK}
def jcQ (f1 f2:TK):Sl->Res (List D):=fun env=>f1 env>>=fun d=>f2 env>>=fun e=>match d,e with
 | .tup xs,.lst ys=> .ok (wd xs ys)
 |_,_=> .stuck
def jen (hg:Gl X "zip") (hm:X.mg "zip" =none) (h1:DE X .s e1 f1) (h2:DE X .s e2 f2) (hs:aai [e1,e2] X.env=(false,eval e1 X.env)::aai [e2] X.env:=by exact jk rfl) (hs2:aai [e2] X.env=(false,eval e2 X.env)::aai [] X.env:=by exact jk rfl)
  (hpl:(abo pos (aai [e2] X.env)).any (·.1)=false:=by exact jz rfl):DI X (.Tuple elts n tpos) (.Call (.Name "zip" p) [e1,e2] [] pos) (jcQ f1 f2):=by
 have hE1:PE X e1 (tE X.K .s f1):=by with_unfolding_all exact h1
 have hE2:PE X e2 (tE X.K .s f2):=by with_unfolding_all exact h2
 with_unfolding_all exact (show PI X (.Tuple elts n tpos) (.Call (.Name "zip" p) [e1,e2] [] pos) (tI X.K (jcQ f1 f2)) from by
  rintro pins s σ H R I ⟨G,H0,env,ds,k,ef,q⟩;obtain ⟨d1,c1,ef⟩:=jd ef;obtain ⟨d2,c2,ef⟩:=jd ef;have hA:=qg hE1 (qg hE2 wJ hs2) hs;refine Call_ (XB I hg hm jae (acR (thn (hA pos pins s σ H (fun vs H2=> ∃v1 v2,vs=[v1,v2]/\Same H H2/\Rep X.K (Sf G env σ) H2 v1 d1/\Rep X.K (Sf G env σ) H2 v2 d2) I ⟨G,H0,env,d1,k,c1,fun v1 H1 s1 r1 _=>⟨G,H0,env,d2,k.grow s1,c2,fun v2 H2 s2 r2 _=>⟨v1,v2,rfl,s1.trans s2,r1.grow s2,r2⟩⟩⟩) fun us s1 ⟨vs,H1,I1,r1,v1,v2,ev,sm,rp1,rp2⟩=>?_) hs hpl));subst ev;obtain ⟨u1,u2,rfl,ru1,ru2⟩:=Yp r1;have k1:=k.grow sm
  split at ef
  · rename_i es1 es2;cases ef;obtain ⟨a1,xs,rfl,ha1,rs1⟩:=rp1.tupE;obtain ⟨a2,ys,rfl,ha2,w2,rs2⟩:=rp2.lstE;cases ru1;cases ru2;obtain ⟨its1,rv1,p1,_⟩:=I1.tuple (.inl (.of ha1));obtain ⟨its2,rv2,p2,_⟩:=I1.list (.of ha2);have lt1:a1<s1.heap.objs.size:=by obtain ⟨o,ho,_⟩:=p1;exact aar ho
    have lt2:a2<s1.heap.objs.size:=by obtain ⟨o,_,ho,_⟩:=p2;exact aar ho
    refine u0 (show s1.heap.IsTuple a1 its1.toArray from p1) p2.isList fun h' Z hk=>wpAny_pyIter_zip Z.hz ?_
    have I2:=I1.kept (t':=s1.toks) hk;refine ⟨s1.heap.objs.size+4,[s1.heap.objs.size+4,s1.heap.objs.size+2,s1.heap.objs.size+3,s1.heap.objs.size,s1.heap.objs.size+1],_,_,H1,rfl,I2,UO xs ys (PyProof.Rows.zipApart_new lt1 lt2),Z,fun b hb=>?_,?_⟩
    · have hb':s1.heap.objs.size<=b:=by
       simp at hb;rcases hb with rfl|rfl|rfl|rfl|rfl<;>first|exact abO _ _|exact aag _
      exact I1.fpOk hb' (I1.hok.fresh hb')
    · refine q _ H1 (fun H=>H a1=some (.tup xs)/\H a2=some (.lst ys)) sm (fun i H' pp=>?_) ⟨ha1,ha2⟩ fun env' σ' H' fr=>⟨fr.keep a1 _ ha1 fun ow=>(k1.mutO ow ha1).elim,fr.keep a2 _ ha2 fun ow=>w2.1 ow⟩
      have hl1:=rs1.length;have hl2:=rs2.length;have hq:SqT X.K H' a1 xs/\SqL X.K H' a2 ys:=⟨.inl (.of pp.1),.of pp.2⟩
      rw [Zt];refine ⟨fun hi=>⟨hq,by omega,by omega⟩,fun d hd x H2 y=>?_,fun hi=>⟨hq,by omega⟩⟩;obtain ⟨p,x',y',hp,hx',hy',rfl,rfl⟩:=y;obtain ⟨dx,dy,hdx,hdy,rfl⟩:=Zu _ _ _ _ hd;obtain ⟨d',hd',rd⟩:=rs1.get' hx';obtain ⟨d'',hd'',rd'⟩:=rs2.get' hy';rw [hdx] at hd';cases hd';rw [hdy] at hd'';cases hd'';exact .inr ⟨p,_,_,hp,rfl,rfl,rfl,.cons rd (.cons (rd'.weak fun _ z=>z.1) .nil)⟩
  · cases ef)
end
section
variable {X:Cx} {K:aab} {e a b:Expr} {pos:Pos} {l l1 l2:Lv} {f f1 f2:TK}
abbrev PowW:Int->Int->Prop:=fun i j=>0<=j/\(abE i:Int)*j<=134217728
def We:OpR X (abP .Pow) (rI PowW fun i j=> .int (i^j.toNat)):=opI fun _ _ _ _ _ _ _ hc q=>PyProof.Rows.pow_int hc.1 (adU hc.2 (by decide)) q
def Wp:OpS K (rI PowW fun i j=> .int (i^j.toNat)) (iOp PowW fun i j=> .int (i^j.toNat)):=od_I (fun _ _ h=>h) fun i j=>jhK _
def powW:D->D->Res D:=iOp PowW fun i j=> .int (i^j.toNat)
def jdV:PIp X .Mult (fun x y H Q=> ∃i j,x= .int i/\y= .int j/\MulC i j/\Q (.int (i*j)) H):=by
 intro pins s σ H x y v u Q I r1 r2 h;obtain ⟨i,j,e1,e2,hc,q⟩:=h;subst e1;subst e2;obtain ⟨t,rfl⟩:=r1;obtain ⟨t',rfl⟩:=r2;exact imul_int ⟨.int _,H,I.tok _,⟨_,rfl⟩,q⟩ (IntMulOk.of_le (aag _) (aag _) hc)
def jek (i:Nat) {x:Str} {pos':Pos} (hN:X.N.Nodup) (he:DE X l e f) (hi:X.N[i]?=some x:=by rfl) (hx:Loc X.env.scope x:=by first|exact acg rfl|exact abA rfl)
   (hf:T7 X x:=by first|exact .inl rfl|exact .inr rfl|assumption):
   DS X (.AugAssign (.Name x pos') .Mult e pos) (jC i (two (rdS i) f (iOp MulC fun i j=> .int (i*j)))):=by
 with_unfolding_all exact (
  PS.imp (jfs hN hi hx he jdV hf) fun E σ H=>by
   rintro ⟨G,H0,env,o,k,ef,q⟩;obtain ⟨d,e1,e2⟩:=jd ef;obtain ⟨a,e3,e4⟩:=jd e1;obtain ⟨b,e5,e6⟩:=jd e4;cases e2;obtain ⟨v,h1,h2⟩:=k.shr i a (ko e3);obtain ⟨m,n,rfl,rfl,hc,rfl⟩:=YW e6;refine ⟨v,h1,G,H0,env,_,k,e5,fun w H' s r _=>?_⟩;cases h2.intE;cases r.intE
   exact ⟨m,n,rfl,rfl,hc,q _ H' ((k.grow s).setS (.int _)) (.set s fun _ _ z _=>by cases z)⟩)
def twoX (f1 f2:TK) (g:D->D->Res D):Sl->Res D:=fun env=>f1 env>>=fun a=>nx1 (f2 env>>=fun b=>g a b)
def jgl {g:D->D->Res D} (ho:OpR X (abP op) r) (hr:OpS X.K r g) (ha:DEX X l1 a f1) (hb:DE X l2 b f2):DEX X l (.BinOp a op b pos) (twoX f1 f2 g):=by
 with_unfolding_all exact (
  PE.imp (jaO ho ha hb) fun σ H Q=>by
   rintro ⟨G,H0,env,k,q⟩;rcases q with ⟨d,ef,q⟩| ⟨c,ef,th⟩
   · obtain ⟨x,e1,e2⟩:=jd ef;obtain ⟨y,e3,e4⟩:=jd (KR e2);refine ⟨G,H0,env,k,.inl ⟨x,e1,fun v H1 s1 r1 _=>⟨G,H0,env,y,k.grow s1,e3,fun w H2 s2 r2 _=>?_⟩⟩⟩;exact hr _ _ H2 x y d Q ((r1.grow s2).weak Lv.weak_b) (r2.weak Lv.weak_b) e4 fun v sc=>q v H2 (s1.trans s2) (sc.1 _ _) sc.T
   · rcases yB ef with e1| ⟨d,e1,e2⟩
     · exact ⟨G,H0,env,k,.inr ⟨c,e1,th⟩⟩
     · exact (Ws e2).elim)
end
def DefMN (K:aab) (C:Addr) (m q:Str) (st:Stmt):Prop:= ∃(p T:Addr) (oc ot:Value) (od an odt:Option Addr) (osl osl2:Array (Option Value)) (kV doc pm cdv ct:Value) (n:Nat),
 abg K (.ref C) m=some (some (.ref p))/\aeu K (.ref p)=true/\K.lookup p=some ⟨oc,od,.func (abh m q (qw st) (jI st) (jh st) (.ref T) kV doc pm an cdv ct),osl⟩/\acp K cdv q=true/\aaZ K (.ref p)=true/\
 K.lookup T=some ⟨ot,odt,.seq #[.none] n,osl2⟩
abbrev TkN (x q:Str) (st:Stmt) (us:List Value) (ps:List Str) (ws:List Value):Prop:= ∀(T:Addr) (kV doc pm:Value) (an:Option Addr) (cdv ct:Value),∃k:Option (Array Value)->Sem (List (Str×Value)),
 bindArgs (abh x q (qw st) (jI st) (jh st) (.ref T) kV doc pm an cdv ct) ⟨us,[]⟩=(seqItems? (abh x q (qw st) (jI st) (jh st) (.ref T) kV doc pm an cdv ct).defaults>>=k)/\k (some #[.none])=pure (ps.zip ws)
section
variable {K:aab} {C:Addr} {m q:Str} {st:Stmt} {p1 p2 p3:Str}
def DefMN.d2 (d:DefMN K C m q st) (hb: ∀a b,TkN m q st [a,b] [p1,p2,p3] [a,b,.none]:=by intro _ _ _ _ _ _ _ _ _;exact ⟨_,rfl,rfl⟩):DmX K C m q st [p1,p2,p3] [.non]:=by
 obtain ⟨p,T,oc,ot,od,an,odt,osl,osl2,kV,doc,pm,cdv,ct,n,a1,a2,lk,hcd,kp,lt⟩:=d;refine ⟨p,oc,od,an,osl,_,kV,doc,pm,cdv,ct,[.non],[.none],lk,hcd,⟨a1,a2,kp⟩,fun s us KX hl=>?_,.cons rfl .nil,fun _ _=> .cons .non .nil⟩;have hl2:us.length=2:=by simpa using hl
 match us,hl2 with
 | [a,b],_=>
  obtain ⟨k,h1,h2⟩:=hb a b T kV doc pm an cdv ct;exact .of_defaults rfl (KX _ _ lt) rfl h1 h2
def DefMN.d3 (d:DefMN K C m q st) (hb: ∀a b c,TkN m q st [a,b,c] [p1,p2,p3] [a,b,c]:=by intro _ _ _ _ _ _ _ _ _ _;exact ⟨_,rfl,rfl⟩):DmX K C m q st [p1,p2,p3] []:=by
 obtain ⟨p,T,oc,ot,od,an,odt,osl,osl2,kV,doc,pm,cdv,ct,n,a1,a2,lk,hcd,kp,lt⟩:=d;refine ⟨p,oc,od,an,osl,_,kV,doc,pm,cdv,ct,[],[],lk,hcd,⟨a1,a2,kp⟩,fun s us KX hl=>?_,.nil,fun _ _=> .nil⟩
 match us,hl with
 | [a,b,c],_=>
  obtain ⟨k,h1,h2⟩:=hb a b c T kV doc pm an cdv ct;exact .of_defaults rfl (KX _ _ lt) rfl h1 h2
end
abbrev TkKN (x q:Str) (st:Stmt) (us:List Value) (kw:Str) (w:Value) (ps:List Str):Prop:= ∀(T:Addr) (kV doc pm:Value) (an:Option Addr) (cdv ct:Value),∃k:Option (Array Value)->Sem (List (Str×Value)),
 bindArgs (abh x q (qw st) (jI st) (jh st) (.ref T) kV doc pm an cdv ct) ⟨us,[(kw,w)]⟩=(seqItems? (abh x q (qw st) (jI st) (jh st) (.ref T) kV doc pm an cdv ct).defaults>>=k)/\k (some #[.none])=pure (ps.zip (us++[w]))
def DefMN.k3 {K:aab} {m:Str} {st:Stmt} {p1:Str} (d:DefMN K C m q st) (hb: ∀a b c,TkKN m q st [a,b] p3 c [p1,p2,p3]:=by intro _ _ _ _ _ _ _ _ _ _;exact ⟨_,rfl,rfl⟩):DmK K C m q st [p1,p2,p3] p3:=by
 obtain ⟨p,T,oc,ot,od,an,odt,osl,osl2,kV,doc,pm,cdv,ct,n,a1,a2,lk,hcd,kp,lt⟩:=d;refine ⟨p,oc,od,an,osl,_,kV,doc,pm,cdv,ct,lk,hcd,⟨a1,a2,kp⟩,fun s us w KX hl=>?_⟩;have hl2:us.length=2:=by simpa using hl
 match us,hl2 with
 | [a,b],_=>
  obtain ⟨k,h1,h2⟩:=hb a b w T kV doc pm an cdv ct;exact .of_defaults rfl (KX _ _ lt) rfl h1 h2
def jgz {K:aab} {m:Str} {st:Stmt} {k:Nat} (fr:Bool) (d:Dm K C m q st ps) (hC:aan K aam c=some (some (.ref C))/\Cls K C):AvM P w K mg base k c m ps fr (fun _=> .stuck):=by
 obtain ⟨f,fd,F,me,B⟩:=d;exact ⟨C,f,fd,⟨fun vs H Q E ⟨B,ds,d,hl,_⟩=>hl,fun A outer s H args us vs Q E _ _ _ _ ⟨B,ds,d,hl,rs,eF,_⟩=>by cases eF⟩,hC.1,hC.2,me,B⟩
section
variable {X:Cx} {c:Expr} {rest body:List Stmt} {pos:Pos} {g1 g2:TH} {t:TJ}
def jby:DSsY X [] nxO:=by
 with_unfolding_all exact (PSs.imp Z9 fun E σ H=>by
  rintro ⟨G,H0,env,k,q⟩;rcases q with ⟨o,ef,q⟩| ⟨c,ef,th⟩
  · cases ef;exact q σ H k (Frm.refl (Same.refl H))
  · cases ef)
def ifcY (t:TJ) (g1 g2:TH):Sl->Res Out:=fun env=>match t env with
 | .ok true=>g1 env>>=fun o=>match o with
  | .nx env'=>nx1 (g2 env')
  |o=> .ok o
 | .ok false=>g2 env
 |_=> .stuck
def Y7 (hc:DT X c t) (h1:DSsY X body g1) (hr:DSsY X rest g2):DSsY X (.If c body [] pos::rest) (ifcY t g1 g2):=by
 with_unfolding_all exact (PSs.imp (Ql (kA hc h1 Z9) hr) fun E σ H=>by
  rintro ⟨G,H0,env,k,q⟩;have key: ∃b,t env= .ok b/\ifcY t g1 g2 env=if b=true then (g1 env>>=fun o=>match o with
   | .nx env'=>nx1 (g2 env')
   |o=> .ok o) else g2 env:=by
   cases e1:t env with
   |ok b=>exact ⟨b,rfl,by unfold ifcY;rw [e1];cases b<;>rfl⟩
   |_=>
     have z:ifcY t g1 g2 env= .stuck:=by unfold ifcY;rw [e1]
     rcases q with ⟨o,ef,_⟩| ⟨c,ef,_⟩<;>(rw [z] at ef;cases ef)
  obtain ⟨b,e1,e2⟩:=key;rw [e2] at q;refine ⟨G,H0,env,b,k,e1,fun H' s=>?_⟩
  cases b with
  |true=>
   rw [if_pos rfl] at q ⊢;rcases q with ⟨o,ef,q⟩| ⟨c,ef,th⟩
   · obtain ⟨o1,c1,c2⟩:=jd ef;have q':=we (Frm.refl s) q;refine ⟨G,H0,env,k.grow s,.inl ⟨o1,c1,?_⟩⟩
     cases o1 with
     |nx env1=>exact fun σ' H'' k' f'=>⟨G,H0,env1,k',.inl ⟨o,KR c2,we f' q'⟩⟩
     |rt fr d=>cases c2;exact q'
     |bk e'=>cases c2;exact q'
     |ct e'=>cases c2;exact q'
   · rcases yB ef with c1| ⟨o1,c1,c2⟩
     · exact ⟨G,H0,env,k.grow s,.inr ⟨c,c1,th.grow s⟩⟩
     · cases o1 with
       |nx env1=>exact (Ws c2).elim
       |rt fr d=>cases c2
       |bk e'=>cases c2
       |ct e'=>cases c2
  |false=>
   rw [if_neg aaN] at q ⊢;rcases q with ⟨o,ef,q⟩| ⟨c,ef,th⟩
   · exact ⟨G,H0,env,k.grow s,.inl ⟨o,ef,we (Frm.refl s) q⟩⟩
   · exact ⟨G,H0,env,k.grow s,.inr ⟨c,ef,th.grow s⟩⟩)
end
section
variable {X:Cx} {k n:Nat} {c m kw:Str} {ps:List Str} {fr:Bool} {F:TD} {o e e2:Expr} {pos apos kpos:Pos} {fo f1 f2:TK} {pl:Sem Bool}
def AvMK.callX (A:AvMK X.prog X.w X.K X.mg X.base k c m ps kw fr F) (hr:Room k X.A) (ho:DE X .s o fo) (ha:DA X .s [e] (jc f1 nil1)) (h2:DE X .s e2 f2) (hn:ps.length=n:=by rfl)
   (hst:aai [e] X.env=(false,eval e X.env)::aai [] X.env:=by rfl) (hpl:((abo pos (aai [e] X.env)).any (·.1)|| (acs pos (abt [⟨some kw,e2,kpos⟩] X.env)).any (·.1.isNone))=false:=by rfl)
   (hall:(acs pos (abt [⟨some kw,e2,kpos⟩] X.env)).all (·.1.isSome)=true:=by rfl) (hks:(acs pos (abt [⟨some kw,e2,kpos⟩] X.env)).filterMap (·.1)=[kw]:=by rfl)
   (ht:eval (.Call (.Attribute o m apos) [e] [⟨some kw,e2,kpos⟩] pos) X.env=(do
     let ov←eval o X.env
     ae5 apos.atName
     let (f,first)←adW [ov] (getMethod ov m pl)
     callWith pos f first (abo pos (aai [e] X.env)) (acs pos (abt [⟨some kw,e2,kpos⟩] X.env))):=by rfl):DEX X .s (.Call (.Attribute o m apos) [e] [⟨some kw,e2,kpos⟩] pos) (wb c m n [] F fo (jc f1 (jc f2 nil1))):=by
 subst hn;obtain ⟨C,f,fd,g1,g2,g3,g4,g5⟩:=A.ex
 with_unfolding_all exact (by
 rintro pins s σ H Q I ⟨GG,H0,env,kk,q⟩
 have ns:wb c m ps.length [] F fo (jc f1 (jc f2 nil1)) env≠ .stuck:=by
   intro z;rcases q with ⟨o,ef,_⟩| ⟨c,ef,_⟩<;>(rw [z] at ef;cases ef)
 obtain ⟨nms,vs,ds,e1,e2',e3,e4,e5⟩:=Xu ns;rw [e5] at q;obtain ⟨d1,q1,e3⟩:=jd e3;obtain ⟨ds1,e3,q3⟩:=jd e3;obtain ⟨d2,q2,e3⟩:=jd e3;obtain ⟨ds2,e3,q4⟩:=jd e3;cases e3;cases q4;cases q3;refine adO (thn ((show PE X o (tE X.K .s fo) from ho) pins s σ H (fun v H1=>Same H H1/\Rep X.K (Sf GG env σ) H1 v (.obj c nms vs)) I ⟨GG,H0,env,_,kk,e1,fun v H' s' r' _=>⟨s',r'⟩⟩) fun u s1 ⟨x,H1,I1,rx,sm1,r1⟩=>?_) ht;obtain ⟨a,C',dx,fs,rfl,hx,_,hc,hn,rs⟩:=r1.objE;rw [g2] at hc;cases hc;obtain rfl:u=aau a:=rx;refine J5 I1 hx g3 g4 (Jz (by rw [hn];exact e2')) ?_;refine PySem.W.callWith_KW I.ok.mod.kin g4.kp hall (thn ((show PA X [e] (tA X.K .s (jc f1 nil1)) from ha) pos pins s1 σ H1 (fun vs H2=>Same H1 H2/\Reps X.K (Sf GG env σ) H2 vs [d1]) I1 ⟨GG,H0,env,[d1],kk.grow sm1,by show (f1 env>>=_)=_;rw [q1];rfl,fun vs H' s' r'=>⟨s',r'⟩⟩) fun us s2 ⟨ws,H2,I2,r,sm2,rws⟩=>?_) hpl hst;refine thn (jdj (show PE X e2 (tE X.K .s f2) from h2) jft pos pins s2 σ H2 (fun zs H3=>Same H2 H3/\Reps X.K (Sf GG env σ) H3 zs [d2]) I2 ⟨GG,H0,env,d2,(kk.grow sm1).grow sm2,q2,fun v H' s' r' _=>⟨s',.cons r' .nil⟩⟩) fun wus s3 ⟨zs,H3,I3,rz,sm3,rzs⟩=>⟨I3.kIn,?_⟩
 rw [hks];have rall:Reps X.K (Sf GG env σ) H3 (.ref a::(ws++zs)) [.obj c nms vs,d1,d2]:= .cons ((r1.grow sm2).grow sm3) ((rws.grow sm3).append rzs);have hlen:(V.ref a::(ws++zs)).length=ps.length:=by rw [rall.length];simpa using e4
 have lz:wus.length=1:=by rw [←rz.length,rzs.length];rfl
 have lw:us.length=1:=by rw [←r.length,rws.length];rfl
 have l3:ps.length=3:=by simpa using e4.symm
 match wus,lz,us,lw,rz,r with
 | [wv],_,[u1],_,rz,r=>
 have fin: ∀(E:XK),spX X.K fr ps.length F (.ref a::(ws++zs)) H3 Q E->(∀e s',CX1 X.prog X.w X.stack H3 s3 E e s'->X.xe e s')->wpAny (model X.prog X.w) X.A (PySem.call (.ref f) [.ref a,u1] [(kw,wv)]) (EP X pins σ Q) X.xe s3:=fun E hsp hx=>by
   refine adI (acI (g1.run X.A X.stack s3 H3 ⟨[.ref a,u1],[(kw,wv)]⟩ [.ref a,u1,wv] (.ref a::(ws++zs)) Q E hr I3.env0 (g5 s3 [.ref a,u1] wv I3.kIn (by rw [l3];rfl)) (.cons rfl (r.append rz)) hsp) fun r s' hq=>?_)
   cases r with
   |error e=>exact hx e s' hq
   |ok fl=>
     cases fl with
     |ret u=>exact I3.after hq
     |next=>exact abj hq
     |brk=>exact abj hq
     |cont=>exact abj hq
 rcases q with ⟨d,ef,q⟩| ⟨c',ef,th⟩
 · refine fin (fun _ _ _=>False) ⟨_,_,hlen,rall,.inl ⟨d,ef,fun v H4 s4 r4 nt=>?_⟩⟩ fun e s' cx=>?_
   · exact q v H4 (sm1.trans (sm2.trans (sm3.trans s4))) (r4.weak fun c z=>z.elim (fun z=>kk.new c (Same.free sm1 (Same.free sm2 (Same.free sm3 z)))) fun z=>z) trivial
   · obtain ⟨_,_,_,_,_,_,_,_,_,_,_,_,_,z⟩:=cx;exact z.elim
 · refine fin (XE X.K c' H3) ⟨_,_,hlen,rall,.inr ⟨c',ef,fun C H' hC s'=>⟨C,rfl,hC,s'⟩⟩⟩ fun e s' cx=>?_
   exact th pins H3 s3 e s' (sm1.trans (sm2.trans sm3)) I3 cx)
end
section
variable {X:Cx} {k:Nat} {x:Str} {F:TD} {pos p:Pos}
def Av.call0T (A:Av X.prog X.w X.K X.mg X.base k x [] true F) (hr:Room k X.A) (hg:Gl X x:=by rfl) (hdb:Z0 x:=by decide):DE X .t (.Call (.Name x p) [] [] pos) (jy 0 F nil1):=by
 obtain ⟨f,fd,h1,h2,h3,h4⟩:=A.ex
 with_unfolding_all exact (
 PE.imp (jaT (E:=E0) h1 hr hg h2 h3 h4 .nil Uh hdb) fun σ H Q=>by
  rintro ⟨GG,H0,env,d,k,ef,q⟩;obtain ⟨ds,e1,e2⟩:=jd ef;cases e1;obtain ⟨hn,e3⟩:=jq e2;show spF X.K true 0 F ([]++[]) H Q E0
  exact ⟨Sf GG env σ,[],d,rfl,.nil,e3,fun v H2 s2 r2 nt=>q v H2 s2 (r2.weak fun c z=>z.elim (fun z=>k.new c z) fun z=>z) (nt rfl)⟩)
end
section
variable {f f1 f2:TK} {fa:TF} {t t1 t2:TJ} {g ga gb:TH} {env env':Sl} {d x y z:D} {ds:List D} {b:Bool} {i:Nat}
def jg0 (h:env[i]?=some (.own d)):rdB i env= .ok d:=by unfold rdB;rw [h]
def wP {T:String} (h:f env= .ok x) (h2:isiD T x= .ok d):isiF T f env= .ok d:=by rw [WI,h];exact h2
def jhc (h:t env= .ok true) (h1:f1 env= .ok d):ifD t f1 f2 env= .ok d:=by rw [uq,h];exact h1
def jhd (h:t env= .ok false) (h1:f2 env= .ok d):ifD t f1 f2 env= .ok d:=by rw [uq,h];exact h1
def jel (h:f env= .ok d):jbE f env= .ok (.nx env):=by unfold jbE;rw [h];rfl
def jgC (h:t1 env= .ok false):andB t1 t2 env= .ok false:=by rw [uv,h];rfl
def jb1 (h:t1 env= .ok true) (h2:t2 env= .ok b):andB t1 t2 env= .ok b:=by rw [uv,h];exact h2
def or_t (h:t1 env= .ok true):orB t1 t2 env= .ok true:=by rw [XS,h];rfl
def or_f (h:t1 env= .ok false) (h2:t2 env= .ok b):orB t1 t2 env= .ok b:=by rw [XS,h];exact h2
def ue {es:List D} {k:Key} (h1:f env= .ok (.dic ks es)) (h2:f1 env= .ok x) (h3:f2 env= .ok y) (h4:get2 (.dic ks es) [x,y]= .ok z):uf f f1 f2 env= .ok z:=by
 unfold uf;rw [h1,xZ,h2,xZ,h3,xZ];exact h4
def Jb {i j:Int} (h:0<j/\j<2^200):divW (.int i) (.int j)= .ok (.int (i/j)):=XI (C:=DivW) h
def ixL0 (x:D) (r:List D):ixD (.lst (x::r)) (.int 0)= .ok x:=by
 simp only [ixD];rw [show ((0:Int))=((0:Nat):Int) from rfl,M.atI_nat];rfl
def ixL1 (x y:D) (r:List D):ixD (.lst (x::y::r)) (.int 1)= .ok y:=by
 simp only [ixD];rw [show ((1:Int))=((1:Nat):Int) from rfl,M.atI_nat];rfl
def KY {a b:Int}:neR (.int a) (.int b)= .ok (.bl (!(a==b))):=by
 unfold neR;rw [jo (show EqC (.int a) (.int b) from .inl ⟨rfl,rfl,by simp [D.dep]⟩)];simp [eqD]
def uj {n:Str} (h:fo env= .ok x) (h2:fldD c n x= .ok d):fldF c n fo env= .ok d:=by unfold fldF;rw [h];exact h2
def K3 {m:Str} {F:TD} {g:TF} {fs:List Str} {vs:List D} (h1:fo env= .ok (.obj c fs vs)) (h2:fs.contains m=false) (h3:g env= .ok ds) (h4:ds.length+1=n) (h5:F (.obj c fs vs::ds)= .ok d):Uq c m n F fo g env= .ok d:=by
 unfold Uq;rw [h1];refine (jo (c:=c=c/\fs.contains m=false) ⟨rfl,h2⟩).trans ?_;rw [h3];exact (jo (c:=ds.length+1=n) h4).trans h5
def jg6:powI (.int 10) (.int 6)= .ok (.int 1000000):=(Jq (by decide)).trans rfl
def jg5:powI (.int 10) (.int 7)= .ok (.int 10000000):=(Jq (by decide)).trans rfl
def jfF:powI (.int 10) (.int 15)= .ok (.int 1000000000000000):=(Jq (by decide)).trans rfl
def jeX (h:f1 env= .ok (.bl true)) (h2:f2 env= .ok d):toB f1 f2 true env= .ok d:=by rw [jgd,h];exact h2
def jdt {es:List D} (h:env[i]?=some (.own (.dic ks es))):ownK i env= .ok (ks,es):=by unfold ownK;rw [h]
def jem {es:List D} {k:Int} (h:env[i]?=some (.own (.dic ks es))) (h1:f2 env= .ok d) (h2:f1 env= .ok (.int k)) (h3:ks.length<aak):uE i f1 f2 env= .ok (.nx (env.set i (.own (.dic (Z6 ks (.inl k)) (Z7 ks es (.inl k) d))))):=by
 unfold uE;rw [jdt h,xZ,h1,xZ,h2,xZ];exact jo h3
end
section
variable {f f1 f2:TK} {fa:TF} {t t1 t2:TJ} {g ga gb:TH} {env env':Sl} {d x y z:D} {ds:List D} {b:Bool} {i:Nat} {c:Str}
def VH {o:Out} (h:g env= .ok o):Zp g env= .ok o:=by unfold Zp;rw [h];rfl
def ZH {r:Res Out} (h:t env= .ok b) (h1:(if b=true then ga env else gb env)=r):ifX t ga gb env=r:=by unfold ifX;rw [h];exact h1
def ui (h:fi env= .ok ds):forX fi tt g env=forD (xw tt g) ds env:=by unfold forX;rw [h]
def jau (h:tt d env= .ok env'):xw tt g d env=g env':=by unfold xw;rw [h]
def VI {F:TD} (h1:fa env= .ok ds) (hn:ds.length=n):callX n F fa env=F ds:=by unfold callX;rw [h1];exact jo hn
def jbY {F:TD} (h1:fa env= .ok ds) (hn:ds.length=n) (h2:F ds= .ok d):callX n F fa env= .ok d:=(VI h1 hn).trans h2
def Qn {m:Str} {F:TD} {fs:List Str} {vs:List D} (h1:f env= .ok (.obj c fs vs)) (h2:fs.contains m=false) (h3:fa env= .ok ds) (h4:ds.length+dfs.length+1=n):wb c m n dfs F f fa env=F (.obj c fs vs::(ds++dfs)):=by
 unfold wb;rw [h1];refine (if_pos ⟨rfl,h2⟩).trans ?_;rw [h3];exact jo h4
def U1 (h:ga env= .exc c):seqO ga gb env= .exc c:=by rw [Q5,h];rfl
def Jl (h:f env= .exc c):jC i f env= .exc c:=by rw [Vl,h];rfl
def jbm {body:D->Sl->Res Out} (h:body d env= .exc c):forD body (d::ds) env= .exc c:=by
 show (body d env>>=_)=_;rw [h];rfl
def jfg (h:g (qC n ds)= .ok (.rt true d)):runX fr n g ds= .ok d:=by unfold runX;rw [h];simp
def jfh (h:g (qC n ds)= .ok (.rt false d)):runX false n g ds= .ok d:=by unfold runX;rw [h];simp
def KA (h:g (qC n ds)= .exc c):runX fr n g ds= .exc c:=by unfold runX;rw [h]
end
end M
namespace G
open PySem PySem.Spec L2 M
open PyProof.Rows hiding St
def top (i:Nat):Stmt:=PySem.Challenge.pw_endwise_k42_values.main.body.getD i (.Pass ⟨0,0,0,0⟩)
abbrev xE:Stmt:=top 43
abbrev xC:Stmt:=top 44
abbrev zO:Stmt:=top 46
abbrev xB:Stmt:=top 47
abbrev QA:Stmt:=top 24
abbrev JV:Stmt:=top 23
abbrev QB:Stmt:=top 25
abbrev xz:Stmt:=top 38
abbrev wZ:Stmt:=top 37
abbrev xb:Stmt:=top 36
abbrev qD:Stmt:=WB (top 35) 0
abbrev JU:Stmt:=top 18
abbrev zd:Stmt:=top 39
abbrev Z1:Stmt:=top 26
abbrev xy:Stmt:=top 40
abbrev kf:Stmt:=top 27
abbrev ze:Stmt:=WB (top 35) 3
abbrev Yz:Stmt:=top 28
abbrev yQ:Stmt:=top 30
abbrev YA:Stmt:=top 29
abbrev qz:Stmt:=WB (top 35) 2
abbrev zf:Stmt:=WB (top 35) 7
abbrev yS:Stmt:=top 49
abbrev xD:Stmt:=top 50
abbrev wB:Stmt:=top 42
abbrev yR:Stmt:=top 45
abbrev xA:Stmt:=top 48
abbrev wA:Stmt:=top 51
abbrev Z2:Stmt:=top 52
def xO:Sl->Res Out:=
 (seqO (jC 1 (two (two (cI 10) (cI 60) powI) (two (cI 10) (cI 24) powI) mulI)) (retO (two (two (two (two (rdS 0) (two (cI 10) (cI 60) powI) modI) (cI 41) addD) (two (cI 23) (cI 64) powI) mulI) (rdS 1) modI)))
def wu:List D->Res D:=runF true 2 (xO)
def xN:Sl->Res Out:=
 (seqO (jC 1 (cS "abcdefghijklmnopqrstuvwxyz")) (seqO (jC 2 (two (cI 1) (two (rdS 0) (cI 8) modI) addD)) (seqO (jC 0 (two (rdS 0) (cI 8) divI)) (seqO (jC 3 (cS "")) (seqO (forO (rngF (jc (rdS 2) nil1)) (gN 4) (seqO (jC 3 (two (rdS 3) (two (rdS 1) (two (rdS 0) (cI 26) modI) ixD) addD)) (jC 0 (two (rdS 0) (cI 26) divI)))) (seqO (jC 5 (two (rdS 0) (rdS 2) modI)) (seqO (setO 6 (lstF nil1)) (seqO (forO (rngF (jc (cI 7) nil1)) (gN 4) (seqO (jC 7 (two (rdS 1) (two (two (smF (rdS 1) (jc (two (rdS 3) (rdS 5) ixD) nil1) jbq) (two (cI 5) (rdS 4) mulI) addD) (cI 26) modI) ixD)) (qx 6 (two (two (zF (rdS 3) Qg (yG (rdS 5)) slD) (rdS 7) addD) (zF (rdS 3) (yG (two (rdS 5) (cI 1) addD)) Qg slD) addD)))) (retO (rdO 6))))))))))
def yi:List D->Res D:=runF true 8 (xN)
def zU:Sl->Res Out:=
 (seqO (setO 2 (lstF nil1)) (seqO (setO 3 (lstF nil1)) (seqO (forO (rngF (jc (two (rdS 1) (cI 1) addD) nil1)) (gN 4) (seqO (setO 5 (lstF nil1)) (seqO (forO (rngF (jc (rdS 1) nil1)) (gN 6) (seqO (asgO (app (jc (rdS 0) (jc (cI 6) nil1)) qV) (g2 (gN 0) (gN 9))) (qx 5 (two (lstF (jc (cI 0) (jc (cI 0) (jc (cI 0) (jc (cI 1) (jc (cI 1) (jc (cI 2) nil1))))))) (rdS 9) ixD)))) (seqO (ifO (andB (asB (two (rdS 4) (rdS 1) ltI)) (asB (two (two (rdB 5) (rdS 4) ixD) (cI 0) eqR))) (jc1 5 (rdS 4) (cI 1)) nxO) (seqO (asgO (app (jc (rdS 0) (jc (cI 8) nil1)) qV) (g2 (gN 0) (gN 7))) (seqO (asgO (app (jc (rdS 0) (jc (cI 9) nil1)) qV) (g2 (gN 0) (gN 8))) (ifO (asB (two (app (jc (rdB 5) nil1) Qx) (rdB 3) (inLR true))) (seqO (qx 3 (chk (app (jc (rdB 5) nil1) Qx))) (qx 2 (tupF (jc (two (lstF (jc (cI 1) (jc (cI 1) (jc (cI 1) (jc (cI 1) (jc (two (cI 1) (rdS 8) addD) (jc (two (cI 1) (rdS 8) addD) (jc (cI 2) (jc (two (two (cI 10) (cI 30) powI) (rdS 8) subI) nil1))))))))) (rdS 7) ixD) (jc (chk (app (jc (rdB 5) nil1) Qx)) nil1))))) nxO))))))) (frzO 2 (retO (tupF (jc (rdS 2) (jc (rdS 0) nil1))))))))
def qZ:List D->Res D:=runF true 10 (zU)
def xM (zV:TD):Sl->Res Out:=
 (seqO (setO 2 (lstF nil1)) (seqO (forO (itF (rdS 1)) (gN 3) (seqO (asgO (jy 2 zV (jc (rdS 0) (jc (two (rdS 3) (cI 1) ixD) nil1))) (g2 (gN 4) (gN 0))) (qx 2 (tupF (jc (rdS 3) (jc (rdS 4) nil1)))))) (retO (rdO 2))))
def yh:List D->Res D:=runF true 5 (xM qZ)
def xL:Sl->Res Out:=
 (seqO (ifO (orB (notB (asB (isiF "str" (rdS 0)))) (notB (asB (yI (cI 1) (app (jc (rdS 0) nil1) lenD) (cI 8) leI leI)))) (retO (cB false)) nxO) (retO (app (jc (qQ false 1 [] (itF (rdS 0)) (gN 0) qp (two (rdS 0) (cS "abcdefghijklmnopqrstuvwxyz") inD)) nil1) allD)))
def JQ:List D->Res D:=runF true 1 (xL)
def ZJ:Sl->Res Out:=
 (retO (toB (isiF "int" (rdS 0)) (notF (isiF "bool" (rdS 0))) true))
def yE:List D->Res D:=runF true 1 (ZJ)
def QZ (Q0:TD) (qM:TD):Sl->Res Out:=
 (seqO (ifO (orB (notB (asB (isiF "tuple" (rdS 0)))) (asB (two (app (jc (rdS 0) nil1) lenD) (cI 2) neR))) (retO (cB false)) nxO) (retO (toB (jy 1 Q0 (jc (two (rdS 0) (cI 0) ixD) nil1)) (toB (jy 1 qM (jc (two (rdS 0) (cI 1) ixD) nil1)) (yI (cI 0) (two (rdS 0) (cI 1) ixD) (cI 9) leI leI) true) true)))
def Ze:List D->Res D:=runF true 1 (QZ JQ yE)
def xK (qM:TD):Sl->Res Out:=
 (seqO (ifO (orB (notB (asB (isiF "tuple" (rdS 0)))) (asB (two (app (jc (rdS 0) nil1) lenD) (cI 2) neR))) (retO (cB false)) nxO) (seqO (ifO (orB (notB (asB (jy 1 qM (jc (two (rdS 0) (cI 0) ixD) nil1)))) (notB (asB (yI (cI 1) (two (rdS 0) (cI 0) ixD) (two (cI 10) (cI 30) powI) leI leI)))) (retO (cB false)) nxO) (seqO (ifO (orB (notB (asB (isiF "tuple" (two (rdS 0) (cI 1) ixD)))) (asB (two (app (jc (two (rdS 0) (cI 1) ixD) nil1) lenD) (rdS 1) neR))) (retO (cB false)) nxO) (retO (app (jc (qQ false 1 [] (itF (two (rdS 0) (cI 1) ixD)) (gN 0) qp (toB (jy 1 qM (jc (rdS 0) nil1)) (yI (cI 0) (rdS 0) (cI 2) leI leI) true)) nil1) allD)))))
def wq:List D->Res D:=runF true 2 (xK yE)
def xh (Q1:TD) (xQ:TD):Sl->Res Out:=
 (seqO (ifO (orB (notB (asB (isiF "tuple" (rdS 0)))) (orB (asB (two (app (jc (rdS 0) nil1) lenD) (cI 2) neR)) (notB (asB (jy 1 Q1 (jc (two (rdS 0) (cI 0) ixD) nil1)))))) (retO (cB false)) nxO) (seqO (jC 1 (two (rdS 0) (cI 1) ixD)) (seqO (ifO (orB (notB (asB (isiF "list" (rdS 1)))) (notB (asB (yI (cI 1) (app (jc (rdS 1) nil1) lenD) (cI 40) leI leI)))) (retO (cB false)) nxO) (seqO (jC 2 (two (two (rdS 0) (cI 0) ixD) (cI 1) ixD)) (seqO (ifO (notB (asB (app (jc (qQ false 1 [2] (itF (rdS 1)) (gN 0) qp (jy 2 xQ (jc (rdS 0) (jc (rdS 1) nil1)))) nil1) allD))) (retO (cB false)) nxO) (seqO (ifO (asB (two (XA (qQ false 2 [] (itF (rdS 1)) (g2 (gN 0) (gN 1)) qp (rdS 1))) (app (jc (rdS 1) nil1) lenD) neR)) (retO (cB false)) nxO) (retO (app (jc (qQ false 1 [1] (rngF (jc (rdS 2) nil1)) (gN 0) qp (app (jc (qQ false 2 [0] (itF (rdS 1)) (g2 (gN 0) (gN 1)) qp (two (two (rdS 1) (rdS 2) ixD) (cI 0) gtI)) nil1) anyD)) nil1) allD))))))))
def zJ:List D->Res D:=runF true 3 (xh Ze wq)
def xi (xl:TD):Sl->Res Out:=
 (seqO (ifO (orB (notB (asB (isiF "list" (rdS 0)))) (asB (two (app (jc (rdS 0) nil1) lenD) (cI 60) gtI))) (retO (cB false)) nxO) (seqO (ifO (notB (asB (app (jc (qQ false 1 [] (itF (rdS 0)) (gN 0) qp (jy 1 xl (jc (rdS 0) nil1))) nil1) allD))) (retO (cB false)) nxO) (retO (two (XA (qQ false 1 [] (itF (rdS 0)) (gN 0) qp (two (rdS 0) (cI 0) ixD))) (app (jc (rdS 0) nil1) lenD) eqR))))
def jV:List D->Res D:=runF true 1 (xi zJ)
def jT (xm:TD):Sl->Res OutO:=
 (seqJ (ifJ (notB (asB (jy 1 xm (jc (rdS 1) nil1)))) Ks nxJ) (jfb 0 "Numbers" "products" (app (jc (qQ false 2 [] (itF (rdS 1)) (g2 (gN 0) (gN 1)) qp (tupF (jc (rdS 0) (jc (app (jc (rdS 1) nil1) vq) nil1)))) nil1) ZL)))
def jU:FO:=runJ 2 1 (jT jV)
def yu:Sl->Res Out:=
 (forX (itF (rdS 0)) (gN 2) (ifX (asB (two (rdS 2) (rdS 1) ninT)) (KH "NoHead") (Zp nxO)))
def jS:List D->Res D:=runX true 3 (yu)
def wQ:Sl->Res Out:=
 (retO (two (two (cI 10) (cI 60) powI) (cI 5) powW))
def jO:List D->Res D:=runF true 0 (wQ)
def Vh:Sl->Res Out:=
 (retO (ifD (asB (isiF "tuple" (rdS 0))) (zF (rdS 0) (yG (cI 1)) Qg slD) (tupF nil1)))
def xt:List D->Res D:=runF true 1 (Vh)
def xJ:Sl->Res Out:=
 (seqO (jC 3 (rdS 0)) (seqO (forO (jcQ (rdS 1) (rdS 2)) (g2 (gN 4) (gN 5)) (forO (rngF (jc (rdS 4) nil1)) (gN 6) (jC 3 (two (rdS 3) (rdS 5) mulI)))) (retS (rdS 3))))
def yg:List D->Res D:=runF false 7 (xJ)
def ug:Sl->Res Out:=
 (retO (ifD (asB (isiF "tuple" (rdS 0))) (tupF (jc (two (rdS 0) (cI 0) ixD) (jc (two (app (jc (rdS 0) nil1) lenD) (cI 1) subI) nil1))) cN))
def xv:List D->Res D:=runF true 1 (ug)
def qA (jD:TD) (jE:TD) (xk:TD) (xP:TD) (Q3:TD):Sl->Res Out:=
 (seqO (jC 3 (jy 0 jD nil1)) (seqO (ifO (notB (asB (isiF "tuple" (rdS 1)))) (retO (app (jc (uf (rdS 2) (rdS 1) (cI 1)) (jc (rdS 3) nil1)) minD)) nxO) (seqO (jC 4 (qQ false 1 [2,0] (itF (jy 1 xk (jc (rdS 1) nil1))) (gN 0) qp (Uq "Numbers" "worth" 3 jE (rdS 2) (jc (rdS 0) (jc (rdS 1) nil1))))) (retO (app (jc (app (jc (qQ false 2 [4] (itF (two (fldF "Numbers" "products" (rdB 0)) (jy 1 Q3 (jc (rdS 1) nil1)) getT)) (g2 (gN 0) (gN 1)) qp (jy 3 xP (jc (rdS 0) (jc (rdS 1) (jc (rdS 2) nil1))))) nil1) jax) (jc (rdS 3) nil1)) minD)))))
def jF:Nat->List D->Res D
 |0=>fun _=> .stuck
 |n+1=>runF true 5 (qA jO (jF n) xt yg xv)
def QY (xk:TD) (yZ:TD):Sl->Res Out:=
 (seqO (setO 1 (lstF (jc (rdS 0) nil1))) (seqO (forO (itF (jy 1 xk (jc (rdS 0) nil1))) (gN 2) (Q4 1 (jy 1 yZ (jc (rdS 2) nil1)))) (retO (rdO 1))))
def zD:Nat->List D->Res D
 |0=>fun _=> .stuck
 |n+1=>runF true 3 (QY xt (zD n))
def yY (yZ:TD) (Q3:TD):Sl->Res Out:=
 (seqO (setO 1 cDT) (seqO (forO (itF (rdS 0)) (gN 2) (forO (itF (jy 1 yZ (jc (rdS 2) nil1))) (gN 3) (ifO (asB (isiF "tuple" (rdS 3))) (XT 1 (jy 1 Q3 (jc (rdS 3) nil1)) (cB true)) nxO))) (frzO 1 (retO (app (jc (rdS 1) nil1) ZX)))))
def Jh:List D->Res D:=runF true 4 (yY (zD 64) xv)
def Y0 (y0:TD):Sl->Res Out:=
 (retO (jy 1 y0 (jc (lstF (jc (rdS 0) nil1)) nil1)))
def zE:List D->Res D:=runF true 1 (Y0 Jh)
def jN (wR:TD) (jE:TD) (Q2:TD) (jD:TD):Sl->Res Out:=
 (seqO (jbE (callX 2 wR (jc (jy 1 Q2 (jc (rdS 1) nil1)) (jc (fldF "Numbers" "products" (rdB 0)) nil1)))) (seqO (Zp (jC 3 (Uq "Numbers" "worth" 3 jE (rdS 0) (jc (rdS 1) (jc (ifD (asB (two (rdS 2) cN isN)) cD (rdS 2)) nil1))))) (seqO (ifX (asB (two (rdS 3) (jy 0 jD nil1) geI)) (KH "TooGreat") (Zp nxO)) (Zp (retS (rdS 3))))))
def jl:List D->Res D:=runX false 4 (jN jS (jF 64) zE jO)
def qB (jp:TD):Sl->Res Out:=
 (retO (twoX (wb "Numbers" "value" 3 [.non] jp (rdS 0) (jc (rdS 1) nil1)) (cI 1) subI))
def jP:List D->Res D:=runX true 2 (qB jl)
def zT (jp:TD) (zh:TD):Sl->Res Out:=
 (seqO (jC 4 cN) (seqO (jC 5 cN) (seqO (tryO ["NoHead", "TooGreat"] (ifcY (andB (asB (two (rdS 1) (cI 0) eqR)) (asB (two (two (app (jc (rdS 3) nil1) lenK) (cI 2) modI) (cI 1) eqR))) (jC 5 (wb "Numbers" "value" 3 [] jp (rdS 0) (jc (rdS 2) (jc (rdS 3) nil1)))) (ifcY (andB (asB (two (rdS 1) (cI 0) eqR)) (asB (two (two (app (jc (rdS 3) nil1) lenK) (cI 2) modI) (cI 0) eqR))) (jC 5 (wb "Numbers" "value" 3 [] jp (rdS 0) (jc (rdS 2) (jc (rdS 3) nil1)))) (ifcY (asB (two (rdS 1) (cI 1) eqR)) (jC 5 (wb "Numbers" "value" 3 [.non] jp (rdS 0) (jc (rdS 2) nil1))) (ifX (asB (two (rdS 1) (cI 2) eqR)) (jC 5 (wb "Numbers" "count" 2 [] zh (rdS 0) (jc (rdS 2) nil1))) nxO)))) 6 (jC 4 (rdS 6))) (seqO (ifO (asB (two (rdS 4) cN isN)) (retO (lstF (jc (rdS 5) nil1))) nxO) (seqO (ifO (asB (isyF [("NoHead",false),("TooGreat",false)] (rdS 4))) (retO (lstF nil1)) nxO) (seqO (ifO (orB (notB (asB (isxF ["NoHead", "TooGreat"] (rdS 4)))) (asB (two (isyF [("NoHead",true),("TooGreat",false)] (rdS 4)) (isyF [("NoHead",false),("TooGreat",true)] (rdS 4)) eqR))) (retO (lstF nil1)) nxO) (retO (tupF (jc (chk (app (jc (isyF [("NoHead",true),("TooGreat",false)] (rdS 4)) nil1) vK)) nil1)))))))))
def qk:List D->Res D:=runF true 7 (zT jl jP)
def zu (y4:TD):Sl->Res Out:=
 (seqO (jC 5 (jy 4 y4 (jc (rdS 0) (jc (rdS 1) (jc (rdS 2) (jc (rdS 3) nil1)))))) (seqO (ifO (asB (two (rdS 4) cN isN)) (retO (two (rdS 5) (tupF (jc (cI 1) nil1)) eqR)) nxO) (seqO (ifO (asB (two (rdS 4) (two (two (cI 10) (cI 60) powI) (cI 5) powW) geI)) (retO (two (rdS 5) (tupF (jc (cI 0) nil1)) eqR)) nxO) (seqO (ifO (orB (notB (asB (isiF "list" (rdS 5)))) (asB (two (rdS 5) (lstF (jc (two (rdS 4) (app (jc (two (rdS 1) (cI 2) eqR) nil1) vK) subI) nil1)) neR))) (retO (cB false)) nxO) (retO (toB (isiF "int" (two (rdS 5) (cI 0) ixD)) (notF (isiF "bool" (two (rdS 5) (cI 0) ixD))) true))))))
def jG:List D->Res D:=runF true 6 (zu qk)
def zm:Sl->Res Out:=
 (seqO (ifO (asB (two (rdS 1) (app (jc (rdS 0) nil1) lenD) ltI)) (retS (two (rdS 0) (rdS 1) ixD)) nxO) (retO (cI 0)))
def wG:List D->Res D:=runF false 2 (zm)
def zS (qJ:TD):Sl->Res Out:=
 (seqO (asgO (app (jc (rdS 0) (jc (two (app (jc (rdS 1) nil1) lenD) (cI 2) addD) nil1)) qV) (g2 (gN 0) (gN 6))) (seqO (ifO (orB (asB (two (rdS 6) (cI 2) ltI)) (asB (two (rdS 3) (cI 0) eqR))) (seqO (asgO (app (jc (rdS 0) (jc (app (jc (rdS 2) nil1) lenD) nil1)) qV) (g2 (gN 0) (gN 5))) (retO (tupF (jc (two (rdS 2) (rdS 5) ixD) (jc (rdS 0) nil1))))) nxO) (seqO (asgO (two (rdS 1) (two (rdS 6) (cI 2) subI) ixD) (g2 (gN 7) (gN 8))) (seqO (setO 4 (lstF nil1)) (seqO (forO (rngF (jc (rdS 8) nil1)) (gN 5) (seqO (asgO (jy 4 qJ (jc (rdS 0) (jc (rdS 1) (jc (rdS 2) (jc (two (rdS 3) (cI 1) subI) nil1))))) (g2 (gN 9) (gN 0))) (qx 4 (rdS 9)))) (retO (tupF (jc (chk (app (jc (two (lstF (jc (rdS 7) nil1)) (rdB 4) addD) nil1) Qx)) (jc (rdS 0) nil1)))))))))
def qj:Nat->List D->Res D
 |0=>fun _=> .stuck
 |n+1=>runF true 10 (zS (qj n))
def wj (qe:TD):Sl->Res Out:=
 (seqO (ifO (asB (isiF "int" (rdS 1))) (retS (uf (rdS 2) (rdS 1) (cI 1))) nxO) (seqO (jC 3 (qQ false 1 [0,2] (itF (zF (rdS 1) (yG (cI 1)) Qg slD)) (gN 0) qp (jy 3 qe (jc (rdS 1) (jc (rdS 0) (jc (rdS 2) nil1)))))) (seqO (jC 4 (cI 0)) (seqO (forO (itF (two (rdS 0) (tupF (jc (two (rdS 1) (cI 0) ixD) (jc (two (app (jc (rdS 1) nil1) lenD) (cI 1) subI) nil1))) getT)) (g2 (gN 5) (gN 6)) (seqO (forO (rngF (jc (app (jc (rdS 6) nil1) lenD) nil1)) (gN 7) (forO (rngF (jc (two (rdS 6) (rdS 7) ixD) nil1)) (gN 8) (jC 5 (two (rdS 5) (two (rdS 3) (rdS 7) ixD) mulI)))) (jC 4 (two (rdS 4) (rdS 5) addD)))) (retS (rdS 4))))))
def qy:Nat->List D->Res D
 |0=>fun _=> .stuck
 |n+1=>runF false 9 (wj (qy n))
def ql (j5:TD):Sl->Res Out:=
 (seqO (ifO (orB (asB (isiF "int" (rdS 1))) (asB (two (two (rdS 0) (cI 3) modI) (cI 0) eqR))) (retS (two (lstF (jc (tupF (jc (rdS 2) nil1)) (jc (tupF (jc (rdS 2) (jc (rdS 1) nil1))) (jc (tupF (jc (rdS 2) (jc (rdS 1) (jc (rdS 1) nil1)))) nil1)))) (two (two (rdS 0) (cI 3) divI) (cI 3) modI) ixD)) nxO) (seqO (ifO (asB (two (app (jc (rdS 1) nil1) lenD) (cI 1) eqR)) (retO (two (rdS 1) (two (tupF (jc (rdS 1) nil1)) (cI 9) jc6) addD)) nxO) (seqO (jC 3 (two (cI 1) (two (two (rdS 0) (cI 3) divI) (two (app (jc (rdS 1) nil1) lenD) (cI 1) subI) modI) addD)) (retO (two (two (zF (rdS 1) Qg (yG (rdS 3)) slD) (tupF (jc (jy 3 j5 (jc (two (rdS 0) (cI 9) divI) (jc (two (rdS 1) (rdS 3) ixD) (jc (rdS 2) nil1)))) nil1)) addD) (zF (rdS 1) (yG (two (rdS 3) (cI 1) addD)) Qg slD) addD)))))
def jQ:Nat->List D->Res D
 |0=>fun _=> .stuck
 |n+1=>runF false 4 (ql (jQ n))
def jd6 (zx:TD) (xS:TD) (xR:TD) (qE:FO) (qN:TD) (zn:TD) (qJ:TD) (qe:TD) (j5:TD):Sl->Res Out:=
 (seqO (jC 1 (jy 1 zx (jc (jy 2 zn (jc (rdS 0) (jc (cI 0) nil1))) nil1))) (seqO (jC 2 (jy 1 xS (jc (rdS 1) nil1))) (seqO (jC 3 (lstF (jc (tupF (jc (two (rdS 2) (cI 0) ixD) (jc (cI 0) nil1))) (jc (tupF (jc (two (rdS 2) (cI 1) ixD) (jc (cI 1) nil1))) (jc (tupF (jc (two (rdS 2) (cI 2) ixD) (jc (cI 2) nil1))) (jc (tupF (jc (two (rdS 2) (cI 3) ixD) (jc (two (cI 1) (two (two (rdS 1) (two (cI 10) (cI 15) powI) divW) (cI 3) modI) addD) nil1))) (jc (tupF (jc (two (rdS 2) (cI 4) ixD) (jc (cI 1) nil1))) nil1))))))) (seqO (setO 4 (jy 2 xR (jc (jy 1 zx (jc (jy 2 zn (jc (rdS 0) (jc (cI 1) nil1))) nil1)) (jc (zF (rdS 3) Qg (yG (cI 4)) slD) nil1)))) (seqO (qx 4 (tupF (jc (two (rdS 3) (cI 4) ixD) (jc (lstF (jc (tupF (jc (two (cI 10) (cI 30) powI) (jc (tupF (jc (cI 1) nil1)) nil1))) nil1)) nil1)))) (seqO (setO 5 cDT) (seqO (frzO 4 (forO (itF (rdS 4)) (g2 (gN 12) (gN 13)) (XT 5 (rdS 12) (rdS 13)))) (seqO (frzO 4 (jC 6 (jdN "Numbers" 1 qE (jc (rdS 4) nil1)))) (seqO (jC 7 (lstF (jc (two (rdS 1) (cI 1000) modI) (jc (two (two (rdS 1) (cI 1000) divW) (cI 1000) modI) (jc (two (lstF (jc (cI 7) (jc (two (rdS 1) (cI 1000) modI) nil1))) (two (two (rdS 1) (two (cI 10) (cI 6) powI) divW) (cI 2) modI) ixD) nil1))))) (seqO (forO (itF (zF (rdS 0) (yG (cI 2)) (yG (cI 42)) slS)) (gN 8) (seqO (asgO (app (jc (jy 1 zx (jc (rdS 8) nil1)) (jc (cI 24) nil1)) qV) (g2 (gN 17) (gN 18))) (seqO (asgO (jy 4 qJ (jc (rdS 17) (jc (zF (rdS 3) Qg (yG (cI 4)) slD) (jc (rdS 7) (jc (cI 3) nil1))))) (g2 (gN 9) (gN 17))) (seqO (setO 14 cD) (seqO (forO (rngF (jc (two (rdS 18) (cI 8) divW) nil1)) (gN 10) (seqO (jC 19 (two (lstF (jc (two (rdS 17) (cI 2) divW) (jc (two (rdS 17) (cI 7000) divW) nil1))) (rdS 10) ixD)) (uE 14 (two (rdS 7) (rdS 10) ixD) (two (cI 1) (two (lstF (jc (two (rdS 19) (cI 9) modI) (jc (two (rdS 19) (two (cI 10) (cI 30) powI) modI) nil1))) (two (rdS 17) (cI 2) modI) ixD) addD)))) (seqO (jC 15 (dupF 14)) (seqO (jC 16 (lstF (jc (chk (jy 3 qe (jc (rdB 5) (jc (rdS 9) (jc (rdB 14) nil1))))) (jc (chk (jy 3 qe (jc (rdB 5) (jc (rdS 9) (jc cD nil1))))) nil1)))) (seqO (ifO (asB (two (two (rdS 18) (cI 8) modI) (cI 0) eqR)) (seqO (jC 9 (jy 3 j5 (jc (rdS 17) (jc (rdS 9) (jc (two (rdS 2) (cI 5) ixD) nil1))))) (jC 16 (lstF (jc cN (jc cN nil1))))) nxO) (seqO (ifO (orB (notB (asB (jy 5 qN (jc (rdS 6) (jc (cI 0) (jc (rdS 9) (jc (rdB 14) (jc (two (rdS 16) (cI 0) ixD) nil1)))))))) (asB (two (rdB 14) (rdS 15) vc))) (retO (cB false)) nxO) (ifO (orB (notB (asB (jy 5 qN (jc (rdS 6) (jc (cI 1) (jc (rdS 9) (jc cD (jc (two (rdS 16) (cI 1) ixD) nil1)))))))) (notB (asB (jy 5 qN (jc (rdS 6) (jc (cI 2) (jc (rdS 9) (jc cD (jc (two (rdS 16) (cI 1) ixD) nil1))))))))) (retO (cB false)) nxO)))))))))) (seqO (jC 9 (two (rdS 7) (cI 0) ixD)) (seqO (forO (rngF (jc (cI 9) nil1)) (gN 10) (jC 9 (tupF (jc (two (rdS 2) (cI 4) ixD) (jc (rdS 9) nil1))))) (seqO (jC 11 (two (two (rdS 1) (two (cI 10) (cI 7) powI) divW) (cI 2) modI)) (retO (jy 5 qN (jc (rdS 6) (jc (cI 0) (jc (rdS 9) (jc (jbH (two (rdS 7) (cI 0) ixD) (two (two (cI 10) (cI 30) powI) (rdS 11) subI)) (jc (two (two (two (cI 10) (cI 60) powI) (cI 5) powW) (two (rdS 11) (two (two (cI 10) (cI 54) powI) (cI 5) powW) mulI) subI) nil1))))))))))))))))))))
def F_law:List D->Res D:=runF true 20 (jd6 wu yi yh jU jG wG (qj 6) (qy 64) (jQ 64))
structure Gm (K:aab) (TQ T4 T0 TY TU TN TM T3 TR TX TV TL TW T5:Addr) (mg:Yx):Prop where
 b_isinstance:mg "isinstance" =none
 b_bool:mg "bool" =none
 b_int:mg "int" =none
 b_all:mg "all" =none
 b_tuple:mg "tuple" =none
 b_len:mg "len" =none
 b_sorted:mg "sorted" =none
 b_sum:mg "sum" =none
 b_min:mg "min" =none
 b_set:mg "set" =none
 b_range:mg "range" =none
 b_any:mg "any" =none
 b_divmod:mg "divmod" =none
 b_str:mg "str" =none
 b_list:mg "list" =none
 b_dict:mg "dict" =none
 b_zip:mg "zip" =none
 b_ValueError:mg "ValueError" =none
 c_LETTERS: ∃t,mg "LETTERS" =some (.str "abcdefghijklmnopqrstuvwxyz" t)
 c_MOST_LETTERS: ∃t,mg "MOST_LETTERS" =some (.int 8 t)
 c_MOST_PLACES: ∃t,mg "MOST_PLACES" =some (.int 9 t)
 c_MOST_NUMBERED: ∃t,mg "MOST_NUMBERED" =some (.int 60 t)
 c_MOST_PRODUCTS: ∃t,mg "MOST_PRODUCTS" =some (.int 40 t)
 c_MOST_POWER: ∃t,mg "MOST_POWER" =some (.int 2 t)
 f_Numbers_products:FldN K "Numbers" "products"
 m_NoHead:mg "NoHead" =some (.ref TQ)
 m_TooGreat:mg "TooGreat" =some (.ref T4)
 m_TooMany:mg "TooMany" =some (.ref T0)
 m_TooLong:mg "TooLong" =some (.ref TY)
 m_NoText:mg "NoText" =some (.ref TU)
 m_NoStep:mg "NoStep" =some (.ref TN)
 m_NoRule:mg "NoRule" =some (.ref TM)
 m_NoReason:mg "NoReason" =some (.ref T3)
 m_NoPath:mg "NoPath" =some (.ref TR)
 m_NoPaper:mg "NoPaper" =some (.ref TX)
 m_NoPair:mg "NoPair" =some (.ref TV)
 m_NoName:mg "NoName" =some (.ref TL)
 m_NoLine:mg "NoLine" =some (.ref TW)
 m_EndError:mg "EndError" =some (.ref T5)
 n_NoHead:NmC K "NoHead" TQ
 q_NoHead:ac0 K TQ [.type "ValueError",.type "Exception",.type "BaseException",.type "object"] "ValueError.__new__" =true
 n_TooGreat:NmC K "TooGreat" T4
 q_TooGreat:ac0 K T4 [.type "ValueError",.type "Exception",.type "BaseException",.type "object"] "ValueError.__new__" =true
 x_EndError: ∀c,[("NoHead" :Str),("TooGreat" :Str)].contains c=true-> ∀C,NmC K c C->aeF K (.ref C) (.ref T5)=some true
 i_ValueError: ∀c,[("NoHead" :Str),("TooGreat" :Str)].contains c=true-> ∀C,NmC K c C->aaT K (.ref C) (.type "ValueError")=some true
 y_NoHead: ∀c b,aa6 c [(("NoHead" :Str),true),(("TooGreat" :Str),false)]=some b-> ∀C,NmC K c C->ExcC K C/\aaT K (.ref C) (.ref TQ)=some b
 y_TooGreat: ∀c b,aa6 c [(("NoHead" :Str),false),(("TooGreat" :Str),true)]=some b-> ∀C,NmC K c C->ExcC K C/\aaT K (.ref C) (.ref T4)=some b
 yt_0: ∀c b,aa6 c [(("NoHead" :Str),false),(("TooGreat" :Str),false)]=some b-> ∀C,NmC K c C->ExcC K C/\adN K (.ref C) (List.map aau [TW,TL,TV,TX,TR,T3,TM,TN,TU,TY,T0])=some b
def jhv:FnScope ["_law_cell", "_law_bound"] ["_law_cell"] (jh xE):=fsc
def jhx:FnScope ["_law_number", "_law_letters", "_law_size", "_law_first", "_law_k", "_law_at", "_law_names_here", "_law_sign"] ["_law_number"] (jh xC):=fsc
def jhz:FnScope ["_law_number", "_law_many", "_law_found", "_law_seen", "_law_k", "_law_powers", "_law_j", "_law_size", "_law_more", "_law_at"] ["_law_number", "_law_many"] (jh zO):=fsc
def jhy:FnScope ["_law_number", "_law_some", "_law_paper_here", "_law_one", "_law_products_here"] ["_law_number", "_law_some"] (jh xB):=fsc
def jhM:FnScope ["thing"] ["thing"] (jh QA):=fsc
def jhP:FnScope ["thing"] ["thing"] (jh JV):=fsc
def jhL:FnScope ["thing"] ["thing"] (jh QB):=fsc
def jhO:FnScope ["thing", "count"] ["thing", "count"] (jh xz):=fsc
def jhN:FnScope ["thing", "listed", "count"] ["thing"] (jh wZ):=fsc
def jhF:FnScope ["thing"] ["thing"] (jh xb):=fsc
def jhq:FnScope ["self", "products"] ["self", "products"] (jh qD):=fsc
def jhR:FnScope ["met", "known", "found"] ["met", "known"] (jh JU):=fsc
def jhH:FnScope [] [] (jh zd):=fsc
def jhV:FnScope ["term"] ["term"] (jh Z1):=fsc
def jhS:FnScope ["number", "powers", "below", "made", "power", "place", "turn"] ["number", "powers", "below"] (jh xy):=fsc
def jhI:FnScope ["term"] ["term"] (jh kf):=fsc
def jht:FnScope ["self", "term", "worths", "most", "below"] ["self", "term", "worths"] (jh ze):=fsc
def jhU:FnScope ["term", "found", "place"] ["term"] (jh Yz):=fsc
def jhE:FnScope ["terms", "met", "term", "found"] ["terms"] (jh yQ):=fsc
def jhJ:FnScope ["term"] ["term"] (jh YA):=fsc
def jhs:FnScope ["self", "term", "worths", "found"] ["self", "term", "worths"] (jh qz):=fsc
def jhr:FnScope ["self", "term"] ["self", "term"] (jh zf):=fsc
def jhA:FnScope ["_law_paper_here", "_law_way", "_law_term_here", "_law_given", "_law_error", "_law_found", "e"] ["_law_paper_here", "_law_way", "_law_term_here", "_law_given"] (jh yS):=fsc
def jhw:FnScope ["_law_paper_here", "_law_way", "_law_term_here", "_law_given", "_law_due", "_law_found"] ["_law_paper_here", "_law_way", "_law_term_here", "_law_given", "_law_due"] (jh xD):=fsc
def jhu:FnScope ["_law_script", "_law_k"] ["_law_script", "_law_k"] (jh wB):=fsc
def jhC:FnScope ["_law_number", "_law_some", "_law_leaves", "_law_deep", "_law_places", "_law_k", "_law_pick", "_law_name", "_law_many", "_law_place"] ["_law_number", "_law_some", "_law_leaves", "_law_deep"] (jh yR):=fsc
def jhD:FnScope ["_law_by_head", "_law_term_here", "_law_given", "_law_values", "_law_total", "_law_number", "_law_powers", "_law_k", "_law_j"] ["_law_by_head", "_law_term_here", "_law_given"] (jh xA):=fsc
def jhB:FnScope ["_law_number", "_law_term_here", "_law_name", "_law_at"] ["_law_number", "_law_term_here", "_law_name"] (jh wA):=fsc
def jhQ:FnScope ["_law_script", "_law_first", "_law_names_here", "_law_some", "_law_told", "_law_by_head", "_law_paper_here", "_law_holes", "_law_cell", "_law_term_here", "_law_k", "_law_less", "_law_one", "_law_products_here", "_law_given", "_law_kept", "_law_due", "_law_number", "_law_way", "_law_drawn"] ["_law_script"] (jh Z2):=fsc
section
variable (P:aay) (w:World) (K:aab) (mg:Yx) (base:Heap) (k:Nat)
abbrev yf (f:TD):Prop:=Av P w K mg base k "_law_great" ["_law_cell"] true f
abbrev yd (f:TD):Prop:=Av P w K mg base k "_law_names" ["_law_number"] true f
abbrev wa (f:TD):Prop:=Av P w K mg base k "_law_products" ["_law_number", "_law_many"] true f
abbrev yc (f:TD):Prop:=Av P w K mg base k "_law_paper" ["_law_number", "_law_some"] true f
abbrev Zc (f:TD):Prop:=Av P w K mg base k "is_name" ["thing"] true f
abbrev yD (f:TD):Prop:=Av P w K mg base k "is_whole" ["thing"] true f
abbrev Zd (f:TD):Prop:=Av P w K mg base k "is_head" ["thing"] true f
abbrev yb (f:TD):Prop:=Av P w K mg base k "is_product" ["thing", "count"] true f
abbrev xp (f:TD):Prop:=Av P w K mg base k "is_numbered" ["thing"] true f
abbrev xq (f:TD):Prop:=Av P w K mg base k "are_numbers" ["thing"] true f
abbrev qF (f:FO):Prop:=AvK P w K mg base k "Numbers" 1 f
abbrev yC (f:TD):Prop:=AvX P w K mg base k "look_for" ["met", "known"] true f
abbrev j8 (f:TD):Prop:=Av P w K mg base k "first_too_great" [] true f
abbrev Qv (f:TD):Prop:=Av P w K mg base k "places" ["term"] true f
abbrev ya (f:TD):Prop:=Av P w K mg base k "multiplied" ["number", "powers", "below"] false f
abbrev VP (f:TD):Prop:=Av P w K mg base k "head" ["term"] true f
abbrev j9 (f:TD):Prop:=AvM P w K mg base k "Numbers" "worth" ["self", "term", "worths"] true f
abbrev WX (f:TD):Prop:=Av P w K mg base k "parts" ["term"] true f
abbrev Jf (f:TD):Prop:=Av P w K mg base k "all_heads" ["terms"] true f
abbrev WY (f:TD):Prop:=Av P w K mg base k "heads" ["term"] true f
abbrev zl (f:TD):Prop:=AvMX P w K mg base k "Numbers" "value" ["self", "term", "worths"] [] false f
abbrev qY (f:TD):Prop:=AvMX P w K mg base k "Numbers" "value" ["self", "term", "worths"] [.non] false f
abbrev qX (f:TD):Prop:=AvMK P w K mg base k "Numbers" "value" ["self", "term", "worths"] "worths" false f
abbrev wX (f:TD):Prop:=AvMX P w K mg base k "Numbers" "count" ["self", "term"] [] true f
abbrev Jg (f:TD):Prop:=Av P w K mg base k "_law_said" ["_law_paper_here", "_law_way", "_law_term_here", "_law_given"] true f
abbrev ye (f:TD):Prop:=Av P w K mg base k "_law_meets" ["_law_paper_here", "_law_way", "_law_term_here", "_law_given", "_law_due"] true f
abbrev wF (f:TD):Prop:=Av P w K mg base k "_law_cell_at" ["_law_script", "_law_k"] false f
abbrev xr (f:TD):Prop:=Av P w K mg base k "_law_term" ["_law_number", "_law_some", "_law_leaves", "_law_deep"] true f
abbrev wp (f:TD):Prop:=Av P w K mg base k "_law_value" ["_law_by_head", "_law_term_here", "_law_given"] false f
abbrev zo (f:TD):Prop:=Av P w K mg base k "_law_strange" ["_law_number", "_law_term_here", "_law_name"] false f
end
section
variable {P:aay} {w:World} {K:aab} {mg:Yx} {base:Heap} {k:Nat} {C:Addr} {TQ T4 T0 TY TU TN TM T3 TR TX TV TL TW T5:Addr}
variable (T:Gm K TQ T4 T0 TY TU TN TM T3 TR TX TV TL TW T5 mg)
include T
theorem Wn (d:Dx K mg "_law_great" xE ["_law_cell"]):
  yf P w K mg base (k+1) (runF true 2 (xO)):=
 zY true d jhv fun f cdv A outer s H E hr=>
  (jf (by exact (jA 1 jhv.nd (o_s QH Xq (yU ib ib) (yU ib ib)))) (by exact (jj (jH (Kc (l:= .t) wK wL (ob QH Xq (DE.b (qO j7 qK (o_s wK wL (vb 0) (yU ib ib)) i_s)) (yU ib ib)) (vb 1))))))
theorem Wl (d:Dx K mg "_law_names" xC ["_law_number"]):
  yd P w K mg base (k+1) (runF true 8 (xN)):=
 zY true d jhx fun f cdv A outer s H E hr=>
  (jf (by exact (jA 1 jhx.nd (XV (l:= .s)))) (by exact (jf (by exact (jA 2 jhx.nd (DE.s (qO j7 qK i_s (o_s wK wL (vb 0) ib))))) (by exact (jf (by exact (jA 0 jhx.nd (o_s QI QL (vb 0) ib))) (by exact (jf (by exact (jA 3 jhx.nd (XV (l:= .s)))) (by exact (jf (by exact (q9 aaX rfl (qv rfl T.b_range (ja (vb 2) jg)) (jn 4 jhx.nd) (jf (by exact (jA 3 jhx.nd (DE.s (qO j7 qK (dv 3) (jX (dv 1) (Wr (vb 0) ib)))))) (by exact (jj (jA 0 jhx.nd (o_s QI QL (vb 0) ib))))))) (by exact (jf (by exact (jA 5 jhx.nd (o_s wK wL (vb 0) (vb 2)))) (by exact (jf (by exact (xU 6 jhx.nd (qu jg))) (by exact (jf (by exact (q9 aaX rfl (qv rfl T.b_range (ja ib jg)) (jn 4 jhx.nd) (jf (by exact (jA 7 jhx.nd (jX (dv 1) (Wr (DE.b (qO j7 qK (jhj (l':= .s) PySem.F.slot_str_find PySem.F.type_str_find jdL jdM (vb 1) (ja (by exact (DE.b (jX (dv 3) (vb 5)))) jg)) (o_s QH Xq ib (vb 4)))) ib)))) (by exact (jj (zW 6 (DE.s (qO j7 qK (DE.s (qO j7 qK (DE.s (wo (dv 3) xV (wC (vb 5)))) (dv 7))) (DE.s (wo (dv 3) (wC (DE.b (qO j7 qK (dv 5) i_s))) xV)))))))))) (by exact (jj (Y8 6))))))))))))))))))
theorem Qf (d:Dx K mg "_law_products" zO ["_law_number", "_law_many"]):
  wa P w K mg base (k+1) (runF true 10 (zU)):=
 zY true d jhz fun f cdv A outer s H E hr=>
  (jf (by exact (xU 2 jhz.nd (qu jg))) (by exact (jf (by exact (xU 3 jhz.nd (qu jg))) (by exact (jf (by exact (q9 aaX rfl (qv rfl T.b_range (ja (by exact (DE.b (qO j7 qK (dv 1) i_s))) jg)) (jn 4 jhz.nd) (jf (by exact (xU 5 jhz.nd (qu jg))) (by exact (jf (by exact (q9 aaX rfl (qv rfl T.b_range (ja (vb 1) jg)) (jn 6 jhz.nd) (jf (by exact (yM (DE.s (xo zj wW rfl T.b_divmod qP (ja (dv 0) (ja i_s jg)))) (zy rfl (jn 0 jhz.nd) (jn 9 jhz.nd)))) (by exact (jj (zW 5 (jX (DE.s (qu (ja i_s (ja i_s (ja i_s (ja i_s (ja i_s (ja i_s jg)))))))) (vb 9)))))))) (by exact (jf (by exact (qU (DW.dt (uy (jW jdw jdG (vb 4) (vb 1)) (Y6 (jW (zG (Room.u200 hr)) yH (DE.b (jgo 5 (vb 4))) ib)))) (jj (jbB 5 (vb 4) i_s)) jJ)) (by exact (jf (by exact (yM (DE.s (xo zj wW rfl T.b_divmod qP (ja (dv 0) (ja i_s jg)))) (zy rfl (jn 0 jhz.nd) (jn 7 jhz.nd)))) (by exact (jf (by exact (yM (DE.s (xo zj wW rfl T.b_divmod qP (ja (dv 0) (ja i_s jg)))) (zy rfl (jn 0 jhz.nd) (jn 8 jhz.nd)))) (by exact (jj (qU (jW (jdv (Room.u200 hr)) (jfL true) (zL zI Qu rfl T.b_tuple aaS (ja (db 5) jg)) (db 3)) (jf (by exact (zW 3 (DE.chk (l':= .s) (zL zI Qu rfl T.b_tuple aaS (ja (db 5) jg))))) (by exact (jj (zW 2 (DE.s (qf (ja (by exact (jX (DE.s (qu (ja i_s (ja i_s (ja i_s (ja i_s (ja (by exact (DE.s (qO j7 qK i_s (dv 8)))) (ja (by exact (DE.s (qO j7 qK i_s (dv 8)))) (ja i_s (ja (by exact (o_s yK yL (yU ib ib) (vb 8))) jg)))))))))) (vb 7))) (ja (by exact (DE.chk (l':= .s) (zL zI Qu rfl T.b_tuple aaS (ja (db 5) jg)))) jg)))))))) jJ)))))))))))))) (by exact (jj (Vt 2 (jH (qf (ja (dv 2) (ja (dv 0) jg))))))))))))
theorem Wj (d:Dx K mg "_law_paper" xB ["_law_number", "_law_some"]) (Zg:wa P w K mg base k zV):
  yc P w K mg base (k+1) (runF true 5 (xM zV)):=
 zY true d jhy fun f cdv A outer s H E hr=>
  (jf (by exact (xU 2 jhy.nd (qu jg))) (by exact (jf (by exact (q9 aaX rfl (qW (dv 1)) (jn 3 jhy.nd) (jf (by exact (yM (DE.s (by exact Av.callT Zg hr (ja (dv 0) (ja (by exact (jX (dv 3) ib)) jg)))) (zy rfl (jn 4 jhy.nd) (jn 0 jhy.nd)))) (by exact (jj (zW 2 (DE.s (qf (ja (dv 3) (ja (dv 4) jg)))))))))) (by exact (jj (Y8 2))))))
theorem Ui (d:Dx K mg "is_name" QA ["thing"]):
  Zc P w K mg base (k+1) (runF true 1 (xL)):=
 zY true d jhM fun f cdv A outer s H E hr=>
  (jf (by exact (qU (DW.dt (y7 (qG (qt (za (l':= .b) "str" "str" jbh (vb 0) rfl T.b_isinstance rfl T.b_str PyProof.Rows.boot_str))) (wm (qG (WN Zl Zo Zl Zo ib (jB (l':= .b) jR zA rfl T.b_len aa0 (ja (vb 0) jg)) (gi rfl T.c_MOST_LETTERS)))))) (jj (jH (Jc (l:= .t)))) jJ)) (by exact (jj (jH (jB (l':= .t) (xY rfl) X4 rfl T.b_all acv (ja (by exact (DE.b (zX false ["sign", "."] 1 [] (zC none rfl rfl (by decide+kernel) trivial rfl) rfl (qW (dv 0)) (fun C s₂ H₂ fp nd₂=>⟨(jn 0 nd₂),zB,(ZM (l:= .s) kR jfK (vb 0) (gst rfl T.c_LETTERS))⟩)))) jg))))))
theorem YO (d:Dx K mg "is_whole" JV ["thing"]):
  yD P w K mg base (k+1) (runF true 1 (ZJ)):=
 zY true d jhP fun f cdv A outer s H E hr=>
  (jj (jH (XZ (za (l':= .b) "int" "int" Qp (vb 0) rfl T.b_isinstance rfl T.b_int ab1) (Vx (jcH (l:= .t) (za (l':= .b) "bool" "bool" XG (vb 0) rfl T.b_isinstance rfl T.b_bool ae2))))))
theorem Uj (d:Dx K mg "is_head" QB ["thing"]) (jan:Zc P w K mg base k Q0) (yF:yD P w K mg base k qM):
  Zd P w K mg base (k+1) (runF true 1 (QZ Q0 qM)):=
 zY true d jhL fun f cdv A outer s H E hr=>
  (jf (by exact (qU (DW.dt (y7 (qG (qt (za (l':= .b) "tuple" "tuple" qL (vb 0) rfl T.b_isinstance rfl T.b_tuple aaS))) (wm (jW (Zw (Room.u200 hr)) Uk (jB (l':= .b) jR zA rfl T.b_len aa0 (ja (vb 0) jg)) ib)))) (jj (jH (Jc (l:= .t)))) jJ)) (by exact (jj (jH (XZ (DE.b (by exact Av.callT jan hr (ja (by exact (jX (dv 0) ib)) jg))) (XZ (DE.b (by exact Av.callT yF hr (ja (by exact (jX (dv 0) ib)) jg))) (Vx (Vz (l:= .t) Zl Zo Zl Zo ib (DE.b (jX (dv 0) ib)) (gi rfl T.c_MOST_PLACES)))))))))
theorem Wh (d:Dx K mg "is_product" xz ["thing", "count"]) (yF:yD P w K mg base k qM):
  yb P w K mg base (k+1) (runF true 2 (xK qM)):=
 zY true d jhO fun f cdv A outer s H E hr=>
  (jf (by exact (qU (DW.dt (y7 (qG (qt (za (l':= .b) "tuple" "tuple" qL (vb 0) rfl T.b_isinstance rfl T.b_tuple aaS))) (wm (jW (Zw (Room.u200 hr)) Uk (jB (l':= .b) jR zA rfl T.b_len aa0 (ja (vb 0) jg)) ib)))) (jj (jH (Jc (l:= .t)))) jJ)) (by exact (jf (by exact (qU (DW.dt (y7 (qG (qt (DE.b (by exact Av.callT yF hr (ja (by exact (jX (dv 0) ib)) jg))))) (wm (qG (WN Zl Zo Zl Zo ib (DE.b (jX (dv 0) ib)) (yU ib ib)))))) (jj (jH (Jc (l:= .t)))) jJ)) (by exact (jf (by exact (qU (DW.dt (y7 (qG (qt (za (l':= .b) "tuple" "tuple" qL (DE.b (jX (dv 0) ib)) rfl T.b_isinstance rfl T.b_tuple aaS))) (wm (jW (Zw (Room.u200 hr)) Uk (jB (l':= .b) jR zA rfl T.b_len aa0 (ja (by exact (DE.b (jX (dv 0) ib))) jg)) (vb 1))))) (jj (jH (Jc (l:= .t)))) jJ)) (by exact (jj (jH (jB (l':= .t) (xY rfl) X4 rfl T.b_all acv (ja (by exact (DE.b (zX false ["power", "."] 1 [] (zC none rfl rfl (by decide+kernel) trivial rfl) rfl (qW (jX (dv 0) ib)) (fun C s₂ H₂ fp nd₂=>⟨(jn 0 nd₂),zB,(XZ (DE.b (by exact Av.callT yF hr (ja (dv 0) jg))) (Vx (Vz (l:= .s) Zl Zo Zl Zo ib (vb 0) (gi rfl T.c_MOST_POWER))))⟩)))) jg))))))))))
theorem Zm (d:Dx K mg "is_numbered" wZ ["thing"]) (jao:Zd P w K mg base k Q1) (Ym:yb P w K mg base k xQ):
  xp P w K mg base (k+1) (runF true 3 (xh Q1 xQ)):=
 zY true d jhN fun f cdv A outer s H E hr=>
  (jf (by exact (qU (DW.dt (y7 (qG (qt (za (l':= .b) "tuple" "tuple" qL (vb 0) rfl T.b_isinstance rfl T.b_tuple aaS))) (y7 (jW (Zw (Room.u200 hr)) Uk (jB (l':= .b) jR zA rfl T.b_len aa0 (ja (vb 0) jg)) ib) (wm (qG (qt (DE.b (by exact Av.callT jao hr (ja (by exact (jX (dv 0) ib)) jg))))))))) (jj (jH (Jc (l:= .t)))) jJ)) (by exact (jf (by exact (jA 1 jhN.nd (jX (dv 0) ib))) (by exact (jf (by exact (qU (DW.dt (y7 (qG (qt (za (l':= .b) "list" "list" QT (vb 1) rfl T.b_isinstance rfl T.b_list yz))) (wm (qG (WN Zl Zo Zl Zo ib (jB (l':= .b) jR zA rfl T.b_len aa0 (ja (vb 1) jg)) (gi rfl T.c_MOST_PRODUCTS)))))) (jj (jH (Jc (l:= .t)))) jJ)) (by exact (jf (by exact (jA 2 jhN.nd (jX (jX (dv 0) ib) ib))) (by exact (jf (by exact (qU (qG (qt (jB (l':= .b) (xY rfl) X4 rfl T.b_all acv (ja (by exact (DE.b (zX false ["found", "count", "."] 1 [2] (zC none rfl rfl (by decide+kernel) ⟨rfl,trivial⟩ rfl) rfl (qW (dv 1)) (fun C s₂ H₂ fp nd₂=>⟨(jn 0 nd₂),zB,(DE.s (by exact Av.callT Ym hr (ja (dv 0) (ja (dv 1) jg))))⟩)))) jg)))) (jj (jH (Jc (l:= .t)))) jJ)) (by exact (jf (by exact (qU (jW (Zw (Room.u200 hr)) Uk (XW rfl (Room.u200 hr) (by exact (DE.b (zX false ["number", "powers", "."] 2 [] (zC none rfl rfl (by decide+kernel) trivial rfl) rfl (qW (dv 1)) (fun C s₂ H₂ fp nd₂=>⟨(zy rfl (jn 0 nd₂) (jn 1 nd₂)),zB,(dv 1)⟩)))) rfl T.b_len rfl T.b_set) (jB (l':= .b) jR zA rfl T.b_len aa0 (ja (vb 1) jg))) (jj (jH (Jc (l:= .t)))) jJ)) (by exact (jj (jH (jB (l':= .t) (xY rfl) X4 rfl T.b_all acv (ja (by exact (DE.b (zX false ["place", "listed", "."] 1 [1] (zC (some "place") rfl rfl (by decide+kernel) ⟨rfl,trivial⟩ rfl) rfl (qv rfl T.b_range (ja (vb 2) jg)) (fun C s₂ H₂ fp nd₂=>⟨(jn 0 nd₂),zB,(jB (l':= .s) (jad rfl) jgs rfl T.b_any PyProof.Rows.boot_any (ja (by exact (DE.b (zX false ["number", "powers", "place", "."] 2 [0] (zC none rfl rfl (by decide+kernel) ⟨rfl,trivial⟩ rfl) rfl (qW (dv 1)) (fun C s₂ H₂ fp nd₂=>⟨(zy rfl (jn 0 nd₂) (jn 1 nd₂)),zB,(ZM (l:= .s) jfG jfM (DE.b (jX (dv 1) (vb 2))) ib)⟩)))) jg))⟩)))) jg))))))))))))))))
theorem Zn (d:Dx K mg "are_numbers" xb ["thing"]) (W0:xp P w K mg base k xl):
  xq P w K mg base (k+1) (runF true 1 (xi xl)):=
 zY true d jhF fun f cdv A outer s H E hr=>
  (jf (by exact (qU (DW.dt (y7 (qG (qt (za (l':= .b) "list" "list" QT (vb 0) rfl T.b_isinstance rfl T.b_list yz))) (wm (jW jfG jfM (jB (l':= .b) jR zA rfl T.b_len aa0 (ja (vb 0) jg)) (gi rfl T.c_MOST_NUMBERED))))) (jj (jH (Jc (l:= .t)))) jJ)) (by exact (jf (by exact (qU (qG (qt (jB (l':= .b) (xY rfl) X4 rfl T.b_all acv (ja (by exact (DE.b (zX false ["found", "."] 1 [] (zC none rfl rfl (by decide+kernel) trivial rfl) rfl (qW (dv 0)) (fun C s₂ H₂ fp nd₂=>⟨(jn 0 nd₂),zB,(DE.s (by exact Av.callT W0 hr (ja (dv 0) jg)))⟩)))) jg)))) (jj (jH (Jc (l:= .t)))) jJ)) (by exact (jj (jH (ZM (l:= .t) (zG (Room.u200 hr)) yH (XW rfl (Room.u200 hr) (by exact (DE.b (zX false ["found", "."] 1 [] (zC none rfl rfl (by decide+kernel) trivial rfl) rfl (qW (dv 0)) (fun C s₂ H₂ fp nd₂=>⟨(jn 0 nd₂),zB,(jX (dv 0) ib)⟩)))) rfl T.b_len rfl T.b_set) (jB (l':= .b) jR zA rfl T.b_len aa0 (ja (vb 0) jg)))))))))
theorem xF (d:Dm K C "__init__" "Numbers.__init__" qD ["self", "products"]) (hC:aan K aam "Numbers" =some (some (.ref C))/\Cls K C) (hmg:mg "Numbers" =some (.ref C)) (mk:adu K C=true/\aaZ K (.ref C)=true) (W3:xq P w K mg base k xm):
  qF P w K mg base (k+1) (runJ 2 1 (jT xm)):=
 jgA d hC hmg mk jhq rfl (by decide) fun f cdv A outer s H E hr=>
  (uB (by exact (jgj (qG (qt (DE.b (by exact Av.callT W3 hr (ja (dv 1) jg))))) (Vs uC) jbz)) (by exact (Vs (jbA (i:=0) T.f_Numbers_products (by exact (DE.s (XY (UF rfl (jf4 hr)) jbT rfl T.b_dict ZP (ja (by exact (DE.s (zX false ["found", "listed", "."] 2 [] (zC none rfl rfl (by decide+kernel) trivial rfl) rfl (qW (dv 1)) (fun C s₂ H₂ fp nd₂=>⟨(zy rfl (jn 0 nd₂) (jn 1 nd₂)),zB,(DE.s (qf (ja (dv 0) (ja (by exact (DE.s (XY X7 jeA rfl T.b_list yz (ja (dv 1) jg)))) jg))))⟩)))) jg))))))))
theorem YN (d:Dx K mg "look_for" JU ["met", "known"]):
  yC P w K mg base (k+1) (runX true 3 (yu)):=
 jgv true d jhR fun f cdv A outer s H E hr=>
  (wn (jei PassesOwn.leaving rfl (qW (dv 0)) (jn 2 jhR.nd) (wn (uA (jW (jdu (XJ hr)) jdF (vb 2) (vb 1)) (wn (Q6 T.n_NoHead T.m_NoHead T.q_NoHead ac5 (XV (l:= .b)) (fun _=>⟨_,rfl⟩))) WO))))
theorem Ju (d:Dx K mg "first_too_great" zd []):
  j8 P w K mg base (k+1) (runF true 0 (wQ)):=
 zY true d jhH fun f cdv A outer s H E hr=>
  (jj (jH (Kc (l:= .t) We Wp (yU ib ib) ib)))
theorem kT (d:Dx K mg "places" Z1 ["term"]):
  Qv P w K mg base (k+1) (runF true 1 (Vh)):=
 zY true d jhV fun f cdv A outer s H E hr=>
  (jj (jH (Vy (qt (za (l':= .b) "tuple" "tuple" qL (vb 0) rfl T.b_isinstance rfl T.b_tuple aaS)) (wo (dv 0) (wC ib) xV) (qf jg))))
theorem Wg (d:Dx K mg "multiplied" xy ["number", "powers", "below"]):
  ya P w K mg base (k+1) (runF false 7 (xJ)):=
 zY false d jhS fun f cdv A outer s H E hr=>
  (jf (by exact (jA 3 jhS.nd (dv 0))) (by exact (jf (by exact (q9 aaX rfl (jen rfl T.b_zip (dv 1) (dv 2)) (zy rfl (jn 4 jhS.nd) (jn 5 jhS.nd)) (jj (q9 aaX rfl (qv rfl T.b_range (ja (vb 4) jg)) (jn 6 jhS.nd) (jj (jek 3 jhS.nd (vb 5))))))) (by exact (jj (Ja (dv 3)))))))
theorem jdB (d:Dx K mg "head" kf ["term"]):
  VP P w K mg base (k+1) (runF true 1 (ug)):=
 zY true d jhI fun f cdv A outer s H E hr=>
  (jj (jH (Vy (qt (za (l':= .b) "tuple" "tuple" qL (vb 0) rfl T.b_isinstance rfl T.b_tuple aaS)) (qf (ja (by exact (jX (dv 0) ib)) (ja (by exact (o_s yK yL (jB (l':= .b) jR zA rfl T.b_len aa0 (ja (vb 0) jg)) ib)) jg))) (JL (l:= .t)))))
theorem Jv (d:Dm K C "worth" "Numbers.worth" ze ["self", "term", "worths"]) (hC:aan K aam "Numbers" =some (some (.ref C))/\Cls K C) (qc:j8 P w K mg base k jD) (qd:j9 P w K mg base k jE) (WZ:Qv P w K mg base k xk) (Yl:ya P w K mg base k xP) (jap:VP P w K mg base k Q3):
  j9 P w K mg base (k+1) (runF true 5 (qA jD jE xk xP Q3)):=
 jgx true d hC jht fun f cdv A outer s H E hr=>
  (jf (by exact (jA 3 jht.nd (DE.s (by exact Av.call0T qc hr)))) (by exact (jf (by exact (qU (qG (qt (za (l':= .b) "tuple" "tuple" qL (vb 1) rfl T.b_isinstance rfl T.b_tuple aaS))) (jj (jH (jB (l':= .t) (X6 rfl) jcN rfl T.b_min Ye (ja (by exact (DE.b (uL (XJ hr) (dv 2) (vb 1) i_s))) (ja (vb 3) jg))))) jJ)) (by exact (jf (by exact (jA 4 jht.nd (DE.s (zX false ["place", "worths", "self", "."] 1 [2,0] (zC none rfl rfl (by decide+kernel) ⟨rfl,rfl,trivial⟩ rfl) rfl (qW (DE.s (by exact Av.callT WZ hr (ja (dv 1) jg)))) (fun C s₂ H₂ fp nd₂=>⟨(jn 0 nd₂),zB,(DE.s (by exact AvM.callT qd hr (dv 2) (by exact (ja (dv 0) (ja (dv 1) jg)))))⟩))))) (by exact (jj (jH (jB (l':= .t) (X6 rfl) jcN rfl T.b_min Ye (ja (by exact (jB (l':= .b) (u4 rfl) jez rfl T.b_sum jaf (ja (by exact (DE.b (zX false ["number", "powers", "below", "."] 2 [4] (zC none rfl rfl (by decide+kernel) ⟨rfl,trivial⟩ rfl) rfl (qW (uK (XJ hr) (by exact (Kd 0 T.f_Numbers_products)) (by exact (DE.b (by exact Av.callT jap hr (ja (dv 1) jg)))))) (fun C s₂ H₂ fp nd₂=>⟨(zy rfl (jn 0 nd₂) (jn 1 nd₂)),zB,(by exact Av.call Yl hr (ja (dv 0) (ja (dv 1) (ja (dv 2) jg))))⟩)))) jg))) (ja (vb 3) jg)))))))))))
theorem ja3 (d:Dx K mg "parts" Yz ["term"]) (WZ:Qv P w K mg base k xk) (Kk:WX P w K mg base k yZ):
  WX P w K mg base (k+1) (runF true 3 (QY xk yZ)):=
 zY true d jhU fun f cdv A outer s H E hr=>
  (jf (by exact (xU 1 jhU.nd (qu (ja (dv 0) jg)))) (by exact (jf (by exact (q9 aaX rfl (qW (DE.s (by exact Av.callT WZ hr (ja (dv 0) jg)))) (jn 2 jhU.nd) (jj (uD 1 (DE.s (by exact Av.callT Kk hr (ja (dv 2) jg))))))) (by exact (jj (Y8 1))))))
theorem Xn (d:Dx K mg "all_heads" yQ ["terms"]) (Kk:WX P w K mg base k yZ) (jap:VP P w K mg base k Q3):
  Jf P w K mg base (k+1) (runF true 4 (yY yZ Q3)):=
 zY true d jhE fun f cdv A outer s H E hr=>
  (jf (by exact (xU 1 jhE.nd XX)) (by exact (jf (by exact (q9 aaX rfl (qW (dv 0)) (jn 2 jhE.nd) (jj (q9 aaX rfl (qW (DE.s (by exact Av.callT Kk hr (ja (dv 2) jg)))) (jn 3 jhE.nd) (jj (qU (qt (za (l':= .b) "tuple" "tuple" qL (vb 3) rfl T.b_isinstance rfl T.b_tuple aaS)) (jj (Vu 1 (XJ hr) (DE.b (by exact Av.callT jap hr (ja (dv 3) jg))) (Jc (l:= .s)))) jJ)))))) (by exact (jj (Vt 1 (jH (xo (X5 rfl) UE rfl T.b_sorted Yc (ja (dv 1) jg)))))))))
theorem ja4 (d:Dx K mg "heads" YA ["term"]) (Km:Jf P w K mg base k y0):
  WY P w K mg base (k+1) (runF true 1 (Y0 y0)):=
 zY true d jhJ fun f cdv A outer s H E hr=>
  (jj (jH (by exact Av.callT Km hr (ja (by exact (DE.s (qu (ja (dv 0) jg)))) jg))))
theorem wf (d:DmX K C "value" "Numbers.value" qz ["self", "term", "worths"] dfs) (hC:aan K aam "Numbers" =some (some (.ref C))/\Cls K C) (J8:yC P w K mg base k wR) (qd:j9 P w K mg base k jE) (Kl:WY P w K mg base k Q2) (qc:j8 P w K mg base k jD):
  AvMX P w K mg base (k+1) "Numbers" "value" ["self", "term", "worths"] dfs false (runX false 4 (jN wR jE Q2 jD)):=
 jai false d hC jhs fun f cdv A outer s H E hr=>
  (wT (by exact (Vr (by exact AvX.callT J8 hr (ja (by exact (DE.s (by exact Av.callT Kl hr (ja (dv 1) jg)))) (ja (by exact (Kd 0 T.f_Numbers_products)) jg))))) (by exact (wT (by exact (DS.x (jA 3 jhs.nd (DE.s (by exact AvM.callT qd hr (dv 0) (by exact (ja (dv 1) (ja (by exact (Vy (jW KP KQ (vb 2) (JL (l:= .b))) (DE.s yy) (dv 2))) jg)))))))) (by exact (wT (by exact (uA (jW jdx jdH (vb 3) (DE.b (by exact Av.call0T qc hr))) (wn (Q6 T.n_TooGreat T.m_TooGreat T.q_TooGreat ac5 (XV (l:= .b)) (fun _=>⟨_,rfl⟩))) WO)) (by exact (wn (DS.x (Ja (dv 3))))))))))
theorem yT (d:DmK K C "value" "Numbers.value" qz ["self", "term", "worths"] "worths") (hC:aan K aam "Numbers" =some (some (.ref C))/\Cls K C) (J8:yC P w K mg base k wR) (qd:j9 P w K mg base k jE) (Kl:WY P w K mg base k Q2) (qc:j8 P w K mg base k jD):
  AvMK P w K mg base (k+1) "Numbers" "value" ["self", "term", "worths"] "worths" false (runX false 4 (jN wR jE Q2 jD)):=
 jeE false d hC jhs fun f cdv A outer s H E hr=>
  (wT (by exact (Vr (by exact AvX.callT J8 hr (ja (by exact (DE.s (by exact Av.callT Kl hr (ja (dv 1) jg)))) (ja (by exact (Kd 0 T.f_Numbers_products)) jg))))) (by exact (wT (by exact (DS.x (jA 3 jhs.nd (DE.s (by exact AvM.callT qd hr (dv 0) (by exact (ja (dv 1) (ja (by exact (Vy (jW KP KQ (vb 2) (JL (l:= .b))) (DE.s yy) (dv 2))) jg)))))))) (by exact (wT (by exact (uA (jW jdx jdH (vb 3) (DE.b (by exact Av.call0T qc hr))) (wn (Q6 T.n_TooGreat T.m_TooGreat T.q_TooGreat ac5 (XV (l:= .b)) (fun _=>⟨_,rfl⟩))) WO)) (by exact (wn (DS.x (Ja (dv 3))))))))))
theorem Jw (d:DmX K C "count" "Numbers.count" zf ["self", "term"] dfs) (hC:aan K aam "Numbers" =some (some (.ref C))/\Cls K C) (wY:zl P w K mg base k jp) (Ad_Numbers_o_value:qY P w K mg base k jp) (Ak_Numbers_o_value:qX P w K mg base k jp):
  AvMX P w K mg base (k+1) "Numbers" "count" ["self", "term"] dfs true (runX true 2 (qB jp)):=
 jai true d hC jhr fun f cdv A outer s H E hr=>
  (wn (jeh (jgl (l:= .t) yK yL (by exact (by exact AvMX.callG (l:= .s) (fun _=>trivial) Ad_Numbers_o_value hr (dv 0) (ja (dv 1) jg))) ib)))
theorem Xp (d:Dx K mg "_law_said" yS ["_law_paper_here", "_law_way", "_law_term_here", "_law_given"]) (wY:zl P w K mg base k jp) (Ad_Numbers_o_value:qY P w K mg base k jp) (Ak_Numbers_o_value:qX P w K mg base k jp) (J9:wX P w K mg base k zh):
  Jg P w K mg base (k+1) (runF true 7 (zT jp zh)):=
 zY true d jhA fun f cdv A outer s H E hr=>
  (jf (by exact (jA 4 jhA.nd (JL (l:= .s)))) (by exact (jf (by exact (jA 5 jhA.nd (JL (l:= .s)))) (by exact (jf (by exact (jgk ["NoHead", "TooGreat"] 6 jhA.nd (fun E' ps=>by exact (Y7 (DW.dt (uy (jW (zG (Room.u200 hr)) yH (vb 1) ib) (Y6 (jW (zG (Room.u200 hr)) yH (Wr (jB (l':= .b) X9 uU rfl T.b_len aa0 (ja (vb 3) jg)) ib) ib)))) (JK (Qs 5 jhA.nd (by exact AvMX.callG (l:= .s) (fun _=>trivial) wY hr (dv 0) (by exact (ja (dv 2) (ja (dv 3) jg)))))) (by exact (Y7 (DW.dt (uy (jW (zG (Room.u200 hr)) yH (vb 1) ib) (Y6 (jW (zG (Room.u200 hr)) yH (Wr (jB (l':= .b) X9 uU rfl T.b_len aa0 (ja (vb 3) jg)) ib) ib)))) (JK (Qs 5 jhA.nd (by exact AvMK.callX Ak_Numbers_o_value hr (dv 0) (ja (dv 2) jg) (dv 3)))) (by exact (Y7 (jW (zG (Room.u200 hr)) yH (vb 1) ib) (JK (Qs 5 jhA.nd (by exact AvMX.callG (l:= .s) (fun _=>trivial) Ad_Numbers_o_value hr (dv 0) (ja (dv 2) jg)))) (by exact (JK (jgi (jW (zG (Room.u200 hr)) yH (vb 1) ib) (JK (Qs 5 jhA.nd (DEX.s (by exact AvMX.callG (l:= .t) (fun h=>h rfl) J9 hr (dv 0) (ja (dv 2) jg))))) jby))))))))) (fun e=>by exact (jj (jA 4 jhA.nd (dv 6)))) T.m_EndError T.x_EndError)) (by exact (jf (by exact (qU (jW KP KQ (vb 4) (JL (l:= .b))) (jj (jH (qu (ja (dv 5) jg)))) jJ)) (by exact (jf (by exact (qU (qt (jeo (l':= .b) [("NoHead",false),("TooGreat",false)] [TW,TL,TV,TX,TR,T3,TM,TN,TU,TY,T0] T.yt_0 (vb 4) rfl T.b_isinstance (jcg (qT rfl T.m_NoLine (qT rfl T.m_NoName (qT rfl T.m_NoPair (qT rfl T.m_NoPaper (qT rfl T.m_NoPath (qT rfl T.m_NoReason (qT rfl T.m_NoRule (qT rfl T.m_NoStep (qT rfl T.m_NoText (qT rfl T.m_TooLong (qT rfl T.m_TooMany jdr)))))))))))) (hsz:=aaw (show 11<=20 by decide) (by decide)))) (jj (jH (qu jg))) jJ)) (by exact (jf (by exact (qU (DW.dt (y7 (qG (qt (jep (l':= .b) ["NoHead", "TooGreat"] "ValueError" "ValueError" T.i_ValueError (vb 4) rfl T.b_isinstance rfl T.b_ValueError Qh))) (wm (jW (zG (Room.u200 hr)) yH (uI (l':= .b) [("NoHead",true),("TooGreat",false)] "NoHead" T.y_NoHead (vb 4) rfl T.b_isinstance rfl T.m_NoHead) (uI (l':= .b) [("NoHead",false),("TooGreat",true)] "TooGreat" T.y_TooGreat (vb 4) rfl T.b_isinstance rfl T.m_TooGreat))))) (jj (jH (qu jg))) jJ)) (by exact (jj (jH (qf (ja (by exact (DE.chk (l':= .s) (zL Ya uV rfl T.b_int ab1 (ja (by exact (uI (l':= .b) [("NoHead",true),("TooGreat",false)] "NoHead" T.y_NoHead (vb 4) rfl T.b_isinstance rfl T.m_NoHead)) jg)))) jg))))))))))))))))
theorem Wm (d:Dx K mg "_law_meets" xD ["_law_paper_here", "_law_way", "_law_term_here", "_law_given", "_law_due"]) (Kn:Jg P w K mg base k y4):
  ye P w K mg base (k+1) (runF true 6 (zu y4)):=
 zY true d jhw fun f cdv A outer s H E hr=>
  (jf (by exact (jA 5 jhw.nd (DE.s (by exact Av.callT Kn hr (ja (dv 0) (ja (dv 1) (ja (dv 2) (ja (dv 3) jg)))))))) (by exact (jf (by exact (qU (jW KP KQ (vb 4) (JL (l:= .b))) (jj (jH (ZM (l:= .t) (zG (Room.u200 hr)) yH (vb 5) (DE.b (qf (ja i_s jg)))))) jJ)) (by exact (jf (by exact (qU (jW jdx jdH (vb 4) (ob We Wp (yU ib ib) ib)) (jj (jH (ZM (l:= .t) (zG (Room.u200 hr)) yH (vb 5) (DE.b (qf (ja i_s jg)))))) jJ)) (by exact (jf (by exact (qU (DW.dt (y7 (qG (qt (za (l':= .b) "list" "list" QT (vb 5) rfl T.b_isinstance rfl T.b_list yz))) (wm (jW (Zw (Room.u200 hr)) Uk (vb 5) (DE.b (qu (ja (by exact (o_s yK yL (vb 4) (zL Ya uV rfl T.b_int ab1 (ja (by exact (ZM (l:= .b) (zG (Room.u200 hr)) yH (vb 1) ib)) jg)))) jg))))))) (jj (jH (Jc (l:= .t)))) jJ)) (by exact (jj (jH (XZ (za (l':= .b) "int" "int" Qp (DE.b (jX (dv 5) ib)) rfl T.b_isinstance rfl T.b_int ab1) (Vx (jcH (l:= .t) (za (l':= .b) "bool" "bool" XG (DE.b (jX (dv 5) ib)) rfl T.b_isinstance rfl T.b_bool ae2))))))))))))))
theorem QK (d:Dx K mg "_law_cell_at" wB ["_law_script", "_law_k"]):
  wF P w K mg base (k+1) (runF false 2 (zm)):=
 zY false d jhu fun f cdv A outer s H E hr=>
  (jf (by exact (qU (jW jdw jdG (vb 1) (jB (l':= .b) jR zA rfl T.b_len aa0 (ja (vb 0) jg))) (jj (Ja (jX (dv 0) (vb 1)))) jJ)) (by exact (jj (jH (uJ (l:= .t))))))
theorem Xo (d:Dx K mg "_law_term" yR ["_law_number", "_law_some", "_law_leaves", "_law_deep"]) (Ji:xr P w K mg base k qJ):
  xr P w K mg base (k+1) (runF true 10 (zS qJ)):=
 zY true d jhC fun f cdv A outer s H E hr=>
  (jf (by exact (yM (DE.s (xo zj wW rfl T.b_divmod qP (ja (dv 0) (ja (by exact (DE.s (qO j7 qK (jB (l':= .s) jR zA rfl T.b_len aa0 (ja (vb 1) jg)) i_s))) jg)))) (zy rfl (jn 0 jhC.nd) (jn 6 jhC.nd)))) (by exact (jf (by exact (qU (DW.dt (y7 (jW jdw jdG (vb 6) ib) (wm (jW (zG (Room.u200 hr)) yH (vb 3) ib)))) (jf (by exact (yM (DE.s (xo zj wW rfl T.b_divmod qP (ja (dv 0) (ja (by exact (jB (l':= .s) jR zA rfl T.b_len aa0 (ja (vb 2) jg))) jg)))) (zy rfl (jn 0 jhC.nd) (jn 5 jhC.nd)))) (by exact (jj (jH (qf (ja (by exact (jX (dv 2) (vb 5))) (ja (dv 0) jg))))))) jJ)) (by exact (jf (by exact (yM (jX (dv 1) (ob yK yL (vb 6) ib)) (zy rfl (jn 7 jhC.nd) (jn 8 jhC.nd)))) (by exact (jf (by exact (xU 4 jhC.nd (qu jg))) (by exact (jf (by exact (q9 aaX rfl (qv rfl T.b_range (ja (vb 8) jg)) (jn 5 jhC.nd) (jf (by exact (yM (DE.s (by exact Av.callT Ji hr (ja (dv 0) (ja (dv 1) (ja (dv 2) (ja (by exact (o_s yK yL (vb 3) ib)) jg)))))) (zy rfl (jn 9 jhC.nd) (jn 0 jhC.nd)))) (by exact (jj (zW 4 (dv 9))))))) (by exact (jj (jH (qf (ja (by exact (DE.chk (l':= .s) (zL zI Qu rfl T.b_tuple aaS (ja (by exact (jgn j7 qK (DE.b (qu (ja (dv 7) jg))) (db 4))) jg)))) (ja (dv 0) jg)))))))))))))))
theorem Wi (d:Dx K mg "_law_value" xA ["_law_by_head", "_law_term_here", "_law_given"]) (wx:wp P w K mg base k qe):
  wp P w K mg base (k+1) (runF false 9 (wj qe)):=
 zY false d jhD fun f cdv A outer s H E hr=>
  (jf (by exact (qU (qt (za (l':= .b) "int" "int" Qp (vb 1) rfl T.b_isinstance rfl T.b_int ab1)) (jj (Ja (uL (XJ hr) (dv 2) (vb 1) i_s))) jJ)) (by exact (jf (by exact (jbC 3 jhD.nd false ["_law_place", "_law_by_head", "_law_given", "."] 1 [0,2] (zC none rfl rfl (by decide+kernel) ⟨rfl,rfl,trivial⟩ rfl) rfl (qW (DE.s (wo (dv 1) (wC ib) xV))) (fun C s₂ H₂ fp nd₂=>⟨(jn 0 nd₂),zB,(by exact Av.call wx hr (ja (dv 1) (ja (dv 0) (ja (dv 2) jg))))⟩))) (by exact (jf (by exact (jA 4 jhD.nd i_s)) (by exact (jf (by exact (q9 aaX rfl (qW (uK (XJ hr) (dv 0) (by exact (DE.b (qf (ja (by exact (jX (dv 1) ib)) (ja (by exact (o_s yK yL (jB (l':= .b) jR zA rfl T.b_len aa0 (ja (vb 1) jg)) ib)) jg))))))) (zy rfl (jn 5 jhD.nd) (jn 6 jhD.nd)) (jf (by exact (q9 aaX rfl (qv rfl T.b_range (ja (by exact (jB (l':= .b) jR zA rfl T.b_len aa0 (ja (vb 6) jg))) jg)) (jn 7 jhD.nd) (jj (q9 aaX rfl (qv rfl T.b_range (ja (by exact (DE.b (jX (dv 6) (vb 7)))) jg)) (jn 8 jhD.nd) (jj (jA 5 jhD.nd (o_s QH Xq (vb 5) (DE.b (jX (dv 3) (vb 7)))))))))) (by exact (jj (jA 4 jhD.nd (DE.s (qO j7 qK (dv 4) (dv 5))))))))) (by exact (jj (Ja (dv 4)))))))))))
theorem QJ (d:Dx K mg "_law_strange" wA ["_law_number", "_law_term_here", "_law_name"]) (wH:zo P w K mg base k j5):
  zo P w K mg base (k+1) (runF false 4 (ql j5)):=
 zY false d jhB fun f cdv A outer s H E hr=>
  (jf (by exact (qU (DW.dt (y7 (qt (za (l':= .b) "int" "int" Qp (vb 1) rfl T.b_isinstance rfl T.b_int ab1)) (wm (jW (zG (Room.u200 hr)) yH (Wr (vb 0) ib) ib)))) (jj (Ja (jX (DE.s (qu (ja (by exact (DE.s (qf (ja (dv 2) jg)))) (ja (by exact (DE.s (qf (ja (dv 2) (ja (dv 1) jg))))) (ja (by exact (DE.s (qf (ja (dv 2) (ja (dv 1) (ja (dv 1) jg)))))) jg))))) (Wr (ob QI QL (vb 0) ib) ib)))) jJ)) (by exact (jf (by exact (qU (jW (zG (Room.u200 hr)) yH (jB (l':= .b) jR zA rfl T.b_len aa0 (ja (vb 1) jg)) ib) (jj (jH (qO j7 qK (dv 1) (DE.s (qO jaY ja6 (DE.s (qf (ja (dv 1) jg))) i_s))))) jJ)) (by exact (jf (by exact (jA 3 jhB.nd (DE.s (qO j7 qK i_s (o_s wK wL (ob QI QL (vb 0) ib) (ob yK yL (jB (l':= .b) jR zA rfl T.b_len aa0 (ja (vb 1) jg)) ib)))))) (by exact (jj (jH (qO j7 qK (DE.s (qO j7 qK (DE.s (wo (dv 1) xV (wC (vb 3)))) (DE.s (qf (ja (by exact (by exact Av.call wH hr (ja (by exact (o_s QI QL (vb 0) ib)) (ja (by exact (jX (dv 1) (vb 3))) (ja (dv 2) jg))))) jg))))) (DE.s (wo (dv 1) (wC (DE.b (qO j7 qK (dv 3) i_s))) xV)))))))))))
theorem jfI (Fu:Fun K "law" "law" Z2 f fd) (yj:yf P w K mg base k zx) (Yo:yd P w K mg base k xS) (Yn:yc P w K mg base k xR) (yJ:qF P w K mg base zq qE) (xI:zq+1<=k) (wy:ye P w K mg base k qN) (yO:wF P w K mg base k zn) (Ji:xr P w K mg base k qJ) (wx:wp P w K mg base k qe) (wH:zo P w K mg base k j5):
  FnOk P w K mg base CX0 (k+1) f fd ["_law_script"] (spF K true 1 (runF true 20 (jd6 zx xS xR qE qN zn qJ qe j5))):=
 UA true Fu jhQ fun cdv A outer s H E hr=>
  (jf (by exact (jA 1 jhQ.nd (DE.s (by exact Av.callT yj hr (ja (by exact (by exact Av.call yO hr (ja (dv 0) (ja i_s jg)))) jg))))) (by exact (jf (by exact (jA 2 jhQ.nd (DE.s (by exact Av.callT Yo hr (ja (dv 1) jg))))) (by exact (jf (by exact (jA 3 jhQ.nd (DE.s (qu (ja (by exact (DE.s (qf (ja (by exact (jX (dv 2) ib)) (ja i_s jg))))) (ja (by exact (DE.s (qf (ja (by exact (jX (dv 2) ib)) (ja i_s jg))))) (ja (by exact (DE.s (qf (ja (by exact (jX (dv 2) ib)) (ja i_s jg))))) (ja (by exact (DE.s (qf (ja (by exact (jX (dv 2) ib)) (ja (by exact (DE.s (qO j7 qK i_s (o_s wK wL (kX (vb 1) (yU ib ib)) ib)))) jg))))) (ja (by exact (DE.s (qf (ja (by exact (jX (dv 2) ib)) (ja i_s jg))))) jg))))))))) (by exact (jf (by exact (xU 4 jhQ.nd (by exact Av.callT Yn hr (ja (by exact (DE.s (by exact Av.callT yj hr (ja (by exact (by exact Av.call yO hr (ja (dv 0) (ja i_s jg)))) jg)))) (ja (by exact (DE.s (wo (dv 3) xV (wC ib)))) jg))))) (by exact (jf (by exact (zW 4 (DE.s (qf (ja (by exact (jX (dv 3) ib)) (ja (by exact (DE.s (qu (ja (by exact (DE.s (qf (ja (by exact (o_s jci jck ib ib)) (ja (by exact (DE.s (qf (ja i_s jg)))) jg))))) jg)))) jg)))))) (by exact (jf (by exact (xU 5 jhQ.nd XX)) (by exact (jf (by exact (Vt 4 (q9 aaX rfl (qW (dv 4)) (zy rfl (jn 12 jhQ.nd) (jn 13 jhQ.nd)) (jj (Vu 5 (XJ hr) (vb 12) (dv 13)))))) (by exact (jf (by exact (Vt 4 (jA 6 jhQ.nd (DE.s (by exact AvK.make yJ (hr.mono xI) (ja (dv 4) jg)))))) (by exact (jf (by exact (jA 7 jhQ.nd (DE.s (qu (ja (by exact (o_s wK wL (vb 1) ib)) (ja (by exact (o_s wK wL (kX (vb 1) ib) ib)) (ja (by exact (jX (DE.s (qu (ja i_s (ja (by exact (o_s wK wL (vb 1) ib)) jg)))) (Wr (kX (vb 1) (yU ib ib)) ib))) jg))))))) (by exact (jf (by exact (q9 aaX rfl (qW (DE.s (uH (dv 0) (wC ib) (wC ib)))) (jn 8 jhQ.nd) (jf (by exact (yM (DE.s (xo zj wW rfl T.b_divmod qP (ja (by exact (DE.s (by exact Av.callT yj hr (ja (dv 8) jg)))) (ja i_s jg)))) (zy rfl (jn 17 jhQ.nd) (jn 18 jhQ.nd)))) (by exact (jf (by exact (yM (DE.s (by exact Av.callT Ji hr (ja (dv 17) (ja (by exact (DE.s (wo (dv 3) xV (wC ib)))) (ja (dv 7) (ja i_s jg)))))) (zy rfl (jn 9 jhQ.nd) (jn 17 jhQ.nd)))) (by exact (jf (by exact (xU 14 jhQ.nd yy)) (by exact (jf (by exact (q9 aaX rfl (qv rfl T.b_range (ja (by exact (kX (vb 18) ib)) jg)) (jn 10 jhQ.nd) (jf (by exact (jA 19 jhQ.nd (jX (DE.s (qu (ja (by exact (o_s Wf Wq (vb 17) ib)) (ja (by exact (o_s Wf Wq (vb 17) ib)) jg)))) (vb 10)))) (by exact (jj (jej 14 (XJ hr) (DE.b (jX (dv 7) (vb 10))) (DE.s (qO j7 qK i_s (jX (DE.s (qu (ja (by exact (o_s wK wL (vb 19) ib)) (ja (by exact (o_s wK wL (vb 19) (yU ib ib))) jg)))) (Wr (vb 17) ib)))))))))) (by exact (jf (by exact (jA 15 jhQ.nd (DE.s (jbK 14 rfl T.b_dict)))) (by exact (jf (by exact (jA 16 jhQ.nd (DE.s (qu (ja (by exact (DE.chk (l':= .s) (by exact Av.callA wx hr (ja (db 5) (ja (vb 9) (ja (db 14) jg)))))) (ja (by exact (DE.chk (l':= .s) (by exact Av.callA wx hr (ja (db 5) (ja (vb 9) (ja (DE.b yy) jg)))))) jg)))))) (by exact (jf (by exact (qU (jW (zG (Room.u200 hr)) yH (Wr (vb 18) ib) ib) (jf (by exact (jA 9 jhQ.nd (by exact Av.call wH hr (ja (dv 17) (ja (dv 9) (ja (by exact (jX (dv 2) ib)) jg)))))) (by exact (jj (jA 16 jhQ.nd (DE.s (qu (ja (JL (l:= .s)) (ja (JL (l:= .s)) jg)))))))) jJ)) (by exact (jf (by exact (qU (DW.dt (y7 (qG (qt (by exact Av.callA wy hr (ja (vb 6) (ja ib (ja (vb 9) (ja (db 14) (ja (by exact (DE.b (jX (dv 16) ib))) jg)))))))) (wm (jW (ja0 (Room.u200 hr)) ja7 (db 14) (vb 15))))) (jj (jH (Jc (l:= .t)))) jJ)) (by exact (jj (qU (DW.dt (y7 (qG (qt (DE.b (by exact Av.callT wy hr (ja (dv 6) (ja i_s (ja (dv 9) (ja (DE.s yy) (ja (by exact (jX (dv 16) ib)) jg))))))))) (wm (qG (qt (DE.b (by exact Av.callT wy hr (ja (dv 6) (ja i_s (ja (dv 9) (ja (DE.s yy) (ja (by exact (jX (dv 16) ib)) jg)))))))))))) (jj (jH (Jc (l:= .t)))) jJ)))))))))))))))))))) (by exact (jf (by exact (jA 9 jhQ.nd (jX (dv 7) ib))) (by exact (jf (by exact (q9 aaX rfl (qv rfl T.b_range (ja ib jg)) (jn 10 jhQ.nd) (jj (jA 9 jhQ.nd (DE.s (qf (ja (by exact (jX (dv 2) ib)) (ja (dv 9) jg)))))))) (by exact (jf (by exact (jA 11 jhQ.nd (o_s wK wL (kX (vb 1) (yU ib ib)) ib))) (by exact (jj (jH (by exact Av.callT wy hr (ja (dv 6) (ja i_s (ja (dv 9) (ja (by exact (DE.s (jbJ (by exact (DE.b (jX (dv 7) ib))) (by exact (o_s yK yL (yU ib ib) (vb 11)))))) (ja (by exact (o_s yK yL (ob We Wp (yU ib ib) ib) (ob QH Xq (vb 11) (ob We Wp (yU ib ib) ib)))) jg))))))))))))))))))))))))))))))))))
end
def all_mk {l:ae9} {w:World} {K:aab} {fa p28:Addr} (KX:K.In h) (G:h.Ns aam mg) (hfa:mg "law" =some (.ref fa))
  {od28 an28:Option Addr} {sl28:Array (Option Value)} {oc28 kV28 dc28 pm28 cd28 ct28:Value} {TQ T4 T0 TY TU TN TM T3 TR TX TV TL TW T5:Addr} {TZ:Addr}
  (d0:DefN K "_law_great" xE)
  (d1:DefN K "_law_names" xC)
  (d2:DefN K "_law_products" zO)
  (d3:DefN K "_law_paper" xB)
  (d4:DefN K "is_name" QA)
  (d5:DefN K "is_whole" JV)
  (d6:DefN K "is_head" QB)
  (d7:DefN K "is_product" xz)
  (d8:DefN K "is_numbered" wZ)
  (d9:DefN K "are_numbers" xb)
  (d10:DefM K TZ "__init__" "Numbers.__init__" qD)
  (d11:DefN K "look_for" JU)
  (d12:DefN K "first_too_great" zd)
  (d13:DefN K "places" Z1)
  (d14:DefN K "multiplied" xy)
  (d15:DefN K "head" kf)
  (d16:DefM K TZ "worth" "Numbers.worth" ze)
  (d17:DefN K "parts" Yz)
  (d18:DefN K "all_heads" yQ)
  (d19:DefN K "heads" YA)
  (d20:DefMN K TZ "value" "Numbers.value" qz)
  (d21:DefM K TZ "count" "Numbers.count" zf)
  (d22:DefN K "_law_said" yS)
  (d23:DefN K "_law_meets" xD)
  (d24:DefN K "_law_cell_at" wB)
  (d25:DefN K "_law_term" yR)
  (d26:DefN K "_law_value" xA)
  (d27:DefN K "_law_strange" wA)
  (a28:aan K aam "law" =some (some (.ref p28))) (l28:K.lookup p28=some ⟨oc28,od28,.func (abh "law" "law" (qw Z2) (jI Z2) (jh Z2) .none kV28 dc28 pm28 an28 cd28 ct28),sl28⟩) (c28:acp K cd28 "law" =true) (k28:aaZ K (.ref p28)=true)
  (z0:aan K aam "isinstance" =some none)
  (z1:aan K aam "bool" =some none)
  (z2:aan K aam "int" =some none)
  (z3:aan K aam "all" =some none)
  (z4:aan K aam "tuple" =some none)
  (z5:aan K aam "len" =some none)
  (z6:aan K aam "sorted" =some none)
  (z7:aan K aam "sum" =some none)
  (z8:aan K aam "min" =some none)
  (z9:aan K aam "set" =some none)
  (z10:aan K aam "range" =some none)
  (z11:aan K aam "any" =some none)
  (z12:aan K aam "divmod" =some none)
  (z13:aan K aam "str" =some none)
  (z14:aan K aam "list" =some none)
  (z15:aan K aam "dict" =some none)
  (z16:aan K aam "zip" =some none)
  (z17:aan K aam "ValueError" =some none)
  (y_LETTERS: ∃t,aan K aam "LETTERS" =some (some (.str "abcdefghijklmnopqrstuvwxyz" t)))
  (y_MOST_LETTERS: ∃t,aan K aam "MOST_LETTERS" =some (some (.int 8 t)))
  (y_MOST_PLACES: ∃t,aan K aam "MOST_PLACES" =some (some (.int 9 t)))
  (y_MOST_NUMBERED: ∃t,aan K aam "MOST_NUMBERED" =some (some (.int 60 t)))
  (y_MOST_PRODUCTS: ∃t,aan K aam "MOST_PRODUCTS" =some (some (.int 40 t)))
  (y_MOST_POWER: ∃t,aan K aam "MOST_POWER" =some (some (.int 2 t)))
  (wS:aan K aam "Numbers" =some (some (.ref TZ))) (yo:ade K TZ Str.empty=true) (yt:adH K TZ=true) (yn:aeM K TZ=true) (ym:abg K (.ref TZ) "__setattr__" =some (some (.builtin "object.__setattr__")))
  (qI:abg K (.ref TZ) "products" =some none)
  (J1:adu K TZ=true) (J3:aaZ K (.ref TZ)=true)
  (e_NoHead:aan K aam "NoHead" =some (some (.ref TQ)))
  (e_TooGreat:aan K aam "TooGreat" =some (some (.ref T4)))
  (e_TooMany:aan K aam "TooMany" =some (some (.ref T0)))
  (e_TooLong:aan K aam "TooLong" =some (some (.ref TY)))
  (e_NoText:aan K aam "NoText" =some (some (.ref TU)))
  (e_NoStep:aan K aam "NoStep" =some (some (.ref TN)))
  (e_NoRule:aan K aam "NoRule" =some (some (.ref TM)))
  (e_NoReason:aan K aam "NoReason" =some (some (.ref T3)))
  (e_NoPath:aan K aam "NoPath" =some (some (.ref TR)))
  (e_NoPaper:aan K aam "NoPaper" =some (some (.ref TX)))
  (e_NoPair:aan K aam "NoPair" =some (some (.ref TV)))
  (e_NoName:aan K aam "NoName" =some (some (.ref TL)))
  (e_NoLine:aan K aam "NoLine" =some (some (.ref TW)))
  (e_EndError:aan K aam "EndError" =some (some (.ref T5)))
  (q_NoHead:ac0 K TQ [.type "ValueError",.type "Exception",.type "BaseException",.type "object"] "ValueError.__new__" =true)
  (q_TooGreat:ac0 K T4 [.type "ValueError",.type "Exception",.type "BaseException",.type "object"] "ValueError.__new__" =true)
  (x_EndError_NoHead:aeF K (.ref TQ) (.ref T5)=some true)
  (x_EndError_TooGreat:aeF K (.ref T4) (.ref T5)=some true)
  (i_ValueError_NoHead:aaT K (.ref TQ) (.type "ValueError")=some true)
  (i_ValueError_TooGreat:aaT K (.ref T4) (.type "ValueError")=some true)
  (w_NoHead:ExcC K TQ)
  (w_TooGreat:ExcC K T4)
  (zM:aaT K (.ref TQ) (.ref TQ)=some true)
  (zc:aaT K (.ref T4) (.ref TQ)=some false)
  (zb:aaT K (.ref TQ) (.ref T4)=some false)
  (qH:aaT K (.ref T4) (.ref T4)=some true)
  (yt_0_NoHead:adN K (.ref TQ) (List.map aau [TW,TL,TV,TX,TR,T3,TM,TN,TU,TY,T0])=some false)
  (yt_0_TooGreat:adN K (.ref T4) (List.map aau [TW,TL,TV,TX,TR,T3,TM,TN,TU,TY,T0])=some false)
  : ∃fd:abJ,(∀(s:aaf) (v:Value),BindsTo s fd ⟨[v],[]⟩ [("_law_script",v)])/\ ∀base:Heap,K.In base->base.Ns aam mg->FnOk l.prog w K mg base CX0 72 fa fd ["_law_script"] (spF K true 1 F_law):=by
 have e:=hfa.symm.trans (aaR KX G a28);cases e
 have T:Gm K TQ T4 T0 TY TU TN TM T3 TR TX TV TL TW T5 mg:=⟨aaO KX G z0,aaO KX G z1,aaO KX G z2,aaO KX G z3,aaO KX G z4,aaO KX G z5,aaO KX G z6,aaO KX G z7,aaO KX G z8,aaO KX G z9,aaO KX G z10,aaO KX G z11,aaO KX G z12,aaO KX G z13,aaO KX G z14,aaO KX G z15,aaO KX G z16,aaO KX G z17,y_LETTERS.imp fun _ h=>aaR KX G h,y_MOST_LETTERS.imp fun _ h=>aaR KX G h,y_MOST_PLACES.imp fun _ h=>aaR KX G h,y_MOST_NUMBERED.imp fun _ h=>aaR KX G h,y_MOST_PRODUCTS.imp fun _ h=>aaR KX G h,y_MOST_POWER.imp fun _ h=>aaR KX G h,⟨TZ,wS,⟨yo,yt,yn,ym⟩,qI⟩,aaR KX G e_NoHead,aaR KX G e_TooGreat,aaR KX G e_TooMany,aaR KX G e_TooLong,aaR KX G e_NoText,aaR KX G e_NoStep,aaR KX G e_NoRule,aaR KX G e_NoReason,aaR KX G e_NoPath,aaR KX G e_NoPaper,aaR KX G e_NoPair,aaR KX G e_NoName,aaR KX G e_NoLine,aaR KX G e_EndError,e_NoHead,q_NoHead,e_TooGreat,q_TooGreat,(fun c hc C hC=>by
   simp only [aex,List.contains_nil,Bool.or_false,beq_iff_eq,Bool.or_eq_true] at hc;rcases hc with rfl|rfl
   · have e:=hC.symm.trans e_NoHead;cases e;exact x_EndError_NoHead
   · have e:=hC.symm.trans e_TooGreat;cases e
     exact x_EndError_TooGreat),(fun c hc C hC=>by
   simp only [aex,List.contains_nil,Bool.or_false,beq_iff_eq,Bool.or_eq_true] at hc;rcases hc with rfl|rfl
   · have e:=hC.symm.trans e_NoHead;cases e;exact i_ValueError_NoHead
   · have e:=hC.symm.trans e_TooGreat;cases e
     exact i_ValueError_TooGreat),(fun c b hc C hC=>by
   by_cases h_NoHead:c= "NoHead"
   · subst h_NoHead;rw [wO] at hc;cases hc;have e:=hC.symm.trans e_NoHead;cases e;exact ⟨w_NoHead,zM⟩
   rw [wN h_NoHead] at hc
   by_cases h_TooGreat:c= "TooGreat"
   · subst h_TooGreat;rw [wO] at hc;cases hc;have e:=hC.symm.trans e_TooGreat;cases e;exact ⟨w_TooGreat,zc⟩
   rw [wN h_TooGreat] at hc
   cases hc),(fun c b hc C hC=>by
   by_cases h_NoHead:c= "NoHead"
   · subst h_NoHead;rw [wO] at hc;cases hc;have e:=hC.symm.trans e_NoHead;cases e;exact ⟨w_NoHead,zb⟩
   rw [wN h_NoHead] at hc
   by_cases h_TooGreat:c= "TooGreat"
   · subst h_TooGreat;rw [wO] at hc;cases hc;have e:=hC.symm.trans e_TooGreat;cases e;exact ⟨w_TooGreat,qH⟩
   rw [wN h_TooGreat] at hc
   cases hc),(fun c b hc C hC=>by
   by_cases h_NoHead:c= "NoHead"
   · subst h_NoHead;rw [wO] at hc;cases hc;have e:=hC.symm.trans e_NoHead;cases e;exact ⟨w_NoHead,yt_0_NoHead⟩
   rw [wN h_NoHead] at hc
   by_cases h_TooGreat:c= "TooGreat"
   · subst h_TooGreat;rw [wO] at hc;cases hc;have e:=hC.symm.trans e_TooGreat;cases e;exact ⟨w_TooGreat,yt_0_TooGreat⟩
   rw [wN h_TooGreat] at hc
   cases hc)⟩
 have U:=jcy (st:=Z2) l28 c28 k28;have zi:aan K aam "Numbers" =some (some (.ref TZ))/\Cls K TZ:=⟨wS,yo,yt,yn,ym⟩
 refine ⟨abh "law" "law" (qw Z2) (jI Z2) (jh Z2) .none kV28 dc28 pm28 an28 cd28 ct28,fun s v=> .of_eq rfl,fun base _ _=>?_⟩;have V0:yf l.prog w K mg base 1 wu:=Wn (k:=0) T (d0.dx KX G tk1);have V1:yd l.prog w K mg base 1 yi:=Wl (k:=0) T (d1.dx KX G tk1);have V2:wa l.prog w K mg base 1 qZ:=Qf (k:=0) T (d2.dx KX G tk2);have V3:yc l.prog w K mg base 2 yh:=Wj (k:=1) T (d3.dx KX G tk2) (V2.mono (by decide));have V4:Zc l.prog w K mg base 1 JQ:=Ui (k:=0) T (d4.dx KX G tk1);have V5:yD l.prog w K mg base 1 yE:=YO (k:=0) T (d5.dx KX G tk1);have V6:Zd l.prog w K mg base 2 Ze:=Uj (k:=1) T (d6.dx KX G tk1) (V4.mono (by decide)) (V5.mono (by decide));have V7:yb l.prog w K mg base 2 wq:=Wh (k:=1) T (d7.dx KX G tk2) (V5.mono (by decide));have V8:xp l.prog w K mg base 3 zJ:=Zm (k:=2) T (d8.dx KX G tk1) (V6.mono (by decide)) (V7.mono (by decide));have V9:xq l.prog w K mg base 4 jV:=Zn (k:=3) T (d9.dx KX G tk1) (V8.mono (by decide));have V10:qF l.prog w K mg base 5 jU:=xF (k:=4) T (d10.dm tk2) zi (aaR KX G wS) ⟨J1,J3⟩ (V9.mono (by decide));have V11:yC l.prog w K mg base 1 jS:=YN (k:=0) T (d11.dx KX G tk2);have V12:j8 l.prog w K mg base 1 jO:=Ju (k:=0) T (d12.dx KX G tk0);have V13:Qv l.prog w K mg base 1 xt:=kT (k:=0) T (d13.dx KX G tk1);have V14:ya l.prog w K mg base 1 yg:=Wg (k:=0) T (d14.dx KX G tk3);have V15:VP l.prog w K mg base 1 xv:=jdB (k:=0) T (d15.dx KX G tk1)
 have V16: ∀n,j9 l.prog w K mg base (1+n) (jF n):=by
  intro n
  induction n with
  |zero=>exact jgz true (d16.dm tk3) zi
  |succ n ih=>exact Jv (k:=1+n) T (d16.dm tk3) zi (V12.mono (by omega)) ih (V13.mono (by omega)) (V14.mono (by omega)) (V15.mono (by omega))
 have V17: ∀n,WX l.prog w K mg base (1+n) (zD n):=by
  intro n
  induction n with
  |zero=>exact jb0 true (d17.dx KX G tk1)
  |succ n ih=>exact ja3 (k:=1+n) T (d17.dx KX G tk1) (V13.mono (by omega)) ih
 have V18:Jf l.prog w K mg base 66 Jh:=Xn (k:=65) T (d18.dx KX G tk1) ((V17 64).mono (by decide)) (V15.mono (by decide));have V19:WY l.prog w K mg base 67 zE:=ja4 (k:=66) T (d19.dx KX G tk1) (V18.mono (by decide));have V20:zl l.prog w K mg base 68 jl:=wf (k:=67) T d20.d3 zi (V11.mono (by decide)) ((V16 64).mono (by decide)) (V19.mono (by decide)) (V12.mono (by decide));have W20:qY l.prog w K mg base 68 jl:=wf (k:=67) T d20.d2 zi (V11.mono (by decide)) ((V16 64).mono (by decide)) (V19.mono (by decide)) (V12.mono (by decide));have Wk20:qX l.prog w K mg base 68 jl:=yT (k:=67) T d20.k3 zi (V11.mono (by decide)) ((V16 64).mono (by decide)) (V19.mono (by decide)) (V12.mono (by decide));have V21:wX l.prog w K mg base 69 jP:=Jw (k:=68) T (d21.dm tk2).x zi (V20.mono (by decide)) (W20.mono (by decide)) (Wk20.mono (by decide));have V22:Jg l.prog w K mg base 70 qk:=Xp (k:=69) T (d22.dx KX G tk4) (V20.mono (by decide)) (W20.mono (by decide)) (Wk20.mono (by decide)) (V21.mono (by decide));have V23:ye l.prog w K mg base 71 jG:=Wm (k:=70) T (d23.dx KX G tk5) (V22.mono (by decide));have V24:wF l.prog w K mg base 1 wG:=QK (k:=0) T (d24.dx KX G tk2)
 have V25: ∀n,xr l.prog w K mg base (0+n) (qj n):=by
  intro n
  induction n with
  |zero=>exact jb0 true (d25.dx KX G tk4)
  |succ n ih=>exact Xo (k:=0+n) T (d25.dx KX G tk4) ih
 have V26: ∀n,wp l.prog w K mg base (0+n) (qy n):=by
  intro n
  induction n with
  |zero=>exact jb0 false (d26.dx KX G tk3)
  |succ n ih=>exact Wi (k:=0+n) T (d26.dx KX G tk3) ih
 have V27: ∀n,zo l.prog w K mg base (0+n) (jQ n):=by
  intro n
  induction n with
  |zero=>exact jb0 false (d27.dx KX G tk3)
  |succ n ih=>exact QJ (k:=0+n) T (d27.dx KX G tk3) ih
 exact jfI (k:=71) T U (V0.mono (by decide)) (V1.mono (by decide)) (V3.mono (by decide)) V10 (by decide) (V23.mono (by decide)) (V24.mono (by decide)) ((V25 6).mono (by decide)) ((V26 64).mono (by decide)) ((V27 64).mono (by decide))
end G
namespace G
open PySem PySem.Spec L2 M
open Builtin.Int (intBits)
def abc:Str:= "abcdefghijklmnopqrstuvwxyz"
def cut1 (x:D) (r:List D):cutD (x::r) (some 1) none=r:=by
 have h1:HT.sIx (x::r).length 0 (some 1)=1:=by
  have:=HT.sIx_nat (x::r).length 0 1;simp at this ⊢;exact this.trans (by omega)
 unfold cutD;rw [h1,HT.sIx_none];simp
def kG (h:jdI d=true):xt [d]= .ok (.tup (kids d)):=by
 cases d with
 |tup ds=>
  cases ds with
  |nil=>rfl
  |cons x r=>
   show Res.ok (D.tup (cutD (x::r) (some 1) none))=_;rw [cut1];rfl
 |_=>first|rfl|cases h
def isNm:D->Bool| .str z=>(decide (1<=(z.length:Int))&&decide ((z.length:Int)<=8))&&z.cps.toList.all (fun c=>inS ⟨#[c]⟩ abc)|_=>false
def Qq (z:Str):isNm (.str z)=((decide (1<=(z.length:Int))&&decide ((z.length:Int)<=8))&&z.cps.toList.all (fun c=>inS ⟨#[c]⟩ abc)):=rfl
def JP (l:List α) (p:α->Bool):allD [.lst (l.map fun c=>D.bl (p c))]= .ok (.bl (l.all p)):=by
 have:l.map (fun c=>D.bl (p c))=(l.map p).map D.bl:=by simp
 rw [this];show (match Zb ((l.map p).map D.bl) with|some bs=>Res.ok (D.bl (bs.all id))|none=>Res.stuck)=_;rw [jbZ];simp
def U0 (z:Str):(ZZ z).length=z.length:=by simp [ZZ,Str.length]
def jfS (h:jdI d=true):JQ [d]= .ok (.bl (isNm d)):=by
 cases d with
 |str z=>
  have e1:xL (qC 1 [.str z])= .ok (.rt true (.bl (isNm (.str z)))):=by
   have h0:qC 1 [.str z]=[.shr (.str z)]:=rfl;rw [h0];have hi:isiD "str" (.str z)= .ok (.bl true):=rfl;have hl:lenD [.str z]= .ok (.int z.length):=rfl;rw [Qq]
   by_cases h2:(z.length:Int)<=8
   · have key:qQ false 1 [] (itF (rdS 0)) (gN 0) qp (two (rdS 0) (cS "abcdefghijklmnopqrstuvwxyz") inD) [.shr (.str z)]= .ok (.lst ((ZZ z).map fun d=>D.bl (match d with| .str c=>inS c abc|_=>false))):=by
      refine jhm _ (fun d=> ∃c,d= .str c) rfl (by intro d hd;obtain ⟨c,_,e⟩:=aat.mp hd;exact ⟨_,e.symm⟩) (by rw [U0];exact aaw (by omega:z.length<=8) (by decide)) ?_;rintro d acc ⟨c,e⟩;subst e;rfl
     have hany:(ZZ z).all (fun d=>match d with| .str c=>inS c abc|_=>false)=(z.cps.toList.all (fun c=>inS ⟨#[c]⟩ abc)):=by
      simp only [ZZ,List.all_map];rfl
     have h2':decide ((z.length:Int)<=8)=true:=by simp;omega
     generalize z.cps.toList.all (fun c=>inS ⟨#[c]⟩ abc)=q at hany ⊢;simp only [xL,hi,hl,key,Q5,Vn,XS,Y3,ur,WI,jcA,ut,WJ,um,JG,ul,jge,jcD,Y2,jgf,jcB,Y4,uo,jcC,kO,kN,List.getElem?_cons_zero,jal,if_true,acK,abd,if_false,decide_eq_true_eq,Vo,jcM,JP,hany]
     by_cases h1:(1:Int)<=z.length<;>simp [h1,h2]
   · have h2':decide ((z.length:Int)<=8)=false:=by simp;omega
     simp only [xL,hi,hl,Q5,Vn,XS,Y3,ur,WI,jcA,ut,WJ,um,JG,ul,jge,jcD,Y2,jgf,jcB,Y4,uo,jcC,kO,kN,List.getElem?_cons_zero,jal,if_true,acK,abd,if_false,decide_eq_true_eq,Vo,jcM]
     by_cases h1:(1:Int)<=z.length<;>simp [h1,h2,h2']
  exact Vm e1
 |_=>first|rfl|cases h
def Low (z:Str):Prop:= ∀c∈z.cps.toList,inS ⟨#[c]⟩ abc=true
def YU {a b:Str} (ha:Low a) (hb:Low b):Low (a++b):=fun c hc=>by
 have h:c∈(a.cps++b.cps).toList:=hc;rw [Array.toList_append,aa1] at h;exact h.elim (ha c) (hb c)
def vn (lo hi:Option Int) (h:Low z):Low (cutS z lo hi):=fun c hc=>by
 unfold cutS at hc
 split at hc
 · exact h c hc
 · simp at hc;obtain ⟨i,_,hi⟩:=hc;exact h c (by rw [←aax] at hi;exact aa2 hi)
def jeO:Low abc:=by
 intro c hc;have:abc.cps.toList.all (fun c=>inS ⟨#[c]⟩ abc)=true:=by decide+kernel
 exact abw.mp this c hc
def ixS2 {i:Int} (h0:0<=i) (h1:i<z.length): ∃c,ixD (.str z) (.int i)= .ok (.str ⟨#[c]⟩)/\c∈z.cps.toList:=by
 obtain ⟨c,hc,hm⟩:=jaj (xs:=z.cps.toList) h0 (by simpa [Str.length] using h1);exact ⟨c,by simp only [ixD];rw [hc],hm⟩
def vm {c:Nat} (h:c∈abc.cps.toList):Low ⟨#[c]⟩:=fun x hx=>by
 have:x=c:=by simpa using hx
 rw [this];exact jeO c h
def jcr (i:Int) (n:Nat) (h:0<=i):(aaK none (some i) 1 n).length<=i.toNat:=by
 unfold aaK sliceRange;simp
 split<;>(try split)<;>(try split)<;>(try simp)<;>omega
def jcs (i:Int) (n:Nat) (h:0<=i):(aaK (some i) none 1 n).length<=n-i.toNat:=by
 unfold aaK sliceRange;simp
 split<;>(try split)<;>(try split)<;>(try simp)<;>omega
def VA (z:Str) (lo hi:Option Int):(cutS z lo hi).length<=(aaK lo hi 1 z.length).length:=by
 unfold cutS
 split
 · rename_i h;rw [beq_iff_eq] at h;omega
 · show ((aaK lo hi 1 z.length).filterMap (z.cps[·]?)).toArray.size<=_;rw [aah];exact List.length_filterMap_le _ _
def jdU (h1:1<=z.length) (h2:z.length<=8) (h:Low z):isNm (.str z)=true:=by
 rw [Qq];simp only [aaD,decide_eq_true_eq,abw];exact ⟨⟨by omega,by omega⟩,h⟩
def WV:abc.length=26:=by decide
def big1:20000<=aak:=by decide
def jm {k:Nat} (h:k<=20000):k<=aak:=aaw h big1
theorem VD {cs:List Slot} (h:D->D) (P:D->Prop) (hf: ∀d acc,P d->fe (.shr d::(cs++[.own (.lst acc)]))= .ok (h d)):
  ∀(ds:List D) (x:Slot) (acc:List D),(∀d∈ds,P d)->acc.length+ds.length<=aak->
   ∃(y:Slot),wD (1+cs.length) (gN 0) qp fe ds (x::(cs++[.own (.lst acc)]))= .ok (y::(cs++[.own (.lst (acc++ds.map h))]))
 | [],x,acc,_,_=>⟨x,by simp [wD]⟩
 |d::ds,x,acc,hP,hl=>by
  simp at hl;have ht:=hf d acc (hP d (by simp));obtain ⟨y,h1⟩:=VD h P hf ds (.shr d) (acc++[h d]) (fun e he=>hP e (by simp [he])) (by simp;omega);refine ⟨y,?_⟩
  have e1:ownL (1+cs.length) (.shr d::(cs++[.own (.lst acc)]))= .ok acc:=by
   unfold ownL;rw [show (1+cs.length)=cs.length+1 by omega,aaW,aaq (aag _)];simp
  have e2:(Slot.shr d::(cs++[Slot.own (.lst acc)])).set (1+cs.length) (.own (.lst (acc++[h d])))= .shr d::(cs++[.own (.lst (acc++[h d]))]):=by
   rw [show (1+cs.length)=cs.length+1 by omega,aez,List.set_append_right _ _ (aag _)];simp
  show (fe (.shr d::(cs++[.own (.lst acc)]))>>=_)=_;rw [ht];show (ownL (1+cs.length) (.shr d::(cs++[.own (.lst acc)]))>>=_)=_;rw [e1];show must _ _=_;rw [jo (by omega)];show wD _ _ _ _ ds ((Slot.shr d::(cs++[Slot.own (.lst acc)])).set (1+cs.length) (.own (.lst (acc++[h d]))))=_;rw [e2,h1];simp
def Jd {fe:TK} {cs:List Slot} (h:D->D) (P:D->Prop) (hc:js.map (capS false env)=cs) (hi:fi env= .ok ds) (hP: ∀d∈ds,P d) (hl:ds.length<=aak)
  (hf: ∀d acc,P d->fe (.shr d::(cs++[.own (.lst acc)]))= .ok (h d)):qQ false 1 js fi (gN 0) qp fe env= .ok (.lst (ds.map h)):=by
 obtain ⟨y,h1⟩:=VD h P hf ds .un [] hP (by simpa using hl);have hlen:js.length=cs.length:=by rw [←hc];simp
 show (fi env>>=_)=_;rw [hi];show (wD (1+js.length) (gN 0) qp fe ds (wV false 1 js env)>>=_)=_
 have he:wV false 1 js env= .un::(cs++[.own (.lst [])]):=by
  unfold wV;rw [hc];rfl
 rw [he,hlen,h1];show (ownL (1+cs.length) (y::(cs++[.own (.lst ([]++ds.map h))]))>>=_)=_
 have e1:ownL (1+cs.length) (y::(cs++[.own (.lst ([]++ds.map h))]))= .ok (ds.map h):=by
  unfold ownL;rw [show (1+cs.length)=cs.length+1 by omega,aaW,aaq (aag _)];simp
 rw [e1];exact jo (c:=false=true->D.imms (ds.map h)=true) (fun h=>by cases h)
def cs (z:Str):List Nat:=z.cps.toList
def jcJ (z:Str):(cs z).length=z.length:=aaI
def VC (a b:Str):cs (a++b)=cs a++cs b:=PySem.W.KT.app_list a b
def jam:abc.cps.toList.Nodup:=by decide+kernel
def ixS3 {i:Int} (h0:0<=i) (h1:i<z.length): ∃c,ixD (.str z) (.int i)= .ok (.str ⟨#[c]⟩)/\(cs z)[i.toNat]?=some c/\c∈z.cps.toList:=by
 obtain ⟨k,rfl⟩:=adx h0;have hl:k< (cs z).length:=by rw [jcJ];omega
 have ha:atI z.cps.toList (k:Int)=some (cs z)[k]:=by
  rw [M.atI_nat];exact aad hl
 exact ⟨(cs z)[k],by simp only [ixD];rw [ha],by rw [acC];exact aad hl,aa9 hl⟩
def Sev (ns:List Str):Prop:=ns.length=7/\(∀z∈ns,isNm (.str z)=true)/\ns.Nodup
def nm42 (f:Str) (at1:Int) (p:Int) (k:Int):Str:=(cutS f none (some at1)++(⟨#[((cs abc)[((p+5*k)%26).toNat]?).getD 0]⟩:Str))++cutS f (some (at1+1)) none
def jfO {f:Str} {at1 p i j:Int} (hi:0<=i/\i<7) (hj:0<=j/\j<7) (h:nm42 f at1 p i=nm42 f at1 p j):i=j:=by
 have h1:=congrArg cs h;unfold nm42 at h1;rw [VC,VC,VC,VC,aaY,aaY] at h1;have h2:=List.append_cancel_left h1;have e: ∀c:Nat,cs (⟨#[c]⟩:Str)=[c]:=fun _=>rfl
 rw [e,e] at h2;simp at h2;have l:(cs abc).length=26:=by rw [jcJ];exact WV
 have a1:((p+5*i)%26).toNat< (cs abc).length:=by omega
 have a2:((p+5*j)%26).toNat< (cs abc).length:=by omega
 rw [aad a1,aad a2] at h2;have h3:=(aeW jam).mp (show (cs abc)[((p+5*i)%26).toNat]=(cs abc)[((p+5*j)%26).toNat] from h2);omega
def YQ (m:Int): ∃ns,yi [.int m]= .ok (.lst (ns.map D.str))/\Sev ns:=by
 have hs:1<=1+m%8/\1+m%8<=8:=by omega
 have e0:qC 8 [.int m]=[.shr (.int m),.un,.un,.un,.un,.un,.un,.un]:=rfl;generalize hsz:1+m%8=sz at hs
 obtain ⟨env1,l1,n1,f1,u1,rfl,hf1,lw1⟩:=xj (body:=qo (gN 4) (seqO (jC 3 (two (rdS 3) (two (rdS 1) (two (rdS 0) (cI 26) modI) ixD) addD)) (jC 0 (two (rdS 0) (cI 26) divI))))
   (fun ds env=> ∃(n:Int) (f:Str) (u:Slot),env=[.shr (.int n),.shr (.str abc),.shr (.int sz),.shr (.str f),u,.un,.un,.un]/\f.length+ds.length=sz.toNat/\Low f)
   (by
    rintro d ds env ⟨n,f,u,rfl,hl,lw⟩;obtain ⟨c,hc,hcm⟩:=ixS2 (i:=n%26) (by omega) (by rw [WV];omega);simp at hl;have hlen:(f++(⟨#[c]⟩:Str)).length=f.length+1:=ad9 _ _;refine ⟨[.shr (.int (n/26)),.shr (.str abc),.shr (.int sz),.shr (.str (f++(⟨#[c]⟩:Str))),.shr d,.un,.un,.un],?_,_,_,_,rfl,by rw [hlen];omega,YU lw (vm hcm)⟩;rw [qm rfl];rw [ji ((jt (je rfl (je rfl rfl hc) (jo (aaw (show f.length+1<=8 by omega) (by decide))))))]
    rfl)
   (q0 0 sz.toNat) [.shr (.int (m/8)),.shr (.str abc),.shr (.int sz),.shr (.str ""),.un,.un,.un,.un] ⟨m/8, "",.un,rfl,by rw [zt,show ("" :Str).length=0 by decide,Nat.zero_add],fun c hc=>by cases hc⟩
 simp at hf1;have hat:0<=n1%sz/\n1%sz<sz:=⟨aeo _ (by omega),adC _ (by omega)⟩
 generalize hq:n1%sz=at1 at hat;obtain ⟨c1,hc1⟩:=ixS (z:=f1) hat.1 (by omega);generalize hp:(Txt.find abc (⟨#[c1]⟩:Str):Int)=p
 obtain ⟨env2,l2,js,k2,s2,rfl,_,hj⟩:=xj (body:=qo (gN 4) (seqO (jC 7 (two (rdS 1) (two (two (smF (rdS 1) (jc (two (rdS 3) (rdS 5) ixD) nil1) jbq) (two (cI 5) (rdS 4) mulI) addD) (cI 26) modI) ixD))
   (qx 6 (two (two (zF (rdS 3) Qg (yG (rdS 5)) slD) (rdS 7) addD) (zF (rdS 3) (yG (two (rdS 5) (cI 1) addD)) Qg slD) addD))))
   (fun ds env=> ∃(js:Nat) (k s:Slot),env=[.shr (.int n1),.shr (.str abc),.shr (.int sz),.shr (.str f1),k,.shr (.int at1),.own (.lst ((aa5 js).map fun (j:Nat)=>D.str (nm42 f1 at1 p j))),s]/\ds=(List.range' js (7-js)).map (fun (j:Nat)=>D.int j)/\js+ds.length=7)
   (by
    rintro d ds env ⟨js,k,s,rfl,hd,hl⟩;simp at hl;have hjs:js<7:=by omega
    have e7:7-js=(7-(js+1))+1:=by omega
    rw [e7,aeZ,aaB,adB] at hd;obtain ⟨rfl,hd⟩:=hd
    have hm:MulC 5 js:=by
     have:js=0\/js=1\/js=2\/js=3\/js=4\/js=5\/js=6:=by omega
     rcases this with rfl|rfl|rfl|rfl|rfl|rfl|rfl<;>decide
    obtain ⟨c,hc,hcx,hcm⟩:=ixS3 (i:=(p+5*js)%26) (by omega) (by rw [WV];omega);have hnm:nm42 f1 at1 p js=(cutS f1 none (some at1)++(⟨#[c]⟩:Str))++cutS f1 (some (at1+1)) none:=by unfold nm42;rw [hcx];rfl
    have hA:=aaw (VA f1 none (some at1)) (jcr at1 f1.length (by omega));have hB:=aaw (VA f1 (some (at1+1)) none) (jcs (at1+1) f1.length (by omega));have h1:(cutS f1 none (some at1)++(⟨#[c]⟩:Str)).length=(cutS f1 none (some at1)).length+1:=ad9 _ _;have hbig:20<=aak:=by decide
    refine ⟨[.shr (.int n1),.shr (.str abc),.shr (.int sz),.shr (.str f1),.shr (.int js),.shr (.int at1),.own (.lst ((aa5 (js+1)).map fun (j:Nat)=>D.str (nm42 f1 at1 p j))),.shr (.str ⟨#[c]⟩)],?_,js+1,_,_,rfl,hd,by omega⟩;rw [qm rfl];rw [ji (jt (je rfl (je (je (jgW rfl (jb (je rfl rfl hc1) rfl) rfl) (je rfl rfl (Zx hm)) rfl) rfl rfl) (by rw [hp];exact hc)))];refine (zZ rfl (je (je (wc rfl rfl (zH rfl) rfl) rfl (jo (aaw (show _+1<=20 by omega) hbig))) (wc rfl (zH (je rfl rfl rfl)) rfl rfl) (jo (by omega))) (by rw [aaj,adM];omega)).trans ?_;rw [List.range_succ,aa3,aaB,ae7,hnm]
    rfl)
   (q0 0 7) [.shr (.int n1),.shr (.str abc),.shr (.int sz),.shr (.str f1),u1,.shr (.int at1),.own (.lst []),.un] ⟨0,u1,.un,rfl,rfl,rfl⟩
 obtain rfl:js=7:=by simpa using hj
 refine ⟨(aa5 7).map fun (j:Nat)=>nm42 f1 at1 p j,?_,by simp,?_,?_⟩
 · refine zP ?_;rw [e0];unfold xN;rw [ji rfl];rw [ji (env':=[.shr (.int m),.shr (.str abc),.shr (.int sz),.un,.un,.un,.un,.un]) (by rw [←hsz];rfl)];rw [ji rfl];rw [ji (env':=[.shr (.int (m/8)),.shr (.str abc),.shr (.int sz),.shr (.str ""),.un,.un,.un,.un]) rfl]
   rw [ji ((zw (by
    exact jo (by omega))).trans l1)]
   rw [ji (env':=[.shr (.int n1),.shr (.str abc),.shr (.int sz),.shr (.str f1),u1,.shr (.int at1),.un,.un]) (by rw [←hq];exact (jt (je rfl rfl (zp (by omega)))))];rw [ji (env':=[.shr (.int n1),.shr (.str abc),.shr (.int sz),.shr (.str f1),u1,.shr (.int at1),.own (.lst []),.un]) rfl];rw [ji ((zw rfl).trans l2)];rw [abb];rfl
 · intro z hz;obtain ⟨j,hj,rfl⟩:=aat.mp hz;have hj:=aaM.mp hj;obtain ⟨c,hc,hcx,hcm⟩:=ixS3 (i:=(p+5*j)%26) (by omega) (by rw [WV];omega);have hnm:nm42 f1 at1 p j=(cutS f1 none (some at1)++(⟨#[c]⟩:Str))++cutS f1 (some (at1+1)) none:=by unfold nm42;rw [hcx];rfl
   have hA:=aaw (VA f1 none (some at1)) (jcr at1 f1.length (by omega));have hB:=aaw (VA f1 (some (at1+1)) none) (jcs (at1+1) f1.length (by omega));have h1:(cutS f1 none (some at1)++(⟨#[c]⟩:Str)).length=(cutS f1 none (some at1)).length+1:=ad9 _ _;have h2:((cutS f1 none (some at1)++(⟨#[c]⟩:Str))++cutS f1 (some (at1+1)) none).length=(cutS f1 none (some at1)++(⟨#[c]⟩:Str)).length+(cutS f1 (some (at1+1)) none).length:=ad9 _ _;rw [hnm];exact jdU (by omega) (by omega) (YU (YU (vn _ _ lw1) (vm hcm)) (vn _ _ lw1))
 · refine aby.mpr ((adg).imp_of_mem fun {a b} ha hb hab e=>?_);have:=jfO (by have:=aaM.mp ha;omega) (by have:=aaM.mp hb;omega) e;exact hab (by omega)
def UC {i j:Int} (h1:f1 env= .ok (.int i)) (h2:f2 env= .ok (.int j)) (hj:0<j/\j<1073741824):app (jc f1 (jc f2 nil1)) qV env= .ok (.tup [.int (i/j),.int (i%j)]):=
 jY (jb h1 (jb h2 rfl)) (jo hj)
def wE {f:TK} {a b:Nat} {x y:D} (h:f env= .ok (.tup [x,y])):asgO f (g2 (gN a) (gN b)) env= .ok (.nx ((env.set a (.shr x)).set b (.shr y))):=by
 show (f env>>=_)=_;rw [h];rfl
abbrev pwB:Sl->Res Out:=seqO (asgO (app (jc (rdS 0) (jc (cI 6) nil1)) qV) (g2 (gN 0) (gN 9))) (qx 5 (two (lstF (jc (cI 0) (jc (cI 0) (jc (cI 0) (jc (cI 1) (jc (cI 1) (jc (cI 2) nil1))))))) (rdS 9) ixD))
def je9 (i:Int) (h0:0<=i) (h1:i<6): ∃r:Int,ixD (.lst [.int 0,.int 0,.int 0,.int 1,.int 1,.int 2]) (.int i)= .ok (.int r)/\0<=r/\r<=2:=by
 have:i=0\/i=1\/i=2\/i=3\/i=4\/i=5:=by omega
 rcases this with rfl|rfl|rfl|rfl|rfl|rfl
 · exact ⟨0,rfl,by omega,by omega⟩
 · exact ⟨0,rfl,by omega,by omega⟩
 · exact ⟨0,rfl,by omega,by omega⟩
 · exact ⟨1,rfl,by omega,by omega⟩
 · exact ⟨1,rfl,by omega,by omega⟩
 · exact ⟨2,rfl,by omega,by omega⟩
def jda (n:Int) (M:Nat) (hM:M<=9) (F S:Slot) (k:Int) (u6 u7 u8 u9:Slot): ∃(n':Int) (ps:List Int) (v6 v9:Slot),forD (qo (gN 6) pwB) (q0 0 M) [.shr (.int n),.shr (.int M),F,S,.shr (.int k),.own (.lst []),u6,u7,u8,u9]= .ok (.nx [.shr (.int n'),.shr (.int M),F,S,.shr (.int k),.own (.lst (ps.map D.int)),v6,u7,u8,v9])/\ps.length=M/\ ∀x∈ps,0<=x/\x<=2:=by
 obtain ⟨env1,l1,n1,ps,v6,v9,rfl,h1,h2⟩:=xj (body:=qo (gN 6) pwB)
  (fun ds env=> ∃(n:Int) (ps:List Int) (v6 v9:Slot),env=[.shr (.int n),.shr (.int M),F,S,.shr (.int k),.own (.lst (ps.map D.int)),v6,u7,u8,v9]/\ps.length+ds.length=M/\ ∀x∈ps,0<=x/\x<=2)
  (by
   rintro d ds env ⟨n,ps,v6,v9,rfl,hl,hx⟩;simp at hl;obtain ⟨r,hr,r0,r1⟩:=je9 (n%6) (by omega) (by omega);refine ⟨[.shr (.int (n/6)),.shr (.int M),F,S,.shr (.int k),.own (.lst ((ps++[r]).map D.int)),.shr d,u7,u8,.shr (.int (n%6))],?_,_,ps++[r],_,_,rfl,by rw [aaC];simp;omega,fun x hx'=>?_⟩
   · rw [qm rfl];unfold pwB;refine (ji (wE (UC rfl rfl (by omega)))).trans ?_;refine (zZ rfl (je rfl rfl hr) (by rw [aaj];exact aas (show ps.length<20 by omega) (by decide))).trans ?_;rw [aa3];rfl
   · rcases aa1.mp hx' with h|h
     · exact hx x h
     · rw [aaJ] at h;subst h;exact ⟨r0,r1⟩)
  (q0 0 M) [.shr (.int n),.shr (.int M),F,S,.shr (.int k),.own (.lst []),u6,u7,u8,u9] ⟨n,[],u6,u9,rfl,by rw [zt];simp,fun _ h=>by cases h⟩
 exact ⟨n1,ps,v6,v9,l1,by simpa using h1,h2⟩
def tI (ps:List Int):D:= .tup (ps.map D.int)
theorem Jx: ∀ps:List Int,nbs (ps.map D.int)=true
 | []=>rfl
 |_::r=>by simp;exact Jx r
theorem QN: ∀ {a b:List Int},a.map D.int=b.map D.int->a=b
 | [],[],_=>rfl
 | [],_::_,h=>by cases h
 |_::_,[],h=>by cases h
 |x::a,y::b,h=>by
  simp at h;rw [h.1,QN h.2]
def jf2 (l:List (List Int)) (ps:List Int):inL (l.map tI) (tI ps)=decide (ps∈l):=by
 unfold inL;rw [aej,ab6,decide_eq_true_iff]
 constructor
 · rintro ⟨y,hy,e⟩;obtain ⟨q,hq,rfl⟩:=aat.mp hy;have:=(WM (tI q) (by simp only [tI,nb];exact Jx q) (tI ps) (by simp only [tI,nb];exact Jx ps)).mp e;exact (QN (by simpa [tI] using this))▸hq
 · intro h;refine ⟨tI ps,aat.mpr ⟨ps,h,rfl⟩,?_⟩;exact (WM (tI ps) (by simp only [tI,nb];exact Jx ps) (tI ps) (by simp only [tI,nb];exact Jx ps)).mpr rfl
def jcE (ps:List Int):D.eqb (tI ps)=true:=by simp only [tI,D.eqb];exact WK (fun _=>rfl) ps
def jgm (ps:List Int):D.dep (tI ps)<=1:=by
 simp only [tI,D.dep];have:=WP (f:=D.int) (k:=0) (fun _=>aag _) ps;omega
def jfP (l:List (List Int)) (ps:List Int):inLR true (tI ps) (.lst (l.map tI))= .ok (.bl (!decide (ps∈l))):=by
 show must _ (Res.ok (D.bl (!inL (l.map tI) (tI ps))))=_;rw [jo ⟨WK jcE l,jcE ps,aaw (WP jgm l) (by decide)⟩,jf2]
def dPr (p:Int×List Int):D:= .tup [.int p.1,tI p.2]
structure Pr (M:Nat) (l:List (Int×List Int)):Prop where
 ok: ∀p∈l,(1<=p.1/\p.1<=10^30)/\p.2.length=M/\ ∀x∈p.2,0<=x/\x<=2
 nd:(l.map (·.2)).Nodup
def Met (l:List (Int×List Int)) (j:Nat):Prop:= ∃p∈l,∃x,p.2[j]?=some x/\0<x
def Pr.more {M:Nat} {l:List (Int×List Int)} (h:Pr M l) {n:Int} {ps:List Int} (hn:1<=n/\n<=10^30) (hl:ps.length=M) (hx: ∀x∈ps,0<=x/\x<=2) (hs:ps∉l.map (·.2)):Pr M (l++[(n,ps)]):=by
 refine ⟨fun p hp=>?_,?_⟩
 · rcases aa1.mp hp with h1|h1
   · exact h.ok p h1
   · rw [aaJ] at h1;subst h1;exact ⟨hn,hl,hx⟩
 · rw [aa3];refine abI.mpr ⟨h.nd,by simp,fun a ha b hb e=>?_⟩;simp at hb;subst hb;subst e;exact hs ha
def jbw (i m:Int) (h0:0<=i) (h1:i<8) (hm:0<=m/\m<9): ∃r:Int,ixD (.lst [.int 1,.int 1,.int 1,.int 1,.int (1+m),.int (1+m),.int 2,.int (10^30-m)]) (.int i)= .ok (.int r)/\1<=r/\r<=10^30:=by
 have:i=0\/i=1\/i=2\/i=3\/i=4\/i=5\/i=6\/i=7:=by omega
 rcases this with rfl|rfl|rfl|rfl|rfl|rfl|rfl|rfl
 · exact ⟨1,rfl,by omega,by omega⟩
 · exact ⟨1,rfl,by omega,by omega⟩
 · exact ⟨1,rfl,by omega,by omega⟩
 · exact ⟨1,rfl,by omega,by omega⟩
 · exact ⟨1+m,rfl,by omega,by omega⟩
 · exact ⟨1+m,rfl,by omega,by omega⟩
 · exact ⟨2,rfl,by omega,by omega⟩
 · exact ⟨10^30-m,rfl,by omega,by omega⟩
abbrev fixB:Sl->Res Out:=ifO (andB (asB (two (rdS 4) (rdS 1) ltI)) (asB (two (two (rdB 5) (rdS 4) ixD) (cI 0) eqR))) (jc1 5 (rdS 4) (cI 1)) nxO
def jgc (n:Int) (M k:Nat) (F S:Slot) (ps:List Int) (hl:ps.length=M) (hx: ∀x∈ps,0<=x/\x<=2) (u6 u7 u8 u9:Slot): ∃qs:List Int,fixB [.shr (.int n),.shr (.int M),F,S,.shr (.int k),.own (.lst (ps.map D.int)),u6,u7,u8,u9]= .ok (.nx [.shr (.int n),.shr (.int M),F,S,.shr (.int k),.own (.lst (qs.map D.int)),u6,u7,u8,u9])/\qs.length=M/\(∀x∈qs,0<=x/\x<=2)/\(k<M-> ∃x,qs[k]?=some x/\0<x):=by
 unfold fixB
 by_cases hk:k<M
 · have hkl:k<ps.length:=by omega
   have hlt:asB (two (rdS 4) (rdS 1) ltI) [.shr (.int n),.shr (.int M),F,S,.shr (.int k),.own (.lst (ps.map D.int)),u6,u7,u8,u9]= .ok (decide ((k:Int)<M)):=jx (je rfl rfl rfl);rw [decide_eq_true (by omega)] at hlt
   have hix:ixD (.lst (ps.map D.int)) (.int (k:Int))= .ok (.int ps[k]):=by
     simp only [ixD];rw [_root_.M.atI_nat,aaE,aad hkl];rfl
   have heq:asB (two (two (rdB 5) (rdS 4) ixD) (cI 0) eqR) [.shr (.int n),.shr (.int M),F,S,.shr (.int k),.own (.lst (ps.map D.int)),u6,u7,u8,u9]= .ok (ps[k]==0):=jx (je (je rfl rfl hix) rfl rfl)
   have hand:andB (asB (two (rdS 4) (rdS 1) ltI)) (asB (two (two (rdB 5) (rdS 4) ixD) (cI 0) eqR)) [.shr (.int n),.shr (.int M),F,S,.shr (.int k),.own (.lst (ps.map D.int)),u6,u7,u8,u9]= .ok (ps[k]==0):=by
     show (_>>=_)=_;rw [hlt];exact heq
   by_cases h0:ps[k]=0
   · refine ⟨ps.set k 1,?_,by rw [List.length_set];exact hl,fun x hx'=>?_,fun _=>⟨1,by rw [abp hkl],by omega⟩⟩
     · rw [if_t (by rw [hand,h0];rfl)]
       have hn:ixN (ps.map D.int).length (k:Int)=some k:=by
         rw [aaj];unfold ixN;simp [hkl]
       show (match ixN (ps.map D.int).length (k:Int) with
         |some j=>Res.ok (Out.nx (([.shr (.int n),.shr (.int M),F,S,.shr (.int k),.own (.lst (ps.map D.int)),u6,u7,u8,u9]:Sl).set 5 (.own (.lst ((ps.map D.int).set j (.int 1))))))
         |none=> .stuck)=_
       rw [hn,List.map_set];rfl
     · rcases List.mem_or_eq_of_mem_set hx' with h|h
       · exact hx x h
       · subst h;omega
   · refine ⟨ps,?_,hl,hx,fun _=>⟨ps[k],aad hkl,?_⟩⟩
     · rw [if_f (by rw [hand,show (ps[k]==0)=false by simpa using h0])];rfl
     · have:=hx _ (aa9 hkl);omega
 · refine ⟨ps,?_,hl,hx,fun z=>absurd z hk⟩;have hlt:asB (two (rdS 4) (rdS 1) ltI) [.shr (.int n),.shr (.int M),F,S,.shr (.int k),.own (.lst (ps.map D.int)),u6,u7,u8,u9]= .ok (decide ((k:Int)<M)):=jx (je rfl rfl rfl);rw [decide_eq_false (by omega)] at hlt;rw [if_f (by show (_>>=_)=_;rw [hlt];rfl)];rfl
def Xk:powI (.int 10) (.int 30)= .ok (.int (10^30)):=(Jq (by decide)).trans rfl
abbrev prT:Sl->Res D:=app (jc (rdB 5) nil1) Qx
abbrev prV:Sl->Res D:=two (lstF (jc (cI 1) (jc (cI 1) (jc (cI 1) (jc (cI 1) (jc (two (cI 1) (rdS 8) addD) (jc (two (cI 1) (rdS 8) addD) (jc (cI 2) (jc (two (two (cI 10) (cI 30) powI) (rdS 8) subI) nil1))))))))) (rdS 7) ixD
abbrev prB:Sl->Res Out:=seqO (setO 5 (lstF nil1)) (seqO (forO (rngF (jc (rdS 1) nil1)) (gN 6) pwB) (seqO fixB (seqO (asgO (app (jc (rdS 0) (jc (cI 8) nil1)) qV) (g2 (gN 0) (gN 7))) (seqO (asgO (app (jc (rdS 0) (jc (cI 9) nil1)) qV) (g2 (gN 0) (gN 8))) (ifO (asB (two prT (rdB 3) (inLR true))) (seqO (qx 3 (chk prT)) (qx 2 (tupF (jc prV (jc (chk prT) nil1))))) nxO)))))
theorem XH: ∀ps:List Int,D.imms (ps.map D.int)=true
 | []=>rfl
 |_::r=>by simp;exact XH r
def jdf (n:Int) (M k:Nat) (hM:M<=9) (hk:k<=M) (l:List (Int×List Int)) (hp:Pr M l) (hlen:l.length<=k) (hmet: ∀j,j<k->j<M->Met l j) (hne:0<k->0<l.length) (u5 u6 u7 u8 u9:Slot):
   ∃(n':Int) (l':List (Int×List Int)) (v5 v6 v7 v8 v9:Slot),prB [.shr (.int n),.shr (.int M),.own (.lst (l.map dPr)),.own (.lst ((l.map (·.2)).map tI)),.shr (.int k),u5,u6,u7,u8,u9]= .ok (.nx [.shr (.int n'),.shr (.int M),.own (.lst (l'.map dPr)),.own (.lst ((l'.map (·.2)).map tI)),.shr (.int k),v5,v6,v7,v8,v9])/\Pr M l'/\l'.length<=k+1/\(∀j,j<k+1->j<M->Met l' j)/\0<l'.length:=by
 obtain ⟨n1,ps,v6,v9,e1,h1,h2⟩:=jda n M hM (.own (.lst (l.map dPr))) (.own (.lst ((l.map (·.2)).map tI))) k u6 u7 u8 u9;obtain ⟨qs,e2,h3,h4,h5⟩:=jgc n1 M k (.own (.lst (l.map dPr))) (.own (.lst ((l.map (·.2)).map tI))) ps h1 h2 v6 u7 u8 v9
 have hT: ∀env:Sl,env[5]?=some (.own (.lst (qs.map D.int)))->prT env= .ok (tI qs):=fun env he=>by
   unfold prT;exact jY (jb (jg0 he) rfl) rfl
 have himm:(tI qs).imm=true:=by simp only [tI,D.imm];exact XH qs
 have pre: ∀r,(ifO (asB (two prT (rdB 3) (inLR true))) (seqO (qx 3 (chk prT)) (qx 2 (tupF (jc prV (jc (chk prT) nil1))))) nxO [.shr (.int (n1/8/9)),.shr (.int M),.own (.lst (l.map dPr)),.own (.lst ((l.map (·.2)).map tI)),.shr (.int k),.own (.lst (qs.map D.int)),v6,.shr (.int (n1%8)),.shr (.int (n1/8%9)),v9]=r)->prB [.shr (.int n),.shr (.int M),.own (.lst (l.map dPr)),.own (.lst ((l.map (·.2)).map tI)),.shr (.int k),u5,u6,u7,u8,u9]=r:=fun r hr=>by
   unfold prB;refine (ji rfl).trans ?_;refine (ji ((zw ?_).trans e1)).trans ?_
   · exact xc (j:=M) (jb rfl rfl) (by omega)
   refine (ji e2).trans ?_;refine (ji (wE (UC rfl rfl (by omega)))).trans ?_;refine (ji (wE (UC rfl rfl (by omega)))).trans hr
 have hin:asB (two prT (rdB 3) (inLR true)) [.shr (.int (n1/8/9)),.shr (.int M),.own (.lst (l.map dPr)),.own (.lst ((l.map (·.2)).map tI)),.shr (.int k),.own (.lst (qs.map D.int)),v6,.shr (.int (n1%8)),.shr (.int (n1/8%9)),v9]= .ok (!decide (qs∈l.map (·.2))):=jx (je (hT _ rfl) rfl (jfP _ _))
 by_cases hs:qs∈l.map (·.2)
 · rw [decide_eq_true hs] at hin;refine ⟨n1/8/9,l,_,_,_,_,_,pre _ ((if_f hin)),hp,by omega,fun j hj hjM=>?_,?_⟩
   · by_cases e:j=k
     · subst e;obtain ⟨p,hpm,hpe⟩:=aat.mp hs;obtain ⟨x,hx1,hx2⟩:=h5 hjM;exact ⟨p,hpm,x,by rw [hpe];exact hx1,hx2⟩
     · exact hmet j (by omega) hjM
   · obtain ⟨p,hpm,_⟩:=aat.mp hs;exact adE hpm
 · rw [decide_eq_false hs] at hin;obtain ⟨r,hr,r0,r1⟩:=jbw (n1%8) (n1/8%9) (by omega) (by omega) (by omega)
   have hV: ∀env:Sl,env[8]?=some (.shr (.int (n1/8%9)))->env[7]?=some (.shr (.int (n1%8)))->prV env= .ok (.int r):=fun env he he7=>by
     have e8:rdS 8 env= .ok (.int (n1/8%9)):=by unfold rdS;rw [he]
     have e7:rdS 7 env= .ok (.int (n1%8)):=by unfold rdS;rw [he7]
     unfold prV;exact je (wg (jb rfl (jb rfl (jb rfl (jb rfl (jb (je rfl e8 rfl) (jb (je rfl e8 rfl) (jb rfl (jb (je (je rfl rfl Xk) e8 rfl) rfl)))))))) (jm (show 8<=20000 by decide))) e7 hr
   refine ⟨n1/8/9,l++[(r,qs)],.own (.lst (qs.map D.int)),v6,.shr (.int (n1%8)),.shr (.int (n1/8%9)),v9,pre _ ((if_t hin).trans ?_),hp.more ⟨r0,r1⟩ h3 h4 hs,by rw [aaC];simp;omega,fun j hj hjM=>?_,by rw [aaC];simp⟩
   · refine (ji (zZ rfl (ZN (hT _ rfl) himm) (by rw [aaj,aaj];exact aas (show l.length<20 by omega) (by decide)))).trans ?_;refine (zZ rfl (qR (ds:=[.int r,tI qs]) (jb (hV _ rfl rfl) (jb (ZN (hT _ rfl) himm) rfl)) (jm (show 2<=20000 by decide))) (by rw [aaj];exact aas (show l.length<20 by omega) (by decide))).trans ?_;rw [aa3,aa3,aa3];rfl
   · by_cases e:j=k
     · subst e;obtain ⟨x,hx1,hx2⟩:=h5 hjM;exact ⟨(r,qs),aaU _ (aaJ.mpr rfl),x,hx1,hx2⟩
     · obtain ⟨p,a,b⟩:=hmet j (by omega) hjM;exact ⟨p,abi _ a,b⟩
theorem yX (a:Nat): ∀n,q0 (a:Int) n=(List.range' a n).map fun (j:Nat)=>D.int j
 |0=>rfl
 |n+1=>by
  rw [aeZ,aaB,←yX (a+1) n,ZF];rfl
def YF (n:Int) (M:Nat) (hM:M<=9): ∃(n':Int) (l:List (Int×List Int)),qZ [.int n,.int M]= .ok (.tup [.lst (l.map dPr),.int n'])/\Pr M l/\l.length<=M+1/\(∀j,j<M->Met l j)/\0<l.length:=by
 obtain ⟨env1,l1,n1,l,k,v4,v5,v6,v7,v8,v9,rfl,hd,hk,hp,hlen,hmet,hne⟩:=xj (body:=qo (gN 4) prB)
   (fun ds env=> ∃(n:Int) (l:List (Int×List Int)) (k:Nat) (v4 v5 v6 v7 v8 v9:Slot),env=[.shr (.int n),.shr (.int M),.own (.lst (l.map dPr)),.own (.lst ((l.map (·.2)).map tI)),v4,v5,v6,v7,v8,v9]/\ds=(List.range' k (M+1-k)).map (fun (j:Nat)=>D.int j)/\k<=M+1/\Pr M l/\l.length<=k/\(∀j,j<k->j<M->Met l j)/\(0<k->0<l.length))
   (by
    rintro d ds env ⟨n,l,k,v4,v5,v6,v7,v8,v9,rfl,hd,hk,hp,hlen,hmet,hne⟩
    have hkM:k<=M:=by
     refine acM fun z=>?_
     rw [show M+1-k=0 by omega] at hd;cases hd
    rw [show M+1-k=(M+1-(k+1))+1 by omega,aeZ,aaB,adB] at hd;obtain ⟨rfl,hd⟩:=hd;obtain ⟨n',l',w5,w6,w7,w8,w9,e,a1,a2,a3,a4⟩:=jdf n M k hM hkM l hp hlen hmet hne v5 v6 v7 v8 v9;refine ⟨_,?_,n',l',k+1,.shr (.int k),w5,w6,w7,w8,w9,rfl,hd,by omega,a1,a2,a3,fun _=>a4⟩;rw [qm rfl]
    exact e)
   (q0 0 (M+1)) [.shr (.int n),.shr (.int M),.own (.lst []),.own (.lst []),.un,.un,.un,.un,.un,.un] ⟨n,[],0,.un,.un,.un,.un,.un,.un,rfl,yX 0 (M+1),by omega,⟨(fun _ h=>by cases h),.nil⟩,aag _,(fun j h=>absurd h (aci _)),fun h=>absurd h (abq _)⟩
 have hkM:k=M+1:=by
   have:=congrArg List.length hd;rw [aaj,List.length_range'] at this;simp at this;omega
 subst hkM;refine ⟨n1,l,?_,hp,hlen,fun j hj=>hmet j (by omega) hj,hne (by omega)⟩;refine zP ?_;unfold zU;refine (ji rfl).trans ?_;refine (ji rfl).trans ?_;refine (ji ((zw ?_).trans l1)).trans ?_
 · have:=xc (fa:=jc (two (rdS 1) (cI 1) addD) nil1) (env:=[.shr (.int n),.shr (.int M),.own (.lst []),.own (.lst []),.un,.un,.un,.un,.un,.un]) (jb (je rfl rfl rfl) rfl) (by omega)
   rwa [show ((M:Int)+1).toNat=M+1 by omega] at this
 exact j3 (qR (jb rfl (jb rfl rfl)) (jm (show 2<=20000 by decide)))
structure En where
 z:Str
 m:Nat
 l:List (Int×List Int)
structure EnOk (e:En):Prop where
 m:e.m<=9
 pr:Pr e.m e.l
 len:e.l.length<=e.m+1
 met: ∀j,j<e.m->Met e.l j
 pos:0<e.l.length
def hdN (z:Str) (m:Nat):D:= .tup [.str z,.int m]
def dEn (e:En):D:= .tup [hdN e.z e.m,.lst (e.l.map dPr)]
abbrev ppB (f:TD):Sl->Res Out:=seqO (asgO (jy 2 f (jc (rdS 0) (jc (two (rdS 3) (cI 1) ixD) nil1))) (g2 (gN 4) (gN 0))) (qx 2 (tupF (jc (rdS 3) (jc (rdS 4) nil1))))
def YI (n:Int) (hs:List (Str×Nat)) (hh: ∀h∈hs,h.2<=9) (hl:hs.length<=60): ∃es:List En,yh [.int n,.lst (hs.map fun h=>hdN h.1 h.2)]= .ok (.lst (es.map dEn))/\(es.map fun e=>(e.z,e.m))=hs/\ ∀e∈es,EnOk e:=by
 obtain ⟨env1,l1,n1,es,r,v3,v4,rfl,hd,h2,h3,hr⟩:=xj (body:=qo (gN 3) (ppB qZ))
  (fun ds env=> ∃(n:Int) (es:List En) (r:List (Str×Nat)) (v3 v4:Slot),env=[.shr (.int n),.shr (.lst (hs.map fun h=>hdN h.1 h.2)),.own (.lst (es.map dEn)),v3,v4]/\ds=r.map (fun h=>hdN h.1 h.2)/\(es.map fun e=>(e.z,e.m))++r=hs/\(∀e∈es,EnOk e)/\ ∀h∈r,h.2<=9)
  (by
   rintro d ds env ⟨n,es,r,v3,v4,rfl,hd,h2,h3,hr⟩
   cases r with
   |nil=>cases hd
   |cons h r=>
    obtain ⟨z,m⟩:=h;simp at hd;obtain ⟨rfl,hd⟩:=hd;obtain ⟨n',l,e1,p1,p2,p3,p4⟩:=YF n m (hr _ aap)
    have hes:es.length<60:=by
      have:=congrArg List.length h2;rw [aaC,aaj] at this;simp at this;omega
    refine ⟨[.shr (.int n'),.shr (.lst (hs.map fun h=>hdN h.1 h.2)),.own (.lst ((es++[En.mk z m l]).map dEn)),.shr (hdN z m),.shr (.lst (l.map dPr))],?_,n',es++[En.mk z m l],r,_,_,rfl,hd,?_,fun e he=>?_,fun h hh=>hr h (aal _ hh)⟩
    · rw [qm rfl];unfold ppB;refine (ji ((wE (jw (jb rfl (jb (je rfl rfl rfl) rfl)) rfl e1)))).trans ?_;refine (zZ rfl (qR (ds:=[hdN z m,.lst (l.map dPr)]) (jb rfl (jb rfl rfl)) (jm (show 2<=20000 by decide))) (by rw [aaj];exact aas hes (by decide))).trans ?_;rw [aa3];rfl
    · rw [aa3,aaY];exact h2
    · rcases aa1.mp he with h|h
      · exact h3 e h
      · rw [aaJ] at h;subst h;exact ⟨hr _ aap,p1,p2,p3,p4⟩)
  (hs.map fun h=>hdN h.1 h.2) [.shr (.int n),.shr (.lst (hs.map fun h=>hdN h.1 h.2)),.own (.lst []),.un,.un] ⟨n,[],hs,.un,.un,rfl,rfl,rfl,(fun _ h=>by cases h),hh⟩
 have hr0:r=[]:=by
  cases r with
  |nil=>rfl
  |cons a b=>cases hd
 subst hr0;refine ⟨es,?_,by simpa using h2,h3⟩;refine zP ?_;unfold xM;refine (ji rfl).trans ?_;refine (ji ((zw (zr rfl rfl)).trans l1)).trans rfl
def jcT (h:f1 env= .ok (.bl true)):toB f1 f2 true env=f2 env:=by
 show (f1 env>>=_)=_;rw [h];rfl
def Qw (i:Int):yE [.int i]= .ok (.bl true):=rfl
def jhf (hz:isNm (.str z)=true) (hm:m<=9):Ze [hdN z m]= .ok (.bl true):=by
 have hn:JQ [.str z]= .ok (.bl true):=by rw [jfS rfl,hz]
 refine zP ?_;unfold QZ;refine (ji rfl).trans ?_;refine j3 ?_
 have c3:yI (cI 0) (two (rdS 0) (cI 1) ixD) (cI 9) leI leI [.shr (hdN z m)]= .ok (.bl true):=by
  have e:yI (cI 0) (two (rdS 0) (cI 1) ixD) (cI 9) leI leI [.shr (hdN z m)]= .ok (.bl (decide ((0:Int)<=m)&&decide ((m:Int)<=9))):=by
   by_cases h:(0:Int)<=m
   · rw [decide_eq_true h];exact (show yI _ _ _ _ _ _=_ from by unfold yI;simp;rfl)
   · omega
  rw [e,decide_eq_true (by omega),decide_eq_true (by omega)];rfl
 exact (jcT (jw (jb (je rfl rfl rfl) rfl) rfl hn)).trans ((jcT (jw (jb (je rfl rfl rfl) rfl) rfl (Qw _))).trans c3)
def WS {f3:TK} {a b c:Int} (h1:f1 env= .ok (.int a)) (h2:f2 env= .ok (.int b)) (h3:f3 env= .ok (.int c)) (hab:a<=b) (hbc:b<=c):yI f1 f2 f3 leI leI env= .ok (.bl true):=by
 have e1:=(show leI (.int a) (.int b)= .ok (.bl (decide (a<=b))) from rfl).trans (by rw [decide_eq_true hab]);unfold yI;rw [h1,h2];simp only [xZ];rw [e1];simp;rw [h3];exact ((show leI (.int b) (.int c)= .ok (.bl (decide (b<=c))) from rfl).trans (by rw [decide_eq_true hbc]))
def jaK {p:Int×List Int} {M:Nat} (hp:(1<=p.1/\p.1<=10^30)/\p.2.length=M/\ ∀x∈p.2,0<=x/\x<=2) (hM:M<=9):wq [dPr p,.int M]= .ok (.bl true):=by
 obtain ⟨⟨h1,h2⟩,h3,h4⟩:=hp;refine zP ?_;unfold xK;refine (ji rfl).trans ?_;refine (ji ((if_f (YM (qr (jx (jw (jb (je rfl rfl rfl) rfl) rfl (Qw _)))) (qr (jx (WS rfl (je rfl rfl rfl) (je rfl rfl Xk) h1 h2))))))).trans ?_
 have c3:asB (two (app (jc (two (rdS 0) (cI 1) ixD) nil1) lenD) (rdS 1) neR) [.shr (dPr p),.shr (.int M)]= .ok false:=by
   refine jx (je (jY (jb (je rfl rfl rfl) rfl) (show lenD [tI p.2]= .ok (.int M) from ?_)) rfl ?_)
   · show Res.ok (D.int ((p.2.map D.int).length))=_;rw [aaj,h3]
   · exact (KY).trans (by simp)
 refine (ji ((if_f (YM (qr (jx (wP (x:=tI p.2) (je rfl rfl rfl) rfl))) c3)))).trans ?_;refine j3 (jY (jb (Jd (fun _=>D.bl true) (fun d=> ∃x:Int,d= .int x/\0<=x/\x<=2) rfl (zr (je rfl rfl rfl) rfl) (fun d hd=>?_) ?_ (fun d acc hd=>?_)) rfl) ?_)
 · obtain ⟨x,hx,rfl⟩:=aat.mp hd;exact ⟨x,rfl,h4 x hx⟩
 · rw [aaj];exact jm (by omega)
 · obtain ⟨x,rfl,a,b⟩:=hd;exact (jcT (jw (jb rfl rfl) rfl (Qw x))).trans (WS rfl rfl rfl a b)
 · have:=JP (p.2.map D.int) (fun _=>true);rw [this];simp
theorem X3 {pr:α->D×D} {cs:List Slot} (h:α->D) (P:α->Prop) (hf: ∀q acc,P q->fe (.shr (pr q).1:: .shr (pr q).2::(cs++[.own (.lst acc)]))= .ok (h q)):
  ∀(L:List α) (x x2:Slot) (acc:List D),(∀q∈L,P q)->acc.length+L.length<=aak->
   ∃(y y2:Slot),wD (2+cs.length) (g2 (gN 0) (gN 1)) qp fe (L.map fun q=> .tup [(pr q).1,(pr q).2]) (x::x2::(cs++[.own (.lst acc)]))= .ok (y::y2::(cs++[.own (.lst (acc++L.map h))]))
 | [],x,x2,acc,_,_=>⟨x,x2,by simp [wD]⟩
 |q::L,x,x2,acc,hP,hl=>by
  simp at hl;have ht:=hf q acc (hP q (by simp));obtain ⟨y,y2,h1⟩:=X3 h P hf L (.shr (pr q).1) (.shr (pr q).2) (acc++[h q]) (fun e he=>hP e (by simp [he])) (by simp;omega);refine ⟨y,y2,?_⟩
  have e1:ownL (2+cs.length) (.shr (pr q).1:: .shr (pr q).2::(cs++[.own (.lst acc)]))= .ok acc:=by
   unfold ownL;rw [show (2+cs.length)=cs.length+1+1 by omega,aaW,aaW,aaq (aag _)];simp
  have e2:(Slot.shr (pr q).1::Slot.shr (pr q).2::(cs++[Slot.own (.lst acc)])).set (2+cs.length) (.own (.lst (acc++[h q])))= .shr (pr q).1:: .shr (pr q).2::(cs++[.own (.lst (acc++[h q]))]):=by
   rw [show (2+cs.length)=cs.length+1+1 by omega,aez,aez,List.set_append_right _ _ (aag _)];simp
  show (fe (.shr (pr q).1:: .shr (pr q).2::(cs++[.own (.lst acc)]))>>=_)=_;rw [ht];show (ownL (2+cs.length) (.shr (pr q).1:: .shr (pr q).2::(cs++[.own (.lst acc)]))>>=_)=_;rw [e1];show must _ _=_;rw [jo (by omega)];show wD _ _ _ _ (L.map fun q=>D.tup [(pr q).1,(pr q).2]) ((Slot.shr (pr q).1::Slot.shr (pr q).2::(cs++[Slot.own (.lst acc)])).set (2+cs.length) (.own (.lst (acc++[h q]))))=_;rw [e2,h1];simp
def Qt (pr:α->D×D) {fe:TK} {L:List α} {cs:List Slot} (h:α->D) (P:α->Prop) (hc:js.map (capS false env)=cs) (hi:fi env= .ok (L.map fun q=> .tup [(pr q).1,(pr q).2])) (hP: ∀q∈L,P q) (hl:L.length<=aak)
  (hf: ∀q acc,P q->fe (.shr (pr q).1:: .shr (pr q).2::(cs++[.own (.lst acc)]))= .ok (h q)):qQ false 2 js fi (g2 (gN 0) (gN 1)) qp fe env= .ok (.lst (L.map h)):=by
 obtain ⟨y,y2,h1⟩:=X3 h P hf L .un .un [] hP (by simpa using hl);have hlen:js.length=cs.length:=by rw [←hc];simp
 show (fi env>>=_)=_;rw [hi];show (wD (2+js.length) (g2 (gN 0) (gN 1)) qp fe (L.map fun q=>D.tup [(pr q).1,(pr q).2]) (wV false 2 js env)>>=_)=_
 have he:wV false 2 js env= .un:: .un::(cs++[.own (.lst [])]):=by
  unfold wV;rw [hc];rfl
 rw [he,hlen,h1];show (ownL (2+cs.length) (y::y2::(cs++[.own (.lst ([]++L.map h))]))>>=_)=_
 have e1:ownL (2+cs.length) (y::y2::(cs++[.own (.lst ([]++L.map h))]))= .ok (L.map h):=by
  unfold ownL;rw [show (2+cs.length)=cs.length+1+1 by omega,aaW,aaW,aaq (aag _)];simp
 rw [e1];exact jo (c:=false=true->D.imms (L.map h)=true) (fun h=>by cases h)
theorem ZD: ∀ps:List Int,XC (ps.map D.int)=some (ps.map acQ)
 | []=>rfl
 |x::r=>by
  show (match keyD (.int x),XC (r.map D.int) with
   |some k,some ks=>some (k::ks)
   |_,_=>none)=_
  rw [ZD r];rfl
theorem jb5: ∀l:List (List Int),tksD (l.map tI)=some (l.map fun ps=>ps.map acQ)
 | []=>rfl
 |x::r=>by
  show (match keyT (tI x),tksD (r.map tI) with
   |some k,some ks=>some (k::ks)
   |_,_=>none)=_
  rw [jb5 r,show keyT (tI x)=XC (x.map D.int) from rfl,ZD x];rfl
def vv {l:List (List Int)} (h:l.Nodup) (hl:l.length<=76):Xz (.lst (l.map tI))= .ok (.int l.length):=by
 have hn:(l.map fun ps=>(ps.map acQ:List Key)).Nodup:=aby.mpr (h.imp fun {a b} hab e=>hab (by
  have inj: ∀ {a b:List Int},(a.map acQ:List Key)=b.map acQ->a=b:=by
   intro a
   induction a with
   |nil=>intro b h;cases b with
    |nil=>rfl
    |cons y b=>cases h
   |cons x a ih=>intro b h;cases b with
    |nil=>cases h
    |cons y b=>
     simp at h;rw [h.1,ih h.2]
  exact inj e))
 show (match tksD (l.map tI) with
   |some ks=>must (ks.length<=76) (Res.ok (D.int (nT ks)))
   |none=>Res.stuck)=_
 rw [jb5];dsimp only;rw [jo (by rw [aaj];exact hl),KZ hn,aaj]
def k9 (i:Int):neR (.int i) (.int i)= .ok (.bl false):=(KY).trans (by simp)
def any_map (l:List α) (p:α->Bool):anyD [.lst (l.map fun c=>D.bl (p c))]= .ok (.bl (l.any p)):=by
 have hb:Zb (l.map fun c=>D.bl (p c))=some (l.map p):=by
  induction l with
  |nil=>rfl
  |cons a l ih=>simp only [aaB,Zb,ih];rfl
 show (match Zb (l.map fun c=>D.bl (p c)) with
  |some bs=>Res.ok (D.bl (bs.any id))
  |none=>Res.stuck)=_
 rw [hb];dsimp only;rw [afa];rfl
def kZ {e:En} (ok:EnOk e) (hz:isNm (.str e.z)=true):zJ [dEn e]= .ok (.bl true):=by
 have hl40:e.l.length<=40:=by have:=ok.len;have:=ok.m;omega
 refine zP ?_;unfold xh;refine (ji ((if_f (YM (qr (jx (wP (x:=dEn e) rfl rfl))) (YM (jx (je (jY (jb rfl rfl) rfl) rfl (k9 2))) (qr (jx (jw (jb (je rfl rfl rfl) rfl) rfl (jhf hz ok.m))))))))).trans ?_;refine (ji ((jt (je rfl rfl rfl)))).trans ?_;have a3:asB (yI (cI 1) (app (jc (rdS 1) nil1) lenD) (cI 40) leI leI) [.shr (dEn e),.shr (.lst (e.l.map dPr)),.un]= .ok true:=jx (WS rfl (jY (jb rfl rfl) (by show Res.ok (D.int ((e.l.map dPr).length))=_;rw [aaj])) rfl (by have:=ok.pos;omega) (by omega));refine (ji ((if_f (YM (qr (jx (wP (x:= .lst (e.l.map dPr)) rfl rfl))) (qr a3))))).trans ?_;refine (ji ((jt (je (je rfl rfl rfl) rfl rfl)))).trans ?_
 have a4:asB (app (jc (qQ false 1 [2] (itF (rdS 1)) (gN 0) qp (jy 2 wq (jc (rdS 0) (jc (rdS 1) nil1)))) nil1) allD) [.shr (dEn e),.shr (.lst (e.l.map dPr)),.shr (.int e.m)]= .ok true:=by
   refine jx (jY (jb (Jd (fun _=>D.bl true) (fun d=> ∃p∈e.l,d=dPr p) rfl (zr rfl rfl) (fun d hd=>?_) ?_ (fun d acc hd=>?_)) rfl) ?_)
   · obtain ⟨p,hp,rfl⟩:=aat.mp hd;exact ⟨p,hp,rfl⟩
   · rw [aaj];exact jm (by omega)
   · obtain ⟨p,hp,rfl⟩:=hd;exact jw (jb rfl (jb rfl rfl)) rfl (jaK (ok.pr.ok p hp) ok.m)
   · have:=JP (e.l.map dPr) (fun _=>true);rw [this];simp
 refine (ji ((if_f (qr a4)))).trans ?_;have hmap:(e.l.map dPr)=e.l.map fun q=>D.tup [D.int q.1,tI q.2]:=rfl
 have a5:asB (two (XA (qQ false 2 [] (itF (rdS 1)) (g2 (gN 0) (gN 1)) qp (rdS 1))) (app (jc (rdS 1) nil1) lenD) neR) [.shr (dEn e),.shr (.lst (e.l.map dPr)),.shr (.int e.m)]= .ok false:=by
   have c1:qQ false 2 [] (itF (rdS 1)) (g2 (gN 0) (gN 1)) qp (rdS 1) [.shr (dEn e),.shr (.lst (e.l.map dPr)),.shr (.int e.m)]= .ok (.lst (e.l.map fun q=>tI q.2)):=Qt (fun q:Int×List Int=>(D.int q.1,tI q.2)) (fun q=>tI q.2) (fun _=>True) rfl (zr rfl rfl) (fun _ _=>trivial) (jm (by omega)) (fun q acc _=>rfl)
   have c2:XA (qQ false 2 [] (itF (rdS 1)) (g2 (gN 0) (gN 1)) qp (rdS 1)) [.shr (dEn e),.shr (.lst (e.l.map dPr)),.shr (.int e.m)]= .ok (.int e.l.length):=by
     unfold XA;rw [c1];have:=vv ok.pr.nd (by rw [aaj];omega)
     rwa [abb,aaj] at this
   exact jx (je c2 (jY (jb rfl rfl) (by show Res.ok (D.int ((e.l.map dPr).length))= .ok (.int e.l.length);rw [aaj])) (k9 _))
 refine (ji ((if_f a5))).trans ?_;refine j3 (jY (ds:=[.lst ((q0 0 e.m).map fun _=>D.bl true)]) (jb (Jd (fun _=>D.bl true) (fun d=> ∃j:Nat,j<e.m/\d= .int j) rfl (xc (j:=e.m) (jb rfl rfl) (by have:=ok.m;omega)) (fun d hd=>?_) ?_ (fun d acc hd=>?_)) rfl) ?_)
 · obtain ⟨k,rfl,h0,h1⟩:=Xv hd;exact ⟨k.toNat,by omega,by rw [show ((k.toNat:Nat):Int)=k by omega]⟩
 · rw [zt];exact jm (by have:=ok.m;omega)
 · obtain ⟨j,hj,rfl⟩:=hd
   have c1:qQ false 2 [0] (itF (rdS 1)) (g2 (gN 0) (gN 1)) qp (two (two (rdS 1) (rdS 2) ixD) (cI 0) gtI) (.shr (.int j)::([.shr (.lst (e.l.map dPr))]++[.own (.lst acc)]))= .ok (.lst (e.l.map fun q=>D.bl (decide (0< (q.2[j]?).getD 0)))):=Qt (fun q:Int×List Int=>(D.int q.1,tI q.2)) (fun q=>D.bl (decide (0< (q.2[j]?).getD 0))) (fun q=>q∈e.l) rfl (zr rfl rfl) (fun _ h=>h) (jm (by omega)) (fun q acc hq=>by
     have hjl:j<q.2.length:=by rw [(ok.pr.ok q hq).2.1];exact hj
     have hix:ixD (tI q.2) (.int (j:Int))= .ok (.int q.2[j]):=by
      simp only [tI,ixD];rw [M.atI_nat,aaE,aad hjl];rfl
     rw [aad hjl]
     exact je (je rfl rfl hix) rfl rfl)
   refine jY (jb c1 rfl) ?_;rw [any_map];obtain ⟨p,hp,x,hx,h0⟩:=ok.met j hj;rw [ab6.mpr ⟨p,hp,by rw [hx];simpa using h0⟩]
 · have:=JP (q0 0 e.m) (fun _=>true);rw [this];simp
theorem jb7: ∀l:List (Str×Nat),tksD (l.map fun h=>hdN h.1 h.2)=some (l.map fun h=>[aeR h.1,acQ (h.2:Int)])
 | []=>rfl
 |x::r=>by
  show (match keyT (hdN x.1 x.2),tksD (r.map fun h=>hdN h.1 h.2) with
   |some k,some ks=>some (k::ks)
   |_,_=>none)=_
  rw [jb7 r];rfl
def vw {l:List (Str×Nat)} (h:l.Nodup) (hl:l.length<=76):Xz (.lst (l.map fun h=>hdN h.1 h.2))= .ok (.int l.length):=by
 have hn:(l.map fun h=>([aeR h.1,acQ (h.2:Int)]:List Key)).Nodup:=aby.mpr (h.imp fun {a b} hab e=>hab (by
  simp at e
  exact Prod.ext e.1 (by omega)))
 show (match tksD (l.map fun h=>hdN h.1 h.2) with
   |some ks=>must (ks.length<=76) (Res.ok (D.int (nT ks)))
   |none=>Res.stuck)=_
 rw [jb7];dsimp only;rw [jo (by rw [aaj];exact hl),KZ hn,aaj]
def fstD:D->D
 | .tup (x::_)=>x
 |_=> .non
def jef (i:Int):eqR (.int i) (.int i)= .ok (.bl true):=(show eqR (.int i) (.int i)= .ok (.bl (i==i)) from rfl).trans (by simp)
def are1 {es:List En} (ok: ∀e∈es,EnOk e) (hz: ∀e∈es,isNm (.str e.z)=true) (nd:(es.map fun e=>(e.z,e.m)).Nodup) (hl:es.length<=60):jV [.lst (es.map dEn)]= .ok (.bl true):=by
 refine zP ?_;unfold xi;have hlen:lenD [.lst (es.map dEn)]= .ok (.int es.length):=by show Res.ok (D.int ((es.map dEn).length))=_;rw [aaj]
 have a1:asB (two (app (jc (rdS 0) nil1) lenD) (cI 60) gtI) [.shr (.lst (es.map dEn))]= .ok (decide ((60:Int)<es.length)):=jx (je (jY (jb rfl rfl) hlen) rfl rfl);rw [decide_eq_false (by omega)] at a1;refine (ji ((if_f (YM (qr (jx (wP (x:= .lst (es.map dEn)) rfl rfl))) a1)))).trans ?_
 have a2:asB (app (jc (qQ false 1 [] (itF (rdS 0)) (gN 0) qp (jy 1 zJ (jc (rdS 0) nil1))) nil1) allD) [.shr (.lst (es.map dEn))]= .ok true:=by
  refine jx (jY (jb (Jd (fun _=>D.bl true) (fun d=> ∃e∈es,d=dEn e) rfl (zr rfl rfl) (fun d hd=>?_) ?_ (fun d acc hd=>?_)) rfl) ?_)
  · obtain ⟨p,hp,rfl⟩:=aat.mp hd;exact ⟨p,hp,rfl⟩
  · rw [aaj];exact jm (by omega)
  · obtain ⟨p,hp,rfl⟩:=hd;exact jw (jb rfl rfl) rfl (kZ (ok p hp) (hz p hp))
  · have:=JP (es.map dEn) (fun _=>true);rw [this];simp
 refine (ji ((if_f (qr a2)))).trans ?_
 have c1:qQ false 1 [] (itF (rdS 0)) (gN 0) qp (two (rdS 0) (cI 0) ixD) [.shr (.lst (es.map dEn))]= .ok (.lst ((es.map dEn).map fstD)):=Jd fstD (fun d=> ∃e∈es,d=dEn e) rfl (zr rfl rfl) (fun d hd=>by
    obtain ⟨p,hp,rfl⟩:=aat.mp hd
    exact ⟨p,hp,rfl⟩) (by rw [aaj];exact jm (by omega)) (fun d acc hd=>by
    obtain ⟨p,hp,rfl⟩:=hd
    exact je rfl rfl rfl)
 have c2:XA (qQ false 1 [] (itF (rdS 0)) (gN 0) qp (two (rdS 0) (cI 0) ixD)) [.shr (.lst (es.map dEn))]= .ok (.int es.length):=by
  unfold XA;rw [c1];have:=vw nd (by rw [aaj];omega);rw [abb,aaj] at this;rw [abb];exact this
 exact j3 (je c2 (jY (jb rfl rfl) hlen) (jef _))
def jd3 {ks:List (List Key)} {k:List Key} (h:k∉ks):hasT ks k=false:=by
 unfold hasT;rw [aeL];intro x hx e;exact h (by rw [←of_decide_eq_true e];exact hx)
theorem Xh: ∀(ps:List (List Key×D)) (q:List (List Key)×List D),(q.1++ps.map (·.1)).Nodup->ps.foldl Zk q=(q.1++ps.map (·.1),q.2++ps.map (·.2))
 | [],q,_=>by simp
 |p::ps,q,h=>by
  have hno:p.1∉q.1:=fun z=>by
   rw [aaB] at h;exact (abI.mp h).2.2 _ z _ aap rfl
  rw [aef]
  have e:Zk q p=(q.1++[p.1],q.2++[p.2]):=by
   unfold Zk Zi Zj;rw [jd3 hno];rfl
  rw [e,Xh ps _ (by simpa using h)];simp
def kyN (h:Str×Nat):List Key:=[aeR h.1,acQ (h.2:Int)]
def jdR {a b:Str×Nat} (h:kyN a=kyN b):a=b:=by
 simp only [kyN,adB,Sum.inr.injEq,Sum.inl.injEq,and_true] at h;exact Prod.ext h.1 (by omega)
def bhD (es:List En):D:= .dit (es.map fun e=>kyN (e.z,e.m)) (es.map fun e=> .lst (e.l.map dPr))
theorem kE: ∀es:List En,prsD (es.map dEn)=some (es.map fun e=>(kyN (e.z,e.m),D.lst (e.l.map dPr)))
 | []=>rfl
 |e::es=>by
  show (match keyT (hdN e.z e.m),prsD (es.map dEn) with
   |some k,some q=>some ((k,D.lst (e.l.map dPr))::q)
   |_,_=>none)=_
  rw [kE es];rfl
def vA {es:List En} (nd:(es.map fun e=>(e.z,e.m)).Nodup):(es.map fun e=>kyN (e.z,e.m)).Nodup:=by
 have:=aby.mp nd;exact aby.mpr (this.imp fun {a b} hab e=>hab (jdR e))
def jbI {es:List En} (nd:(es.map fun e=>(e.z,e.m)).Nodup):ZL [.lst (es.map dEn)]= .ok (bhD es):=by
 show (match prsD (es.map dEn) with
  |some ps=>Res.ok (D.dit (ps.foldl Zk ([],[])).1 (ps.foldl Zk ([],[])).2)
  |none=>Res.stuck)=_
 rw [kE];dsimp only;rw [Xh _ _ (by simpa [abb,aeP] using vA nd)];simp [bhD,abb,aeP]
def ppD (es:List En):D:= .obj "Numbers" ["products"] [bhD es]
def jhb {es:List En} (ok: ∀e∈es,EnOk e) (hz: ∀e∈es,isNm (.str e.z)=true) (nd:(es.map fun e=>(e.z,e.m)).Nodup) (hl:es.length<=60):jU (.obj "Numbers" [] []) [.lst (es.map dEn)]= .ok (.non,ppD es):=by
 have c:asB (jy 1 jV (jc (rdS 1) nil1)) [.own (.obj "Numbers" [] []),.shr (.lst (es.map dEn))]= .ok true:=jx (jw (jb rfl rfl) rfl (are1 ok hz nd hl));have d:app (jc (qQ false 2 [] (itF (rdS 1)) (g2 (gN 0) (gN 1)) qp (tupF (jc (rdS 0) (jc (app (jc (rdS 1) nil1) vq) nil1)))) nil1) ZL [.own (.obj "Numbers" [] []),.shr (.lst (es.map dEn))]= .ok (bhD es):=jY (jb (Qt (fun e:En=>(hdN e.z e.m,D.lst (e.l.map dPr))) dEn (fun _=>True) rfl (zr rfl rfl) (fun _ _=>trivial) (jm (by omega)) (fun e acc _=>qR (jb rfl (jb (jY (jb rfl rfl) rfl) rfl)) (jm (show 2<=20000 by decide)))) rfl) (jbI nd)
 have hg:jT jV [.own (.obj "Numbers" [] []),.shr (.lst (es.map dEn))]= .ok (.nx [.own (ppD es),.shr (.lst (es.map dEn))]):=by
  have h1:ifJ (notB (asB (jy 1 jV (jc (rdS 1) nil1)))) Ks nxJ [.own (.obj "Numbers" [] []),.shr (.lst (es.map dEn))]= .ok (.nx [.own (.obj "Numbers" [] []),.shr (.lst (es.map dEn))]):=by
   show (notB (asB (jy 1 jV (jc (rdS 1) nil1))) _>>=_)=_;rw [qr c];rfl
  unfold jT;show (ifJ (notB (asB (jy 1 jV (jc (rdS 1) nil1)))) Ks nxJ _>>=_)=_;rw [h1];show (app (jc (qQ false 2 [] (itF (rdS 1)) (g2 (gN 0) (gN 1)) qp (tupF (jc (rdS 0) (jc (app (jc (rdS 1) nil1) vq) nil1)))) nil1) ZL [.own (.obj "Numbers" [] []),.shr (.lst (es.map dEn))]>>=_)=_;rw [d];rfl
 show must (([.lst (es.map dEn)]:List D).length=1) (jT jV [.own (.obj "Numbers" [] []),.shr (.lst (es.map dEn))]>>=_)=_;refine (jo (show ([.lst (es.map dEn)]:List D).length=1 from rfl)).trans ?_;rw [hg];rfl
def jg9 {es:List En} (ok: ∀e∈es,EnOk e) (hz: ∀e∈es,isNm (.str e.z)=true) (nd:(es.map fun e=>(e.z,e.m)).Nodup) (hl:es.length<=60) {f:TF} (h:f env= .ok [.lst (es.map dEn)]):jdN "Numbers" 1 jU f env= .ok (ppD es):=by
 show (f env>>=_)=_;rw [h];show must (([.lst (es.map dEn)]:List D).length=1) (jU (.obj "Numbers" [] []) [.lst (es.map dEn)]>>=_)=_;refine (jo (show ([.lst (es.map dEn)]:List D).length=1 from rfl)).trans ?_;rw [jhb ok hz nd hl];rfl
def kK:powI (.int 10) (.int 60)= .ok (.int (10^60)):=(Jq (by decide)).trans rfl
def pW:powW (.int (10^60)) (.int 5)= .ok (.int (10^300)):=by
 have h:PowW (10^60) 5:=⟨by decide,by decide+kernel⟩
 show must (PowW (10^60) 5) (Res.ok (D.int ((10^60)^(5:Int).toNat)))=_;rw [jo h];have:((10:Int)^60)^(5:Int).toNat=10^300:=by decide+kernel
 rw [this]
def ftg:jO []= .ok (.int (10^300)):=zP (j3 (je (je rfl rfl kK) rfl pW))
def mulP:Int->List Int->List Int->Int
 |n,p::ps,b::bs=>mulP (n*b^p.toNat) ps bs
 |n,_,_=>n
abbrev muB:Sl->Res Out:=jC 3 (two (rdS 3) (rdS 5) mulI)
theorem K2 (x0 x1 x2 x4:Slot) (b:Int) (B:Nat) (hb:intBits b<=B): ∀(k:Nat) (ds:List D) (m:Int) (C:Nat) (u6:Slot),ds.length=k->intBits m<=C->C+k*B<=1000000->
  ∃v6,forD (qo (gN 6) muB) ds [x0,x1,x2,.shr (.int m),x4,.shr (.int b),u6]= .ok (.nx [x0,x1,x2,.shr (.int (m*b^k)),x4,.shr (.int b),v6])/\intBits (m*b^k)<=C+k*B
 |0,ds,m,C,u6,hl,hm,_=>by
  obtain rfl:ds=[]:=ad0 hl;exact ⟨u6,by simp [forD],by simpa using hm⟩
 |k+1,ds,m,C,u6,hl,hm,hc=>by
  cases ds with
  |nil=>cases hl
  |cons d ds=>
   have hkb:(k+1)*B=k*B+B:=adQ k B;have h1:=intBits_mul_le hm hb;obtain ⟨v6,e,h2⟩:=K2 x0 x1 x2 x4 b B hb k ds (m*b) (C+B) (.shr d) (by simpa using hl) h1 (by omega);have hp:m*b^(k+1)=m*b*b^k:=by rw [adp,aeA (b^k) b,Int.mul_assoc]
   refine ⟨v6,?_,by rw [hp];omega⟩;rw [hp,←e]
   have ht:qo (gN 6) muB d [x0,x1,x2,.shr (.int m),x4,.shr (.int b),u6]= .ok (.nx [x0,x1,x2,.shr (.int (m*b)),x4,.shr (.int b),.shr d]):=by
    rw [qm rfl];exact (jt (je rfl rfl (Zx (show MulC m b by unfold MulC;omega)))).trans rfl
   show (qo (gN 6) muB d _>>=_)=_;rw [ht];rfl
theorem K1 (x0 x1 x2:Slot) (B:Nat): ∀(ps bs:List Int) (m:Int) (C:Nat) (x4 x5 x6:Slot),(∀p∈ps,0<=p/\p<=2)->(∀b∈bs,intBits b<=B)->intBits m<=C->C+ps.length*(2*B)<=1000000->
  ∃v4 v5 v6,forD (qo (g2 (gN 4) (gN 5)) (forO (rngF (jc (rdS 4) nil1)) (gN 6) muB)) (wd (ps.map D.int) (bs.map D.int)) [x0,x1,x2,.shr (.int m),x4,x5,x6]= .ok (.nx [x0,x1,x2,.shr (.int (mulP m ps bs)),v4,v5,v6])/\intBits (mulP m ps bs)<=C+ps.length*(2*B)
 | [],bs,m,C,x4,x5,x6,_,_,hm,_=>⟨x4,x5,x6,by simp [wd,forD,mulP],by simpa [mulP] using hm⟩
 |p::ps,[],m,C,x4,x5,x6,_,_,hm,_=>⟨x4,x5,x6,by simp [wd,forD,mulP],by simp;exact aaw hm (abO _ _)⟩
 |p::ps,b::bs,m,C,x4,x5,x6,hp,hb,hm,hc=>by
  have hp0:=hp p aap;have hlen:(p::ps).length*(2*B)=ps.length*(2*B)+2*B:=by rw [aaL];exact adQ _ _
  have hpB:p.toNat*B<=2*B:=acy B (by omega);rw [hlen] at hc;obtain ⟨v6,e1,h1⟩:=K2 x0 x1 x2 (.shr (.int p)) b B (hb b aap) p.toNat (q0 0 p.toNat) m C x6 (zt _ _) hm (by omega);obtain ⟨w4,w5,w6,e2,h2⟩:=K1 x0 x1 x2 B ps bs (m*b^p.toNat) (C+2*B) (.shr (.int p)) (.shr (.int b)) v6 (fun q hq=>hp q (aal _ hq)) (fun q hq=>hb q (aal _ hq)) (by omega) (by omega);refine ⟨w4,w5,w6,?_,by rw [hlen];show intBits (mulP (m*b^p.toNat) ps bs)<=_;omega⟩
  have ht:qo (g2 (gN 4) (gN 5)) (forO (rngF (jc (rdS 4) nil1)) (gN 6) muB) (.tup [.int p,.int b]) [x0,x1,x2,.shr (.int m),x4,x5,x6]= .ok (.nx [x0,x1,x2,.shr (.int (m*b^p.toNat)),.shr (.int p),.shr (.int b),v6]):=by
   rw [qm rfl];exact (zw (xc (jb rfl rfl) (by omega))).trans e1
  show (qo (g2 (gN 4) (gN 5)) (forO (rngF (jc (rdS 4) nil1)) (gN 6) muB) (.tup [.int p,.int b]) _>>=_)=_;rw [ht];exact e2
def YR {n:Int} {ps bs:List Int} {B C:Nat} (hp: ∀p∈ps,0<=p/\p<=2) (hb: ∀b∈bs,intBits b<=B) (hn:intBits n<=C) (hc:C+ps.length*(2*B)<=1000000):yg [.int n,tI ps,.lst (bs.map D.int)]= .ok (.int (mulP n ps bs)):=by
 obtain ⟨v4,v5,v6,e,_⟩:=K1 (.shr (.int n)) (.shr (tI ps)) (.shr (.lst (bs.map D.int))) B ps bs n C .un .un .un hp hb hn hc;refine kj ?_;unfold xJ;refine (ji rfl).trans ?_;refine (ji ((zw ?_).trans e)).trans ?_
 · rfl
 · rfl
def cap (T x:Int):Int:=if T<x then T else x
def J6 {T x:Int} (hT:1<=T) (hx:1<=x):1<=cap T x:=by unfold cap;split<;>assumption
def jcO (T x:Int):cap T x<=T:=by unfold cap;split<;>omega
def xX {T x:Int} (h:T<=x):cap T x=T:=by unfold cap;split<;>omega
def xW {T x:Int} (h:x<=T):cap T x=x:=by unfold cap;rw [if_neg (by omega)]
def Qb {a b:Int} (ha:1<=a) (hb:0<=b):b<=a*b:=by
 have:=adV ha hb;omega
def uY {T x y:Int} (hT:1<=T) (hx:1<=x) (hy:1<=y):cap T (cap T x*cap T y)=cap T (x*y):=by
 by_cases h1:x<=T
 · rw [xW h1]
   by_cases h2:y<=T
   · rw [xW h2]
   · rw [xX (x:=y) (by omega),xX (Qb hx (by omega)),xX];exact adU (by omega:T<=y) (Qb hx (by omega))
 · have hc:=J6 hT hy;rw [xX (x:=x) (by omega),xX,xX]
   · have:=Qb hy (show (0:Int)<=x by omega);rw [aeA] at this;omega
   · have:=Qb hc (show (0:Int)<=T by omega);rw [aeA] at this;exact this
def jeB {T x:Int}:cap T (cap T x)=cap T x:=xW (jcO T x)
def VG {T x x' y y':Int} (hT:1<=T) (hx:1<=x) (hy:1<=y) (hx':1<=x') (hy':1<=y') (ex:cap T x=cap T x') (ey:cap T y=cap T y'):cap T (x*y)=cap T (x'*y'):=by
 rw [←uY hT hx hy,←uY hT hx' hy',ex,ey]
theorem xf {b:Int} (hb:1<=b): ∀k:Nat,1<=b^k
 |0=>by simp
 |k+1=>by
  rw [adp];have h1:=xf hb k;exact adU hb (Qb h1 (by omega))
theorem uW {T b:Int} (hT:1<=T) (hb:1<=b): ∀k:Nat,cap T ((cap T b)^k)=cap T (b^k)
 |0=>by rw [afd,afd]
 |k+1=>by
  rw [adp,adp];exact VG hT (xf (J6 hT hb) k) (J6 hT hb) (xf hb k) hb (uW hT hb k) jeB
theorem Jy: ∀(ps bs:List Int) (n:Int),1<=n->(∀b∈bs,1<=b)->1<=mulP n ps bs
 | [],bs,n,hn,_=>by cases bs<;>exact hn
 |_::_,[],n,hn,_=>hn
 |p::ps,b::bs,n,hn,hb=>by
  refine Jy ps bs _ ?_ fun q hq=>hb q (aal _ hq)
  exact adU (xf (hb b aap) p.toNat) (Qb hn (by have:=xf (hb b aap) p.toNat;omega))
theorem K0 {T:Int} (hT:1<=T): ∀(ps bs:List Int) (n n':Int),1<=n->1<=n'->cap T n=cap T n'->(∀b∈bs,1<=b)->cap T (mulP n ps (bs.map (cap T)))=cap T (mulP n' ps bs)
 | [],bs,n,n',_,_,e,_=>by cases bs<;>exact e
 |_::_,[],n,n',_,_,e,_=>e
 |p::ps,b::bs,n,n',hn,hn',e,hb=>by
  have b1:=hb b aap;have p1:=xf b1 p.toNat;have p2:=xf (J6 hT b1) p.toNat;exact K0 hT ps bs _ _ (adU p2 (Qb hn (by omega))) (adU p1 (Qb hn' (by omega))) (VG hT hn p2 hn' p1 e (uW hT b1 p.toNat)) fun q hq=>hb q (aal _ hq)
def uZ {T x y:Int} (hT:1<=T) (hx:0<=x) (hy:0<=y):cap T (cap T x+cap T y)=cap T (x+y):=by
 unfold cap;repeat' split
 all_goals omega
theorem wI: ∀ {l:List Int},(∀x∈l,0<=x)->0<=l.sum
 | [],_=>by simp
 |a::l,h=>by
  have h1:=h a aap;have h2:=wI fun x hx=>h x (aal _ hx)
  rw [ac2];omega
theorem UV {T:Int} (hT:1<=T) (f g:α->Int): ∀l:List α,(∀x∈l,0<=f x/\0<=g x/\cap T (f x)=cap T (g x))->cap T ((l.map f).sum)=cap T ((l.map g).sum)
 | [],_=>rfl
 |a::l,h=>by
  obtain ⟨h1,h2,h3⟩:=h a aap;have ih:=UV hT f g l fun x hx=>h x (aal _ hx)
  have s1:=wI fun x hx=>by
   obtain ⟨y,hy,rfl⟩:=aat.mp hx;exact (h y (aal _ hy)).1
  have s2:=wI fun x hx=>by
   obtain ⟨y,hy,rfl⟩:=aat.mp hx;exact (h y (aal _ hy)).2.1
  rw [aaB,aaB,ac2,ac2,←uZ hT h1 s1,←uZ hT h2 s2,h3,ih]
section
variable {ns:List Str}
theorem jch: ∀(n:Nat) (d:D),fine d=true->hgt d<=n->num d<=1000->zD n [d]= .ok (.lst (pts d))
 |0,d,_,h,_=>by have:=jd0 d;omega
 |n+1,d,hf,hh,hn=>by
  have hk:=uk hf;rw [jct] at hh;rw [jfN] at hn
  have key:=XQ (body:=qo (gN 2) (Q4 1 (jy 1 (zD n) (jc (rdS 2) nil1)))) (fun (a:List D×Slot)=>[.shr d,.own (.lst a.1),a.2]) (fun a e=>(a.1++pts e,.shr e)) (fun ds a=>fines ds=true/\hgts ds<=n/\a.1.length+nums ds<=1000) (fun e ds a ⟨h1,h2,h3⟩=>by
   simp only [fines,aaD] at h1;simp only [hgts] at h2;simp only [nums] at h3;have hl:=YC e;refine ⟨?_,h1.2,by omega,by simp;omega⟩;show Q4 1 (jy 1 (zD n) (jc (rdS 2) nil1)) [.shr d,.own (.lst a.1),.shr e]=_;show (Res.ok a.1>>=fun ds=>zD n [e]>>=_)=_;rw [jch n e h1.1 (by omega) (by omega)]
   exact jo (aaw (by omega:_<=10000) (by decide))) (kids d) ([d],.un) ⟨hk.1,by omega,by simp;omega⟩
  have hfold: ∀(ds:List D) (a:List D×Slot),(ds.foldl (fun (a:List D×Slot) e=>(a.1++pts e,Slot.shr e)) a).1=a.1++ptss ds:=by
   intro ds
   induction ds with
   |nil=>intro a;simp [ptss]
   |cons d ds ih=>intro a;rw [aef,ih];simp [ptss]
  have e1:QY xt (zD n) (qC 3 [d])= .ok (.rt true (.lst (pts d))):=by
   have e0:QY xt (zD n) (qC 3 [d])=((xt [d]>>=jbf)>>=fun ds=>forD (qo (gN 2) (Q4 1 (jy 1 (zD n) (jc (rdS 2) nil1)))) ds [.shr d,.own (.lst [d]),.un])>>=outK (retO (rdO 1)):=by
    unfold QY;rw [Q5];show (seqO _ _) _=_;rw [Q5];rfl
   rw [e0,kG (jbp hf)];show (forD _ (kids d) _>>=_)=_;rw [key];rw [hfold,jfo];rfl
  exact Vm e1
def isT:D->Bool
 | .tup _=>true
 |_=>false
def jf1 {t:D} (h:tk ns t=true):isiD "tuple" t= .ok (.bl (isT t)):=by
 rcases Jk h with ⟨i,rfl⟩| ⟨z,ts,rfl,_⟩<;>rfl
def jbj (l:List Hd) (x:Hd):(hins l x).length<=l.length+1:=by
 unfold hins;split<;>simp
def hdsL (t:D):List Hd:=hmet [] (hdL (pts t))
def Vf (z:Str) (ts:List D):xv [.tup (.str z::ts)]= .ok (hdD (z,(ts.length:Int))):=by
 refine zP ?_;unfold ug;refine (j3 ?_).trans rfl;rw [uq];refine qR (jb (je rfl rfl ix0) (jb ?_ rfl)) (jm (show 2<=20000 by decide));refine je (jY (jb rfl rfl) rfl) rfl ?_;simp
theorem J4 (t s:Slot): ∀(ds:List D) (l:List Hd) (u:Slot),(∀d∈ds,tk ns d=true)->l.length+ds.length<=2000-> ∃u',forD (qo (gN 3) (ifO (asB (isiF "tuple" (rdS 3))) (XT 1 (jy 1 xv (jc (rdS 3) nil1)) (cB true)) nxO)) ds [t,.own (.dit (l.map hdK) (htrs l)),s,u]= .ok (.nx [t,.own (.dit ((hmet l (hdL ds)).map hdK) (htrs (hmet l (hdL ds)))),s,u'])
 | [],l,u,_,_=>⟨u,rfl⟩
 |d::ds,l,u,h,hl=>by
  simp at hl;have hd:=h d (by simp);have htest:asB (isiF "tuple" (rdS 3)) [t,.own (.dit (l.map hdK) (htrs l)),s,.shr d]= .ok (isT d):=jx (by rw [WI];exact jf1 hd);rcases Jk hd with ⟨i,rfl⟩| ⟨z,ts,rfl,_⟩
  · have hstep:qo (gN 3) (ifO (asB (isiF "tuple" (rdS 3))) (XT 1 (jy 1 xv (jc (rdS 3) nil1)) (cB true)) nxO) (.int i) [t,.own (.dit (l.map hdK) (htrs l)),s,u]= .ok (.nx [t,.own (.dit (l.map hdK) (htrs l)),s,.shr (.int i)]):=by
     rw [qm (env':=[t,.own (.dit (l.map hdK) (htrs l)),s,.shr (.int i)]) rfl,if_f htest];rfl
    obtain ⟨u',hu⟩:=J4 t s ds l (.shr (.int i)) (fun e he=>h e (by simp [he])) (by omega);exact ⟨u',by rw [zg hstep,hu];rfl⟩
  · obtain ⟨p1,p2⟩:=jfn l (z,(ts.length:Int));have hk:(l.map hdK).length<aak:=by rw [aaj];exact aas (show l.length<20000 by omega) big1
    have hc:jy 1 xv (jc (rdS 3) nil1) [t,.own (.dit (l.map hdK) (htrs l)),s,.shr (.tup (.str z::ts))]= .ok (hdD (z,(ts.length:Int))):=jw (jb rfl rfl) rfl (Vf z ts)
    have hstep:qo (gN 3) (ifO (asB (isiF "tuple" (rdS 3))) (XT 1 (jy 1 xv (jc (rdS 3) nil1)) (cB true)) nxO) (.tup (.str z::ts)) [t,.own (.dit (l.map hdK) (htrs l)),s,u]= .ok (.nx [t,.own (.dit ((hins l (z,(ts.length:Int))).map hdK) (htrs (hins l (z,(ts.length:Int))))),s,.shr (.tup (.str z::ts))]):=by
     rw [qm (env':=[t,.own (.dit (l.map hdK) (htrs l)),s,.shr (.tup (.str z::ts))]) rfl,if_t htest];show (jy 1 xv (jc (rdS 3) nil1) [t,.own (.dit (l.map hdK) (htrs l)),s,.shr (.tup (.str z::ts))]>>=_)=_;rw [hc];show must ((l.map hdK).length<aak) (Res.ok (Out.nx [t,.own (.dit (Zi (l.map hdK) (hdK (z,(ts.length:Int)))) (Zj (l.map hdK) (htrs l) (hdK (z,(ts.length:Int))) (.bl true))),s,.shr (.tup (.str z::ts))]))=_;rw [jo hk,p1,p2]
    have:=jbj l (z,(ts.length:Int));obtain ⟨u',hu⟩:=J4 t s ds (hins l (z,(ts.length:Int))) (.shr (.tup (.str z::ts))) (fun e he=>h e (by simp [he])) (by omega);exact ⟨u',by rw [zg hstep,hu];rfl⟩
def Few (ns:List Str):Prop:=ns.length<=6/\ ∀z∈ns,z.length<=20
def jd1 (hf:Few ns) {t:D} (ht:tk ns t=true):(hdsL t).Nodup/\(hdsL t).length<64/\ ∀a∈hdsL t,a.1.length<=aak:=by
 have nd:(hdsL t).Nodup:=vP List.nodup_nil
 have hm: ∀x∈hdsL t,x.1∈ns/\0<=x.2/\x.2<=9:=fun x hx=>by
  rcases WC hx with z|z
  · cases z
  · exact vW (jcd t ht) x z
 have:=vR nd hm;have h1:=hf.1;exact ⟨nd,by omega,fun a ha=>jm (aaw (hf.2 _ (hm a ha).1) (by decide))⟩
def jcu (hf:Few ns) {t:D} (ht:tk ns t=true) (hh:hgt t<=64) (hn:num t<=1000):zE [t]= .ok (.lst ((yP (hdsL t)).map hdD)):=by
 have hp:=jch 64 t (jd9 t ht) hh hn;have hlen:=YC t;obtain ⟨n1,n2,n3⟩:=jd1 hf ht;obtain ⟨u,hu⟩:=J4 (.shr (.lst [t])) (.shr t) (pts t) [] .un (jcd t ht) (by simp;omega);have hit:itF (jy 1 (zD 64) (jc (rdS 2) nil1)) [.shr (.lst [t]),.own (.dit [] []),.shr t,.un]= .ok (pts t):=zr (jw (jb rfl rfl) rfl hp) rfl
 have hA:Jh [.lst [t]]= .ok (.lst ((yP (hdsL t)).map hdD)):=by
  refine zP ?_;unfold yY;rw [ji (env':=[.shr (.lst [t]),.own (.dit [] []),.un,.un]) rfl]
  have hout:forO (itF (rdS 0)) (gN 2) (forO (itF (jy 1 (zD 64) (jc (rdS 2) nil1))) (gN 3) (ifO (asB (isiF "tuple" (rdS 3))) (XT 1 (jy 1 xv (jc (rdS 3) nil1)) (cB true)) nxO)) [.shr (.lst [t]),.own (.dit [] []),.un,.un]= .ok (.nx [.shr (.lst [t]),.own (.dit ((hdsL t).map hdK) (htrs (hdsL t))),.shr t,u]):=by
   rw [zw rfl];rw [zg]
   · rfl
   · rw [qm (env':=[.shr (.lst [t]),.own (.dit [] []),.shr t,.un]) rfl,zw hit];exact hu
  rw [ji hout];exact j3 (jY (jb rfl rfl) (VX n1 n2 n3))
 refine zP ?_;unfold Y0;exact j3 (jw (jb (wg (jb rfl rfl) (jm (show 1<=20000 by decide))) rfl) rfl hA)
end
def Vd {a x:Hd} (h:x∈l\/x=a):x∈hins l a:=by
 unfold hins
 split
 · rcases h with h|h
   · exact h
   · rw [h];assumption
 · rcases h with h|h
   · exact abi _ h
   · rw [h];simp
theorem Vb: ∀ {xs l:List Hd} {x:Hd},x∈l\/x∈xs->x∈hmet l xs
 | [],l,x,h=>h.elim id fun z=>by cases z
 |y::xs,l,x,h=>by
  refine Vb (l:=hins l y) ?_;rcases h with h|h
  · exact .inl (Vd (.inl h))
  · rcases aaG.mp h with h|h
    · exact .inl (Vd (.inr h))
    · exact .inr h
def hk (es:List En):List Hd:=es.map fun e=>(e.z,(e.m:Int))
def VL (es:List En):bhD es= .dit ((hk es).map hdK) (es.map fun e=> .lst (e.l.map dPr)):=by
 unfold bhD hk;rw [abb];rfl
abbrev lkB:Sl->Res Out:=ifX (asB (two (rdS 2) (rdS 1) ninT)) (KH "NoHead") (Zp nxO)
def jfQ (es:List En) (a:Hd):ninT (hdD a) (bhD es)= .ok (.bl (!decide (a∈hk es))):=by
 rw [VL];show Res.ok (D.bl (!hasT ((hk es).map hdK) (hdK a)))=_;rw [YZ]
def look_go {es:List En} {a:Hd} {u:Slot}:xw (gN 2) lkB (hdD a) [L,.shr (bhD es),u]=if a∈hk es then .ok (.nx [L,.shr (bhD es),.shr (hdD a)]) else .exc "NoHead" :=by
 rw [jau rfl];refine (ZH (jx (je rfl rfl (jfQ es a))) rfl).trans ?_
 by_cases h:a∈hk es
 · rw [if_pos h,decide_eq_true h];rfl
 · rw [if_neg h,decide_eq_false h];rfl
theorem K5 {es:List En}: ∀(l:List Hd) (u:Slot),(∀a∈l,a∈hk es)-> ∃v,forD (xw (gN 2) lkB) (l.map hdD) [L,.shr (bhD es),u]= .ok (.nx [L,.shr (bhD es),v])
 | [],u,_=>⟨u,rfl⟩
 |a::l,u,h=>by
  obtain ⟨v,e⟩:=K5 l (.shr (hdD a)) fun b hb=>h b (aal _ hb)
  exact ⟨v,(zg (look_go.trans (if_pos (h a aap)))).trans e⟩
theorem Xx {es:List En}: ∀(l:List Hd) (u:Slot),(∃a∈l,a∉hk es)->forD (xw (gN 2) lkB) (l.map hdD) [L,.shr (bhD es),u]= .exc "NoHead"
 | [],u,⟨a,ha,_⟩=>by cases ha
 |a::l,u,h=>by
  by_cases ha:a∈hk es
  · obtain ⟨b,hb,hn⟩:=h;rcases aaG.mp hb with e|e
    · exact absurd (e▸ha) hn
    · exact (zg (look_go.trans (if_pos ha))).trans (Xx l _ ⟨b,e,hn⟩)
  · exact jbm (look_go.trans (if_neg ha))
def jdQ {es:List En} (h: ∀a∈l,a∈hk es):jS [.lst (l.map hdD),bhD es]= .ok .non:=by
 obtain ⟨v,e⟩:=K5 l .un h;have:yu (qC 3 [.lst (l.map hdD),bhD es])= .ok (.nx [.shr (.lst (l.map hdD)),.shr (bhD es),v]):=(ui (zr rfl rfl)).trans e;show runX true 3 yu _=_;unfold runX;rw [this]
def jbc {es:List En} (h: ∃a∈l,a∉hk es):jS [.lst (l.map hdD),bhD es]= .exc "NoHead" :=
 KA ((ui (zr rfl rfl)).trans (Xx l .un h))
def sortH_mem {a:Hd}:a∈yP l↔a∈l:=(zK l).mem_iff
def Ve {es:List En} (hf:Few ns) {t:D} (ht:tk ns t=true) (hh:hgt t<=64) (hn:num t<=1000) (h: ∀a∈hdL (pts t),a∈hk es): ∃l:List Hd,zE [t]= .ok (.lst (l.map hdD))/\jS [.lst (l.map hdD),bhD es]= .ok .non:=
 ⟨_,jcu hf ht hh hn,jdQ fun a ha=>by
  rcases WC (sortH_mem.mp ha) with z|z
  · cases z
  · exact h a z⟩
def vS {es:List En} (hf:Few ns) {t:D} (ht:tk ns t=true) (hh:hgt t<=64) (hn:num t<=1000) (h: ∃a∈hdL (pts t),a∉hk es): ∃l:List Hd,zE [t]= .ok (.lst (l.map hdD))/\jS [.lst (l.map hdD),bhD es]= .exc "NoHead" :=
 ⟨_,jcu hf ht hh hn,jbc (by
  obtain ⟨a,ha,hn⟩:=h
  exact ⟨a,sortH_mem.mpr (Vb (.inr ha)),hn⟩)⟩
def zR:List En->Str->Nat->List (Int×List Int)
 | [],_,_=>[]
 |e::es,z,m=>if e.z=z/\e.m=m then e.l else zR es z m
theorem Qm: ∀ {es:List En} {z:Str} {m:Nat},(z,(m:Int))∈hk es->(∃e∈es,e.z=z/\e.m=m/\zR es z m=e.l)/\valT ((hk es).map hdK) (es.map fun e=>D.lst (e.l.map dPr)) (hdK (z,(m:Int)))=some (.lst ((zR es z m).map dPr))
 | [],z,m,h=>by cases h
 |e::es,z,m,h=>by
  by_cases hc:e.z=z/\e.m=m
  · refine ⟨⟨e,aap,hc.1,hc.2,if_pos hc⟩,?_⟩;have:zR (e::es) z m=e.l:=if_pos hc;rw [this,←hc.1,←hc.2];show (((hdK (e.z,(e.m:Int)),D.lst (e.l.map dPr))::(((hk es).map hdK).zip (es.map fun e=>D.lst (e.l.map dPr)))).find? _).map _=_;rw [List.find?_cons_of_pos (by simp)];rfl
  · have hne:hdK (e.z,(e.m:Int))≠hdK (z,(m:Int)):=fun z2=>hc (by
     have:=hdK_inj.mp z2;simp at this
     exact ⟨this.1,by omega⟩)
    have h':(z,(m:Int))∈hk es:=by
     rcases aaG.mp h with q|q
     · exact absurd (by rw [q]) hne
     · exact q
    obtain ⟨⟨e',h1,h2,h3,h4⟩,h5⟩:=Qm h';have hp:zR (e::es) z m=zR es z m:=if_neg hc;refine ⟨⟨e',aal _ h1,h2,h3,hp.trans h4⟩,?_⟩;rw [hp,←h5];show (((hdK (e.z,(e.m:Int)),D.lst (e.l.map dPr))::(((hk es).map hdK).zip (es.map fun e=>D.lst (e.l.map dPr)))).find? _).map _=_;rw [List.find?_cons_of_neg (by simpa using hne)];rfl
def jcv {es:List En} (h:(z,(m:Int))∈hk es):getT (bhD es) (hdD (z,(m:Int)))= .ok (.lst ((zR es z m).map dPr)):=by
 rw [VL]
 show (match valT ((hk es).map hdK) (es.map fun e=>D.lst (e.l.map dPr)) (hdK (z,(m:Int))) with
  |some d=>Res.ok d
  |none=>Res.stuck)=_
 rw [(Qm h).2]
def val (es:List En) (gv:Int->Int):Nat->D->Int
 |n+1,.tup (.str z::ts)=>((zR es z ts.length).map fun q=>mulP q.1 q.2 (ts.map (val es gv n))).sum
 |_,.int i=>gv i
 |_,_=>1
def Yq (es:List En) (gv:Int->Int) (n:Nat) (i:Int):val es gv n (.int i)=gv i:=by cases n<;>rfl
def JS (es:List En) (gv:Int->Int) (n:Nat) (z:Str) (ts:List D):val es gv (n+1) (.tup (.str z::ts))=((zR es z ts.length).map fun q=>mulP q.1 q.2 (ts.map (val es gv n))).sum:=rfl
def Tt (hs:List Hd):Nat->D->Prop
 |0,d=> ∃i,d= .int i
 |n+1,d=>(∃i,d= .int i)\/ ∃z ts,d= .tup (.str z::ts)/\(z,(ts.length:Int))∈hs/\ ∀t∈ts,Tt hs n t
def jgE (i:Int):Tt hs n (.int i):=by
 cases n with
 |zero=>exact ⟨i,rfl⟩
 |succ n=>exact .inl ⟨i,rfl⟩
structure Gv (ks:List Key) (ds:List D) (gv:Int->Int):Prop where
 get: ∀i,get2 (.dic ks ds) [.int i,.int 1]= .ok (.int (gv i))
 lo: ∀i,1<=gv i
 hi: ∀i,gv i<=10^30
def jag {x:Int} (h0:1<=x) (h1:x<=10^30):intBits x<=100:=PySem.intBits_le_iff.mpr (by
 have:(10:Int)^30<2^100:=by decide
 have e:((2^100:Nat):Int)=2^100:=by decide
 omega)
abbrev vlB:Sl->Res Out:=jC 5 (two (rdS 5) (two (rdS 3) (rdS 7) ixD) mulI)
theorem Ko (x0 x1 x2 x4 x6:Slot) (bs:List Int) (i:Nat) (b:Int) (hi:bs[i]?=some b) (B:Nat) (hb:intBits b<=B): ∀(k:Nat) (ds:List D) (m:Int) (C:Nat) (u8:Slot),ds.length=k->intBits m<=C->C+k*B<=1000000->
  ∃v8,forD (qo (gN 8) vlB) ds [x0,x1,x2,.shr (.lst (bs.map D.int)),x4,.shr (.int m),x6,.shr (.int i),u8]= .ok (.nx [x0,x1,x2,.shr (.lst (bs.map D.int)),x4,.shr (.int (m*b^k)),x6,.shr (.int i),v8])/\intBits (m*b^k)<=C+k*B
 |0,ds,m,C,u8,hl,hm,_=>by
  obtain rfl:ds=[]:=ad0 hl;exact ⟨u8,by simp [forD],by simpa using hm⟩
 |k+1,ds,m,C,u8,hl,hm,hc=>by
  cases ds with
  |nil=>cases hl
  |cons d ds=>
   have hkb:(k+1)*B=k*B+B:=adQ k B;have h1:=intBits_mul_le hm hb;obtain ⟨v8,e,h2⟩:=Ko x0 x1 x2 x4 x6 bs i b hi B hb k ds (m*b) (C+B) (.shr d) (by simpa using hl) h1 (by omega);have hp:m*b^(k+1)=m*b*b^k:=by rw [adp,aeA (b^k) b,Int.mul_assoc]
   refine ⟨v8,?_,by rw [hp];omega⟩;rw [hp,←e]
   have hix:ixD (.lst (bs.map D.int)) (.int (i:Int))= .ok (.int b):=by
    simp only [ixD];rw [M.atI_nat,aaE,hi];rfl
   have ht:qo (gN 8) vlB d [x0,x1,x2,.shr (.lst (bs.map D.int)),x4,.shr (.int m),x6,.shr (.int i),u8]= .ok (.nx [x0,x1,x2,.shr (.lst (bs.map D.int)),x4,.shr (.int (m*b)),x6,.shr (.int i),.shr d]):=by
    rw [qm rfl];exact (jt (je rfl (je rfl rfl hix) (Zx (show MulC m b by unfold MulC;omega)))).trans rfl
   show (qo (gN 8) vlB d _>>=_)=_;rw [ht];rfl
abbrev vlM:Sl->Res Out:=forO (rngF (jc (two (rdS 6) (rdS 7) ixD) nil1)) (gN 8) vlB
theorem jb3 (x0 x1 x2 x4:Slot) (B:Nat) (bs:List Int) (hb: ∀b∈bs,intBits b<=B): ∀(ps pre:List Int) (m:Int) (C:Nat) (u7 u8:Slot),(∀p∈ps,0<=p/\p<=2)->pre.length+ps.length=bs.length->intBits m<=C->C+ps.length*(2*B)<=1000000->
  ∃v7 v8,forD (qo (gN 7) vlM) (q0 (pre.length:Int) ps.length) [x0,x1,x2,.shr (.lst (bs.map D.int)),x4,.shr (.int m),.shr (tI (pre++ps)),u7,u8]= .ok (.nx [x0,x1,x2,.shr (.lst (bs.map D.int)),x4,.shr (.int (mulP m ps (bs.drop pre.length))),.shr (tI (pre++ps)),v7,v8])/\intBits (mulP m ps (bs.drop pre.length))<=C+ps.length*(2*B)
 | [],pre,m,C,u7,u8,_,_,hm,_=>by
  have: ∀l,mulP m [] l=m:=fun l=>by cases l<;>rfl
  rw [this];exact ⟨u7,u8,rfl,by simpa using hm⟩
 |p::ps,pre,m,C,u7,u8,hp,hl,hm,hc=>by
  have hp0:=hp p aap;have hlen:(p::ps).length*(2*B)=ps.length*(2*B)+2*B:=by rw [aaL];exact adQ _ _
  have hpB:p.toNat*B<=2*B:=acy B (by omega);rw [hlen] at hc;simp at hl;have hlt:pre.length<bs.length:=by omega
  have hdr:=abX hlt;have hmem:=aa9 hlt;generalize hbv:bs[pre.length]=b at hdr hmem;have hget:bs[pre.length]?=some b:=by rw [aad hlt,hbv]
  obtain ⟨v8,e1,h1⟩:=Ko x0 x1 x2 x4 (.shr (tI (pre++p::ps))) bs pre.length b hget B (hb b hmem) p.toNat (q0 0 p.toNat) m C u8 (zt _ _) hm (by omega);obtain ⟨w7,w8,e2,h2⟩:=jb3 x0 x1 x2 x4 B bs hb ps (pre++[p]) (m*b^p.toNat) (C+2*B) (.shr (.int pre.length)) v8 (fun q hq=>hp q (aal _ hq)) (by simp;omega) (by omega) (by omega);have ea:pre++[p]++ps=pre++p::ps:=by simp
  have el:(pre++[p]).length=pre.length+1:=by simp
  rw [ea,el] at e2;rw [el] at h2;have em:mulP m (p::ps) (bs.drop pre.length)=mulP (m*b^p.toNat) ps (bs.drop (pre.length+1)):=by rw [hdr];rfl
  rw [em];refine ⟨w7,w8,?_,by rw [hlen];omega⟩
  have hix:ixD (tI (pre++p::ps)) (.int (pre.length:Int))= .ok (.int p):=by
   simp only [tI,ixD];rw [M.atI_nat,aaE,aaq (aag _)];simp
  have ht:qo (gN 7) vlM (.int (pre.length:Int)) [x0,x1,x2,.shr (.lst (bs.map D.int)),x4,.shr (.int m),.shr (tI (pre++p::ps)),u7,u8]= .ok (.nx [x0,x1,x2,.shr (.lst (bs.map D.int)),x4,.shr (.int (m*b^p.toNat)),.shr (tI (pre++p::ps)),.shr (.int pre.length),v8]):=by
   rw [qm rfl];exact (zw (xc (jb (je rfl rfl hix) rfl) (by omega))).trans e1
  rw [aaL,ZF];exact (zg ht).trans e2
abbrev vlA:Sl->Res Out:=seqO (forO (rngF (jc (app (jc (rdS 6) nil1) lenD) nil1)) (gN 7) vlM) (jC 4 (two (rdS 4) (rdS 5) addD))
theorem jb4 (x0 x1 x2:Slot) (B:Nat) (bs:List Int) (hb: ∀b∈bs,intBits b<=B) (hB:100+bs.length*(2*B)<=1000000) (hlb:bs.length<=9): ∀(l:List (Int×List Int)) (tot:Int) (u5 u6 u7 u8:Slot),(∀q∈l,intBits q.1<=100/\q.2.length=bs.length/\ ∀p∈q.2,0<=p/\p<=2)->
  ∃v5 v6 v7 v8,forD (qo (g2 (gN 5) (gN 6)) vlA) (l.map dPr) [x0,x1,x2,.shr (.lst (bs.map D.int)),.shr (.int tot),u5,u6,u7,u8]= .ok (.nx [x0,x1,x2,.shr (.lst (bs.map D.int)),.shr (.int (tot+(l.map fun q=>mulP q.1 q.2 bs).sum)),v5,v6,v7,v8])/\ ∀q∈l,intBits (mulP q.1 q.2 bs)<=100+bs.length*(2*B)
 | [],tot,u5,u6,u7,u8,_=>⟨u5,u6,u7,u8,by simp [forD],fun _ h=>by cases h⟩
 |q::l,tot,u5,u6,u7,u8,h=>by
  obtain ⟨h1,h2,h3⟩:=h q aap;obtain ⟨v7,v8,e1,hbit⟩:=jb3 x0 x1 x2 (.shr (.int tot)) B bs hb q.2 [] q.1 100 u7 u8 h3 (by simpa using h2) h1 (by rw [h2];exact hB);obtain ⟨w5,w6,w7,w8,e2,h4⟩:=jb4 x0 x1 x2 B bs hb hB hlb l (tot+mulP q.1 q.2 bs) (.shr (.int (mulP q.1 q.2 bs))) (.shr (tI q.2)) v7 v8 fun r hr=>h r (aal _ hr)
  rw [acA,List.drop_zero,aek] at e1;rw [acA,List.drop_zero,h2] at hbit;refine ⟨w5,w6,w7,w8,?_,fun r hr=>?_⟩
  · have ht:qo (g2 (gN 5) (gN 6)) vlA (dPr q) [x0,x1,x2,.shr (.lst (bs.map D.int)),.shr (.int tot),u5,u6,u7,u8]= .ok (.nx [x0,x1,x2,.shr (.lst (bs.map D.int)),.shr (.int (tot+mulP q.1 q.2 bs)),.shr (.int (mulP q.1 q.2 bs)),.shr (tI q.2),v7,v8]):=by
      rw [qm rfl]
      have hr:rngF (jc (app (jc (rdS 6) nil1) lenD) nil1) [x0,x1,x2,.shr (.lst (bs.map D.int)),.shr (.int tot),.shr (.int q.1),.shr (tI q.2),u7,u8]= .ok (q0 0 q.2.length):=by
       have:=xc (fa:=jc (app (jc (rdS 6) nil1) lenD) nil1) (env:=[x0,x1,x2,.shr (.lst (bs.map D.int)),.shr (.int tot),.shr (.int q.1),.shr (tI q.2),u7,u8]) (jb (jY (jb rfl rfl) (by show Res.ok (D.int ((q.2.map D.int).length))=_;rw [aaj])) rfl) (by omega);simpa using this
      refine (ji ((zw hr).trans e1)).trans ?_;exact (jt (je rfl rfl rfl)).trans rfl
    rw [aaB,aaB,ac2,←Int.add_assoc];exact (zg ht).trans e2
  · rcases aaG.mp hr with e|e
    · rw [e];exact hbit
    · exact h4 r e
def bN:Nat->Nat
 |0=>100
 |n+1=>110+18*bN n
theorem jho: ∀n,100<=bN n
 |0=>aag _
 |n+1=>by show 100<=110+18*bN n;omega
theorem bN_2: ∀n,n<=2->bN n<=40000
 |0,_=>by decide
 |1,_=>by decide
 |2,_=>by decide
 |n+3,h=>by omega
theorem jb9: ∀ {l:List Int},l≠[]->(∀x∈l,1<=x)->1<=l.sum
 | [],h,_=>absurd rfl h
 |a::l,_,h=>by
  have h1:=h a aap;have h2:=wI fun x hx=>by have:=h x (aal _ hx);omega
  rw [ac2];omega
theorem jca {K:Int}: ∀ {l:List Int},(∀x∈l,x<=K)->l.sum<=l.length*K
 | [],_=>by simp
 |a::l,h=>by
  have h1:=h a aap;have h2:=jca fun x hx=>h x (aal _ hx)
  rw [ac2,aaL,Int.natCast_add,Int.add_mul];omega
def yA {x:Int} {c:Nat} (h0:0<=x):intBits x<=c↔x<2^c:=by
 rw [PySem.intBits_le_iff];have e:((2^c:Nat):Int)=2^c:=by simp
 constructor
 · intro h;omega
 · intro h;omega
def jaw {l:List Int} {c:Nat} (h1: ∀x∈l,1<=x/\intBits x<=c) (hl:l.length<=10):intBits l.sum<=c+10:=by
 have h0:=wI fun x hx=>by have:=(h1 x hx).1;omega
 refine (yA h0).mpr ?_
 have h2:=jca (K:=2^c) fun x hx=>by
  have a:=h1 x hx;have:=(yA (by omega)).mp a.2;omega
 have hp:(0:Int)<2^c:=Int.pow_pos (by decide);have h3:(l.length:Int)*2^c<=10*2^c:=adV (by omega) (by omega);have h4:(2:Int)^(c+10)=2^c*1024:=by rw [Int.pow_add];rfl
 omega
def jat (es:List En) (gv:Int->Int) (m:Nat) (ts:List D):(ts.map fun d=>D.int (val es gv m d))=(ts.map (val es gv m)).map D.int:=by rw [abb];rfl
def ZC {es:List En} (ok: ∀e∈es,EnOk e) (g:Gv ks ds gv): ∀(n m:Nat) (t:D),Tt (hk es) n t->n<=3->n<m->qy m [bhD es,t,.dic ks ds]= .ok (.int (val es gv m t))/\1<=val es gv m t/\intBits (val es gv m t)<=bN n:=by
 have hint: ∀(n m:Nat) (i:Int),n<m->qy m [bhD es,.int i,.dic ks ds]= .ok (.int (val es gv m (.int i)))/\1<=val es gv m (.int i)/\intBits (val es gv m (.int i))<=bN n:=by
  intro n m i hm;rw [Yq];refine ⟨?_,g.lo i,aaw (jag (g.lo i) (g.hi i)) (jho n)⟩;obtain ⟨m,rfl⟩: ∃k,m=k+1:=⟨m-1,by omega⟩
  refine kj ?_;unfold wj;exact Jm ((if_t (jx (wP rfl rfl))).trans (Z4 (ue (k:= .inl i) rfl rfl rfl (g.get i))))
 intro n
 induction n with
 |zero=>
  rintro m t ⟨i,rfl⟩ _ hm;exact hint 0 m i hm
 |succ n ih=>
  intro m t ht hn hm;rcases ht with ⟨i,rfl⟩| ⟨z,ts,rfl,hz,hts⟩
  · exact hint (n+1) m i hm
  obtain ⟨m,rfl⟩: ∃k,m=k+1:=⟨m-1,by omega⟩
  obtain ⟨⟨e,he,ez,em,el⟩,_⟩:=Qm hz;have eok:=ok e he;have hlen9:ts.length<=9:=by rw [←em];exact eok.m
  have iht:=fun t h=>ih m t (hts t h) (by omega) (by omega)
  have hB2:=bN_2 n (by omega);have hbl:(ts.map (val es gv m)).length=ts.length:=aaj _
  have hbs: ∀b∈ts.map (val es gv m),intBits b<=bN n:=fun b hb=>by
    obtain ⟨t,ht,rfl⟩:=aat.mp hb;exact (iht t ht).2.2
  have hbs1: ∀b∈ts.map (val es gv m),1<=b:=fun b hb=>by
    obtain ⟨t,ht,rfl⟩:=aat.mp hb;exact (iht t ht).2.1
  have hq: ∀q∈zR es z ts.length,(1<=q.1/\q.1<=10^30)/\q.2.length=ts.length/\ ∀x∈q.2,0<=x/\x<=2:=fun q hq=>by
    have:=eok.pr.ok q (el▸hq)
    rwa [em] at this
  have hmB:ts.length*(2*bN n)<=9*(2*bN n):=acy _ hlen9;obtain ⟨v5,v6,v7,v8,e1,h1⟩:=jb4 (.shr (bhD es)) (.shr (.tup (.str z::ts))) (.shr (.dic ks ds)) (bN n) (ts.map (val es gv m)) hbs (by rw [hbl];omega) (by rw [hbl];omega) (zR es z ts.length) 0 .un .un .un .un (fun q h=>⟨jag (hq q h).1.1 (hq q h).1.2,by rw [hbl];exact (hq q h).2.1,(hq q h).2.2⟩);rw [hbl] at h1;rw [Int.zero_add] at e1
  have hpl: ∀x∈(zR es z ts.length).map fun q=>mulP q.1 q.2 (ts.map (val es gv m)),1<=x/\intBits x<=100+18*bN n:=fun x hx=>by
    obtain ⟨q,h,rfl⟩:=aat.mp hx;exact ⟨Jy _ _ _ (hq q h).1.1 hbs1,aaw (h1 q h) (by omega)⟩
  refine ⟨?_,?_,?_⟩
  · rw [JS];refine kj ?_;unfold wj;refine (ji ((if_f (jx (wP rfl rfl))))).trans ?_;refine (ji ((jt (d:= .lst ((ts.map (val es gv m)).map D.int)) ?_))).trans ?_
    · rw [←jat];refine Jd (fun d=> .int (val es gv m d)) (fun d=>d∈ts) rfl (zr (d:= .tup ts) (wc rfl (zH rfl) rfl ?_) rfl) (fun d hd=>hd) (jm (by omega)) (fun d acc hd=>?_)
      · show Res.ok (D.tup (cutD (.str z::ts) (some 1) none))=_;rw [cut1]
      · exact jw (jb rfl (jb rfl (jb rfl rfl))) rfl (iht d hd).1
    refine (ji rfl).trans ?_;refine (ji ((zw (zr (je rfl (qR (ds:=[.str z,.int (ts.length:Int)]) (jb (je rfl rfl ix0) (jb ?_ rfl)) (jm (show 2<=20000 by decide))) (jcv hz)) rfl)).trans e1)).trans ?_
    · refine je (jY (jb rfl rfl) rfl) rfl ?_;simp
    · rfl
  · rw [JS];refine jb9 ?_ fun x hx=>(hpl x hx).1
    intro hnil;have h0:=eok.pos;rw [List.map_eq_nil_iff,el] at hnil;rw [hnil] at h0;exact abq _ h0
  · rw [JS];have:=jaw hpl (by rw [aaj,el];have:=eok.len;omega);refine aaw this ?_;show _<=110+18*bN n;omega
theorem Kr: ∀l:List Int,sumI l=l.sum
 | []=>rfl
 |a::l=>by rw [ac2,←Kr l];rfl
def jav (f:α->Int) (l:List α):jax [.lst (l.map fun q=>D.int (f q))]= .ok (.int ((l.map f).sum)):=by
 have:QW (l.map fun q=>D.int (f q))=some (l.map f):=by
  induction l with
  |nil=>rfl
  |cons a l ih=>simp only [aaB,QW,ih];rfl
 show (match QW (l.map fun q=>D.int (f q)) with
  |some is=>Res.ok (D.int (sumI is))
  |none=>Res.stuck)=_
 rw [this];dsimp only;rw [Kr]
def jgF:(1:Int)<=10^300:=by decide+kernel
def jgG:intBits (10^300)<=1000:=(yA (by have:=jgF;omega)).mpr (by decide+kernel)
def jbU {T x:Int} {B:Nat} (hT0:1<=T) (hT:intBits T<=B) (hx:1<=x):intBits (cap T x)<=B:=by
 have h1:=J6 hT0 hx;have h2:=jcO T x;refine (yA (by omega)).mpr ?_;have:=(yA (by omega)).mp hT;omega
def vg (T x:Int):minD [.int x,.int T]= .ok (.int (cap T x)):=rfl
def vT (z:Str) (ts:List D) {f:TF} (h:f env= .ok [.tup (.str z::ts)]):jy 1 xv f env= .ok (hdD (z,(ts.length:Int))):=jw h rfl (Vf z ts)
def jb2 {es:List En} (ok: ∀e∈es,EnOk e) (g:Gv ks ds gv): ∀(n m:Nat) (t:D),Tt (hk es) n t->n<m->jF m [ppD es,t,.dic ks ds]= .ok (.int (cap (10^300) (val es gv m t)))/\1<=val es gv m t:=by
 have hT1:=jgF;have hTb:=jgG;have hTm:=ftg;generalize hT:(10:Int)^300=T at hT1 hTb hTm ⊢
 have hint: ∀(m:Nat) (i:Int),0<m->jF m [ppD es,.int i,.dic ks ds]= .ok (.int (cap T (val es gv m (.int i))))/\1<=val es gv m (.int i):=by
  intro m i hm;rw [Yq];refine ⟨?_,g.lo i⟩;obtain ⟨m,rfl⟩: ∃k,m=k+1:=⟨m-1,by omega⟩
  refine zP ?_;unfold qA;refine (ji ((jt (jw rfl rfl hTm)))).trans ?_;exact Jm ((if_t (qr (jx (wP (x:= .int i) rfl rfl)))).trans (j3 (jY (jb (ue (k:= .inl i) rfl rfl rfl (g.get i)) (jb rfl rfl)) (vg T (gv i)))))
 intro n
 induction n with
 |zero=>
  rintro m t ⟨i,rfl⟩ hm;exact hint m i (by omega)
 |succ n ih=>
  intro m t ht hm;rcases ht with ⟨i,rfl⟩| ⟨z,ts,rfl,hz,hts⟩
  · exact hint m i (by omega)
  obtain ⟨m,rfl⟩: ∃k,m=k+1:=⟨m-1,by omega⟩
  obtain ⟨⟨e,he,ez,em,el⟩,_⟩:=Qm hz;have eok:=ok e he;have hlen9:ts.length<=9:=by rw [←em];exact eok.m
  have iht:=fun t h=>ih m t (hts t h) (by omega)
  have hbs1: ∀b∈ts.map (val es gv m),1<=b:=fun b hb=>by
    obtain ⟨t,ht,rfl⟩:=aat.mp hb;exact (iht t ht).2
  have hcb: ∀b∈(ts.map (val es gv m)).map (cap T),intBits b<=1000:=fun b hb=>by
    obtain ⟨x,hx,rfl⟩:=aat.mp hb;exact jbU hT1 hTb (hbs1 x hx)
  have hq: ∀q∈zR es z ts.length,(1<=q.1/\q.1<=10^30)/\q.2.length=ts.length/\ ∀x∈q.2,0<=x/\x<=2:=fun q hq=>by
    have:=eok.pr.ok q (el▸hq)
    rwa [em] at this
  have hpl:zR es z ts.length≠[]:=by
    intro hnil;have h0:=eok.pos;rw [el] at hnil;rw [hnil] at h0;exact abq _ h0
  have hln:(zR es z ts.length).length<=20000:=by rw [el];have:=eok.len;have:=eok.m;omega
  refine ⟨?_,?_⟩
  · have hcap:cap T (((zR es z ts.length).map fun q=>mulP q.1 q.2 ((ts.map (val es gv m)).map (cap T))).sum)=cap T (val es gv (m+1) (.tup (.str z::ts))):=by
      rw [JS];refine UV hT1 _ _ _ fun q h=>⟨?_,?_,K0 hT1 _ _ _ _ (hq q h).1.1 (hq q h).1.1 rfl hbs1⟩
      · have:=Jy q.2 ((ts.map (val es gv m)).map (cap T)) q.1 (hq q h).1.1 fun b hb=>by
         obtain ⟨x,hx,rfl⟩:=aat.mp hb;exact J6 hT1 (hbs1 x hx)
        omega
      · have:=Jy q.2 (ts.map (val es gv m)) q.1 (hq q h).1.1 hbs1;omega
    rw [←hcap];refine zP ?_;unfold qA;refine (ji ((jt (jw rfl rfl hTm)))).trans ?_;refine (ji ((if_f (qr (jx (wP (x:= .tup (.str z::ts)) rfl rfl)))))).trans ?_;refine (ji ((jt (d:= .lst (((ts.map (val es gv m)).map (cap T)).map D.int)) ?_))).trans ?_
    · have em:((ts.map (val es gv m)).map (cap T)).map D.int=ts.map fun d=>D.int (cap T (val es gv m d)):=by rw [abb,abb];rfl
      rw [em];refine Jd (fun d=> .int (cap T (val es gv m d))) (fun d=>d∈ts) rfl (zr (jw (jb rfl rfl) rfl (kG rfl)) rfl) (fun d hd=>hd) (jm (by omega)) (fun d acc hd=>?_);exact K3 rfl (by decide+kernel) (jb rfl (jb rfl rfl)) rfl (iht d hd).1
    · have hget:itF (two (fldF "Numbers" "products" (rdB 0)) (jy 1 xv (jc (rdS 1) nil1)) getT) [.shr (ppD es),.shr (.tup (.str z::ts)),.shr (.dic ks ds),.shr (.int T),.shr (.lst (((ts.map (val es gv m)).map (cap T)).map D.int))]= .ok ((zR es z ts.length).map fun q=> .tup [D.int q.1,tI q.2]):=zr (je (uj rfl rfl) (vT z ts (jb rfl rfl)) (jcv hz)) rfl;refine j3 (jY (jb (jY (jb (Qt (fun q:Int×List Int=>(D.int q.1,tI q.2)) (fun q=> .int (mulP q.1 q.2 ((ts.map (val es gv m)).map (cap T)))) (fun q=>q∈zR es z ts.length) rfl hget (fun q h=>h) (jm hln) (fun q acc h=>?_)) rfl) (jav _ _)) (jb rfl rfl)) (vg T _));refine jw (jb rfl (jb rfl (jb rfl rfl))) rfl (YR (hq q h).2.2 hcb (jag (hq q h).1.1 (hq q h).1.2) ?_);rw [(hq q h).2.1];have:ts.length*(2*1000)<=9*(2*1000):=acy _ hlen9;omega
  · rw [JS];refine jb9 (fun h=>hpl (List.map_eq_nil_iff.mp h)) fun x hx=>?_
    obtain ⟨q,h,rfl⟩:=aat.mp hx;exact Jy _ _ _ (hq q h).1.1 hbs1
theorem vX: ∀a b:List D,hdL (a++b)=hdL a++hdL b
 | [],b=>rfl
 |d::r,b=>by
  have ih:=vX r b
  cases d with
  |tup ts=>cases ts with
   |nil=>simpa [hdL] using ih
   |cons x ts=>cases x<;>simp [hdL,ih]
  |_=>simp [hdL,ih]
theorem Vg: ∀ {ts:List D} {a:Hd},a∈hdL (ptss ts)↔ ∃t∈ts,a∈hdL (pts t)
 | [],a=>by simp [ptss,hdL]
 |d::r,a=>by
  simp only [ptss,vX,aa1,Vg,aaG,exists_eq_or_imp]
def jdd (z:Str) (ts:List D):pts (.tup (.str z::ts))= .tup (.str z::ts)::ptss ts:=by simp only [pts]
def yp (z:Str) (ts:List D):num (.tup (.str z::ts))=1+nums ts:=by simp only [num]
def JC (z:Str) (ts:List D):hgt (.tup (.str z::ts))=1+hgts ts:=by simp only [hgt]
def hd_tup {a:Hd}:a∈hdL (pts (.tup (.str z::ts)))↔a=(z,(ts.length:Int))\/ ∃t∈ts,a∈hdL (pts t):=by
 rw [jdd,vV,aaG,Vg]
def nN:Nat->Nat
 |0=>1
 |n+1=>1+3*nN n
theorem jg8: ∀n,1<=nN n
 |0=>aag _
 |n+1=>by show 1<=1+_;omega
structure Is (ns:List Str) (hs:List Hd) (n:Nat) (t:D):Prop where
 tk:tk ns t=true
 hgt:hgt t<=n+1
 num:num t<=nN n
 hd: ∀a∈hdL (pts t),a∈hs
def jcq (n:Nat) (i:Int):Is ns hs n (.int i):=⟨rfl,by simp [M.hgt],by simp only [M.num];exact jg8 n,by simp [pts,hdL]⟩
theorem vH (h3: ∀h∈hs,h.1∈ns/\h.2<=3): ∀(n:Nat) (t:D),Tt hs n t->Is ns hs n t
 |0,t,⟨i,e⟩=>e▸jcq 0 i
 |n+1,t,.inl ⟨i,e⟩=>e▸jcq (n+1) i
 |n+1,t,.inr ⟨z,ts,e,hz,hts⟩=>by
  subst e;have ih:=fun t ht=>vH h3 n t (hts t ht)
  have a:=h3 _ hz;have hl:ts.length<=3:=by have:=a.2;simp only at this;omega
  refine ⟨US a.1 (by omega) fun t ht=>(ih t ht).tk,?_,?_,?_⟩
  · rw [JC];have:=WE fun t ht=>(ih t ht).hgt
    omega
  · rw [yp];have h1:=kY fun t ht=>(ih t ht).num
    have h2:=acy (nN n) hl;show _<=1+3*nN n;omega
  · intro b hb;rcases hd_tup.mp hb with e| ⟨t,ht,hb⟩
    · rw [e];exact hz
    · exact (ih t ht).hd b hb
theorem VO {hs':List Hd} (hh: ∀a∈hs,a∈hs'): ∀(n:Nat) (t:D),Tt hs n t->Tt hs' n t
 |0,t,h=>h
 |n+1,t,.inl h=> .inl h
 |n+1,t,.inr ⟨z,ts,e,hz,hts⟩=> .inr ⟨z,ts,e,hh _ hz,fun t ht=>VO hh n t (hts t ht)⟩
def hsD (hs:List (Str×Nat)):D:= .lst (hs.map fun h=>hdN h.1 h.2)
def hsH (hs:List (Str×Nat)):List Hd:=hs.map fun h=>(h.1,(h.2:Int))
abbrev tmB (f:TD):Sl->Res Out:=seqO (asgO (jy 4 f (jc (rdS 0) (jc (rdS 1) (jc (rdS 2) (jc (two (rdS 3) (cI 1) subI) nil1))))) (g2 (gN 9) (gN 0))) (qx 4 (rdS 9))
theorem jeY {hs:List (Str×Nat)} (hl:hs.length=4) (har: ∀h∈hs,h.2<=3) {ho:List Int} (hho:ho.length=3): ∀(m k:Nat) (n:Int),k<m-> ∃(t:D) (n':Int),qj m [.int n,hsD hs,.lst (ho.map D.int),.int k]= .ok (.tup [t,.int n'])/\Tt (hsH hs) k t
 |0,k,n,h=>absurd h (aci _)
 |m+1,k,n,hm=>by
  have hlen:lenD [hsD hs]= .ok (.int 4):=by show Res.ok (D.int ((hs.map fun h=>hdN h.1 h.2).length))=_;rw [aaj,hl];rfl
  have hlenH:lenD [.lst (ho.map D.int)]= .ok (.int 3):=by show Res.ok (D.int ((ho.map D.int).length))=_;rw [aaj,hho];rfl
  have hst: ∀r,zS (qj m) [.shr (.int n),.shr (hsD hs),.shr (.lst (ho.map D.int)),.shr (.int k),.un,.un,.un,.un,.un,.un]= .ok (.rt true r)->qj (m+1) [.int n,hsD hs,.lst (ho.map D.int),.int k]= .ok r:=fun r h=>zP h
  have s1:asgO (app (jc (rdS 0) (jc (two (app (jc (rdS 1) nil1) lenD) (cI 2) addD) nil1)) qV) (g2 (gN 0) (gN 6)) [.shr (.int n),.shr (hsD hs),.shr (.lst (ho.map D.int)),.shr (.int k),.un,.un,.un,.un,.un,.un]= .ok (.nx [.shr (.int (n/6)),.shr (hsD hs),.shr (.lst (ho.map D.int)),.shr (.int k),.un,.un,.shr (.int (n%6)),.un,.un,.un]):=wE (UC rfl (je (jY (jb rfl rfl) hlen) rfl rfl) (by omega));have t1:orB (asB (two (rdS 6) (cI 2) ltI)) (asB (two (rdS 3) (cI 0) eqR)) [.shr (.int (n/6)),.shr (hsD hs),.shr (.lst (ho.map D.int)),.shr (.int k),.un,.un,.shr (.int (n%6)),.un,.un,.un]= .ok (decide (n%6<2)|| ((k:Int)==0)):=YM (jx (je rfl rfl rfl)) (jx (je rfl rfl y6))
  by_cases hc:n%6<2\/k=0
  · have hb:(decide (n%6<2)|| ((k:Int)==0))=true:=by
     rcases hc with h|h
     · rw [decide_eq_true h];rfl
     · subst h;simp
    rw [hb] at t1;obtain ⟨d,hd,hdm⟩:=ixL (ds:=ho.map D.int) (i:=n/6%3) (by omega) (by rw [aaj,hho];omega);obtain ⟨x,_,rfl⟩:=aat.mp hdm;refine ⟨.int x,n/6/3,hst _ ?_,jgE x⟩;unfold zS;refine (ji s1).trans (Jm ((if_t t1).trans ?_));refine (ji (wE (UC rfl (jY (jb rfl rfl) hlenH) (by omega)))).trans ?_;exact j3 (qR (jb (je rfl rfl hd) (jb rfl rfl)) (jm (show 2<=20000 by decide)))
  · have hb:(decide (n%6<2)|| ((k:Int)==0))=false:=by
     rw [decide_eq_false (fun h=>hc (.inl h))];simp;exact fun h=>hc (.inr (by omega))
    rw [hb] at t1;obtain ⟨k,rfl⟩: ∃j,k=j+1:=⟨k-1,by omega⟩
    obtain ⟨d,hd,hdm⟩:=ixL (ds:=hs.map fun h=>hdN h.1 h.2) (i:=n%6-2) (by omega) (by rw [aaj,hl];omega);obtain ⟨⟨z,a⟩,hza,rfl⟩:=aat.mp hdm;have ha:=har _ hza;simp only at ha
    have h3: ∀h∈hsH hs,h.1∈hs.map (·.1)/\h.2<=3:=fun h hh=>by
     obtain ⟨x,hx,rfl⟩:=aat.mp hh;exact ⟨aat.mpr ⟨x,hx,rfl⟩,by have:=har x hx;simp only;omega⟩
    have loop: ∀(N0:Int) (P6:Slot),∃(n1:Int) (ts:List D) (v5 v9:Slot),forD (qo (gN 5) (tmB (qj m))) (q0 0 a) [.shr (.int N0),.shr (hsD hs),.shr (.lst (ho.map D.int)),.shr (.int ((k+1:Nat):Int)),.own (.lst []),.un,P6,.shr (.str z),.shr (.int a),.un]= .ok (.nx [.shr (.int n1),.shr (hsD hs),.shr (.lst (ho.map D.int)),.shr (.int ((k+1:Nat):Int)),.own (.lst ts),v5,P6,.shr (.str z),.shr (.int a),v9])/\ts.length=a/\ ∀t∈ts,Tt (hsH hs) k t:=by
     intro N0 P6
     obtain ⟨env1,l1,n1,ts,v5,v9,rfl,hlt,htt⟩:=xj (body:=qo (gN 5) (tmB (qj m)))
       (fun ds env=> ∃(n:Int) (ts:List D) (v5 v9:Slot),env=[.shr (.int n),.shr (hsD hs),.shr (.lst (ho.map D.int)),.shr (.int ((k+1:Nat):Int)),.own (.lst ts),v5,P6,.shr (.str z),.shr (.int a),v9]/\ts.length+ds.length=a/\ ∀t∈ts,Tt (hsH hs) k t)
       (by
        rintro d ds env ⟨n,ts,v5,v9,rfl,hlt,htt⟩;simp at hlt;obtain ⟨t,n',e1,h1⟩:=jeY hl har hho m k n (by omega);refine ⟨[.shr (.int n'),.shr (hsD hs),.shr (.lst (ho.map D.int)),.shr (.int ((k+1:Nat):Int)),.own (.lst (ts++[t])),.shr d,P6,.shr (.str z),.shr (.int a),.shr t],?_,n',ts++[t],_,_,rfl,by rw [aaC];simp;omega,fun u hu=>?_⟩
        · rw [qm rfl];unfold tmB;refine (ji ((wE (jw (jb rfl (jb rfl (jb rfl (jb (je rfl rfl ?_) rfl)))) rfl e1)))).trans ?_
          · show Res.ok (D.int (((k+1:Nat):Int)-1))=_;rw [show (((k+1:Nat):Int)-1)=k by omega]
          · exact (zZ rfl rfl (aas (show ts.length<20 by omega) (by decide))).trans rfl
        · rcases aa1.mp hu with h|h
          · exact htt u h
          · rw [aaJ] at h;subst h;exact h1)
       (q0 0 a) [.shr (.int N0),.shr (hsD hs),.shr (.lst (ho.map D.int)),.shr (.int ((k+1:Nat):Int)),.own (.lst []),.un,P6,.shr (.str z),.shr (.int a),.un] ⟨N0,[],.un,.un,rfl,by rw [zt];simp,fun _ h=>by cases h⟩
     exact ⟨n1,ts,v5,v9,l1,by simpa using hlt,htt⟩
    obtain ⟨n1,ts,v5,v9,l1,hlt,htt⟩:=loop (n/6) (.shr (.int (n%6)));have hT:Tt (hsH hs) (k+1) (.tup (.str z::ts)):= .inr ⟨z,ts,rfl,aat.mpr ⟨(z,a),hza,by rw [hlt]⟩,htt⟩;refine ⟨.tup (.str z::ts),n1,hst _ ?_,hT⟩;unfold zS;refine (ji s1).trans ?_;refine (ji ((if_f t1))).trans ?_;refine (ji (wE (je rfl (je rfl rfl rfl) hd))).trans ?_;refine (ji rfl).trans ?_;refine (ji ((zw (xc (jb rfl rfl) (by omega))).trans l1)).trans ?_;have hli:(.str z::ts:List D).length<=20000:=by simp;omega
    refine j3 (qR (jb (ZN (jY (jb (je (wg (jb rfl rfl) (jm (show 1<=20000 by decide))) rfl (jeM (by simp;exact jm (by omega)))) rfl) rfl) (jf3 _ (vH h3 _ _ hT).tk)) (jb rfl rfl)) (jm (show 2<=20000 by decide)))
def jcI (l:List D) (k:Nat):cutD l none (some (k:Int))=l.take k:=by
 unfold cutD;rw [HT.sIx_none,HT.sIx_nat];simp
def jbQ (l:List D) (k:Nat):cutD l (some (k:Int)) none=l.drop k:=by
 unfold cutD;rw [HT.sIx_none,HT.sIx_nat]
 by_cases h:k<=l.length
 · rw [Nat.min_eq_left h];exact List.take_of_length_le (by simp)
 · rw [Nat.min_eq_right (by omega),List.drop_of_length_le (aag _),List.drop_of_length_le (by omega)];simp
structure Sg (ns:List Str) (hs:List Hd) (t t':D):Prop where
 tk:tk ns t'=true
 hgt:hgt t'<=M.hgt t+1
 num:num t'<=2*M.num t+10
 hd: ∃a∈hdL (pts t'),a∉hs
def Kw {x:Str} {t:D} {us:List D} (hx:(x,(us.length:Int))∉hs) (hxn:x∈ns) (ht:M.tk ns t=true) (hu: ∀u∈us,u=t) (hn:us.length*M.num t<=2*M.num t+9) (hl:us.length<=9):Sg ns hs t (.tup (.str x::us)):=by
 refine ⟨US hxn hl fun u h=>(hu u h)▸ht,?_,?_,⟨_,hd_tup.mpr (.inl rfl),hx⟩⟩
 · rw [JC];have:=WE fun u h=>by rw [hu u h];exact aag _
   omega
 · rw [yp];have:=kY fun u h=>by rw [hu u h];exact aag _
   omega
def Xr (d:D) (r:List D):nums (d::r)=num d+nums r:=by simp only [nums]
def jgX (hj:j<ts.length) {s:D} (ht:M.tk ns (.tup (.str z::ts))=true) (hs1:Sg ns hs ts[j] s):Sg ns hs (.tup (.str z::ts)) (.tup (.str z::(ts.take j++[s]++ts.drop (j+1)))):=by
 rcases Jk ht with ⟨i,h⟩| ⟨z',ts',h,hz,hl,hk⟩
 · cases h
 simp at h;obtain ⟨rfl,rfl⟩:=h;have hsp:ts=ts.take j++ts[j]::ts.drop (j+1):=by rw [←abX hj,List.take_append_drop]
 have hlen:(ts.take j++[s]++ts.drop (j+1)).length=ts.length:=by simp;omega
 have hmem: ∀u∈ts.take j++[s]++ts.drop (j+1),u∈ts\/u=s:=fun u hu=>by
   rcases aa1.mp hu with h|h
   · rcases aa1.mp h with h|h
     · exact .inl (ad4 h)
     · exact .inr (aaJ.mp h)
   · exact .inl (ad5 h)
 refine ⟨US hz (by rw [hlen];exact hl) fun u hu=>?_,?_,?_,?_⟩
 · rcases hmem u hu with h|h
   · exact hk u h
   · rw [h];exact hs1.tk
 · rw [JC,JC]
   have:=WE (k:=hgts ts+1) fun u hu=>by
     rcases hmem u hu with h|h
     · have:=WD h;omega
     · rw [h];have h1:=hs1.hgt;have:=WD (aa9 hj);omega
   omega
 · rw [yp,yp];have e1:nums ts=nums (ts.take j)+(num ts[j]+nums (ts.drop (j+1))):=by rw [←Xr,←Wt,←hsp]
   have e2:nums (ts.take j++[s]++ts.drop (j+1))=nums (ts.take j)+num s+nums (ts.drop (j+1)):=by rw [Wt,Wt,Xr];simp only [nums];omega
   have:=hs1.num;omega
 · obtain ⟨a,ha,hn⟩:=hs1.hd;exact ⟨a,hd_tup.mpr (.inr ⟨s,by simp,ha⟩),hn⟩
abbrev stL:Sl->Res D:=lstF (jc (tupF (jc (rdS 2) nil1)) (jc (tupF (jc (rdS 2) (jc (rdS 1) nil1))) (jc (tupF (jc (rdS 2) (jc (rdS 1) (jc (rdS 1) nil1)))) nil1)))
def je6 {x:Str} (hx: ∀h∈hs,h.1≠x) (hxn:x∈ns) {t:D} (ht:tk ns t=true) (n:Int): ∃t',two stL (two (two (rdS 0) (cI 3) divI) (cI 3) modI) ixD [.shr (.int n),.shr t,.shr (.str x),.un]= .ok t'/\Sg ns hs t t':=by
 have sm: ∀k,k<=3->k<=aak:=fun k hk=>jm (by omega)
 have hl:stL [.shr (.int n),.shr t,.shr (.str x),.un]= .ok (.lst [.tup [.str x],.tup [.str x,t],.tup [.str x,t,t]]):=wg (jb (qR (jb rfl rfl) (sm _ (by simp))) (jb (qR (jb rfl (jb rfl rfl)) (sm _ (by simp))) (jb (qR (jb rfl (jb rfl (jb rfl rfl))) (sm _ (by simp))) rfl))) (sm _ (by simp));have hi:two (two (rdS 0) (cI 3) divI) (cI 3) modI [.shr (.int n),.shr t,.shr (.str x),.un]= .ok (.int (n/3%3)):=je (je rfl rfl (uG (by omega))) rfl (zp (by omega));have hno: ∀i:Int,(x,i)∉hs:=fun i h=>hx _ h rfl
 have:n/3%3=0\/n/3%3=1\/n/3%3=2:=by omega
 rcases this with h|h|h<;>rw [h] at hi
 · exact ⟨.tup [.str x],je hl hi rfl,Kw (hno _) hxn ht (fun u h=>by cases h) (by simp) (by simp)⟩
 · exact ⟨.tup [.str x,t],je hl hi rfl,Kw (hno _) hxn ht (fun u h=>by simpa using h) (by simp;omega) (by simp)⟩
 · exact ⟨.tup [.str x,t,t],je hl hi rfl,Kw (hno _) hxn ht (fun u h=>by simpa using h) (by simp only [aaL,acA];omega) (by simp)⟩
theorem Kt {x:Str} (hx: ∀h∈hs,h.1≠x) (hxn:x∈ns) (h9: ∀z,(z,(9:Int))∉hs) (h3: ∀h∈hs,h.1∈ns/\h.2<=3): ∀(m k:Nat) (n:Int) (t:D),Tt hs k t->k<m-> ∃t',jQ m [.int n,t,.str x]= .ok t'/\Sg ns hs t t'
 |0,k,n,t,_,h=>absurd h (aci _)
 |m+1,k,n,t,hT,hk=>by
  have hI:=vH h3 k t hT;obtain ⟨s1,e1,g1⟩:=je6 hx hxn hI.tk n
  have hst: ∀b r,ql (jQ m) [.shr (.int n),.shr t,.shr (.str x),.un]= .ok (.rt b r)->jQ (m+1) [.int n,t,.str x]= .ok r:=fun b r h=>by
    cases b
    · exact kj h
    · exact zP h
  have hmod:asB (two (two (rdS 0) (cI 3) modI) (cI 0) eqR) [.shr (.int n),.shr t,.shr (.str x),.un]= .ok (n%3==0):=jx (je (je rfl rfl (zp (by omega))) rfl y6)
  have hA:(∃i,t= .int i)\/n%3=0-> ∃t',jQ (m+1) [.int n,t,.str x]= .ok t'/\Sg ns hs t t':=fun hc=>by
    refine ⟨s1,hst false _ ?_,g1⟩
    have tt:orB (asB (isiF "int" (rdS 1))) (asB (two (two (rdS 0) (cI 3) modI) (cI 0) eqR)) [.shr (.int n),.shr t,.shr (.str x),.un]= .ok true:=by
      by_cases hi: ∃i,t= .int i
      · obtain ⟨i,rfl⟩:=hi;exact or_t (jx (wP rfl rfl))
      · rcases Jk hI.tk with h| ⟨z,ts,rfl,_⟩
        · exact absurd h hi
        · have h0:=hc.elim (fun h=>absurd h hi) id;rw [h0] at hmod;exact or_f (jx (wP rfl rfl)) hmod
    unfold ql;exact Jm ((if_t tt).trans (Z4 e1))
  by_cases hc:(∃i,t= .int i)\/n%3=0
  · exact hA hc
  cases k with
  |zero=>exact absurd (.inl hT) hc
  |succ k=>
  rcases hT with h| ⟨z,ts,rfl,hz,hts⟩
  · exact absurd (.inl h) hc
  have hne:n%3≠0:=fun h=>hc (.inr h)
  have hlen:lenD [.tup (.str z::ts)]= .ok (.int ((ts.length+1:Nat):Int)):=rfl;have ts3:ts.length<=3:=by have:=(h3 _ hz).2;simp only at this;omega
  have tf:orB (asB (isiF "int" (rdS 1))) (asB (two (two (rdS 0) (cI 3) modI) (cI 0) eqR)) [.shr (.int n),.shr (.tup (.str z::ts)),.shr (.str x),.un]= .ok false:=by
    rw [show (n%3==0)=false by simpa using hne] at hmod;exact or_f (jx (wP rfl rfl)) hmod
  have t1:asB (two (app (jc (rdS 1) nil1) lenD) (cI 1) eqR) [.shr (.int n),.shr (.tup (.str z::ts)),.shr (.str x),.un]= .ok (((ts.length+1:Nat):Int)==1):=jx (je (jY (jb rfl rfl) hlen) rfl y6)
  by_cases he:ts=[]
  · subst he;refine ⟨.tup (.str z::aaP 9 (.tup [.str z])),hst true _ ?_,Kw (by rw [acT];exact h9 z) (h3 _ hz).1 hI.tk (fun u h=>List.eq_of_mem_replicate h) (by rw [acT,yp];simp [nums]) (by simp)⟩;unfold ql;refine (ji ((if_f tf))).trans (Jm ((if_t t1).trans (j3 (je rfl (je (qR (jb rfl rfl) (jm (show 1<=20000 by decide))) rfl (z:= .tup (aaP 9 (.tup [.str z]))) ?_) ?_))))
    · have hc:2<=(9:Int)/\(9:Int)<1000000/\([D.tup [.str z]]:List D).isEmpty=false/\([D.tup [.str z]]:List D).length*(9:Int).toNat<=aak:=⟨by decide,by decide,rfl,jm (show 1*9<=20000 by decide)⟩
      exact (jo hc).trans rfl
    · exact (Kj rfl (by rw [acT];exact jm (show 1+9<=20000 by decide)))
  · have hpos:=List.length_pos_iff.mpr he;rw [show (((ts.length+1:Nat):Int)==1)=false by simp;omega] at t1;have hm0:0<=n/3%(ts.length:Int):=aeo _ (by omega);have hm1:n/3%(ts.length:Int)<ts.length:=adC _ (by omega);obtain ⟨j,hj⟩:=adx hm0;have hjl:j<ts.length:=by omega
    obtain ⟨s,e2,g2⟩:=Kt hx hxn h9 h3 m k (n/9) ts[j] (hts _ (aa9 hjl)) (by omega);refine ⟨_,hst true _ ?_,jgX hjl hI.tk g2⟩;unfold ql;refine (ji ((if_f tf))).trans ((ji ((if_f t1))).trans ?_);refine (ji ((jt (d:= .int ((j+1:Nat):Int)) (je rfl (je (je rfl rfl (uG (by omega))) (je (jY (jb rfl rfl) hlen) rfl (z:= .int ts.length) ?_) (zp (by omega))) ?_)))).trans ?_
    · show Res.ok (D.int (((ts.length+1:Nat):Int)-1))=_;rw [show (((ts.length+1:Nat):Int)-1)=ts.length by omega]
    · show Res.ok (D.int (1+n/3%(ts.length:Int)))=_;rw [hj,show (1+(j:Int))=((j+1:Nat):Int) by omega]
    · have c1:slD (.tup (.str z::ts)) none (some ((j+1:Nat):Int))= .ok (.tup (.str z::ts.take j)):=by
        show Res.ok (D.tup (cutD (.str z::ts) none (some ((j+1:Nat):Int))))=_;rw [jcI];rfl
      have c2:slD (.tup (.str z::ts)) (some ((j+2:Nat):Int)) none= .ok (.tup (ts.drop (j+1))):=by
        show Res.ok (D.tup (cutD (.str z::ts) (some ((j+2:Nat):Int)) none))=_;rw [jbQ];rfl
      have c3:ixD (.tup (.str z::ts)) (.int ((j+1:Nat):Int))= .ok ts[j]:=by
        simp only [ixD];rw [M.atI_nat,aaW,aad hjl]
      have hlt:(ts.take j).length<=3:=by rw [adY];omega
      have hld:(ts.drop (j+1)).length<=3:=by rw [aeX];omega
      refine j3 (je (je (wc rfl rfl (zH rfl) c1) (qR (jb (jw (jb (je rfl rfl (uG (by omega))) (jb (je rfl rfl c3) (jb rfl rfl))) rfl e2) rfl) (jm (show 1<=20000 by decide))) (Kj rfl (by simp;exact jm (by omega)))) (wc rfl (zH (je rfl rfl rfl)) rfl c2) ((Kj rfl (by simp;exact jm (by omega))).trans ?_));simp
def jcw (a b:Int):geI (.int a) (.int b)= .ok (.bl (decide (b<=a))):=rfl
def Wd (w:D) (ks:List Key) (ds:List D):Prop:=w= .dic ks ds\/(w= .non/\ks=[]/\ds=[])
def jcS {w:D} (h:Wd w ks ds) (x0 x1 x3:Slot):ifD (asB (two (rdS 2) cN isN)) cD (rdS 2) [x0,x1,.shr w,x3]= .ok (.dic ks ds):=by
 rcases h with rfl| ⟨rfl,rfl,rfl⟩
 · exact jhd (jx (je rfl rfl rfl)) rfl
 · exact jhc (jx (je rfl rfl rfl)) rfl
def ansV (T v:Int):Res D:=if T<=v then .exc "TooGreat" else .ok (.int v)
section
variable {es:List En} {t:D} {ks:List Key} {ds:List D} {w:D} {l:List Hd} {v:Int}
def yk (hh:zE [t]= .ok (.lst (l.map hdD))) (hl:jS [.lst (l.map hdD),bhD es]= .ok .non) (hw:Wd w ks ds) (hv:jF 64 [ppD es,t,.dic ks ds]= .ok (.int (cap (10^300) v))):jl [ppD es,t,w]=ansV (10^300) v:=by
 have hTm:=ftg;generalize (10:Int)^300=T at hTm hv ⊢
 have e0:jN jS (jF 64) zE jO [.shr (ppD es),.shr t,.shr w,.un]=if T<=v then .exc "TooGreat" else .ok (.rt false (.int v)):=by
   unfold jN;refine (ji (jel (jbY (jb (jw (jb rfl rfl) rfl hh) (jb (uj rfl rfl) rfl)) rfl hl))).trans ?_;refine (ji (VH ((jt (K3 rfl (by decide+kernel) (jb rfl (jb (jcS hw _ _ _) rfl)) rfl hv))))).trans ?_;have ht:asB (two (rdS 3) (jy 0 jO nil1) geI) [.shr (ppD es),.shr t,.shr w,.shr (.int (cap T v))]= .ok (decide (T<=cap T v)):=jx (je rfl (jw rfl rfl hTm) (jcw _ _))
   by_cases hc:T<=v
   · rw [if_pos hc];rw [xX hc,decide_eq_true (Int.le_refl T)] at ht;rw [xX hc];exact U1 (ZH ht rfl)
   · have hs:v<=T:=by omega
     rw [if_neg hc];rw [xW hs,decide_eq_false hc] at ht;rw [xW hs];refine (ji (ZH ht rfl)).trans ?_;exact VH (Z4 rfl)
 unfold ansV
 by_cases hc:T<=v
 · rw [if_pos hc] at e0 ⊢;exact KA e0
 · rw [if_neg hc] at e0 ⊢;exact jfh e0
def ZS (hh:zE [t]= .ok (.lst (l.map hdD))) (hl:jS [.lst (l.map hdD),bhD es]= .exc "NoHead"):jl [ppD es,t,w]= .exc "NoHead" :=by
 refine KA ?_;show jN jS (jF 64) zE jO [.shr (ppD es),.shr t,.shr w,.un]=_;unfold jN;refine U1 ?_;have hc:callX 2 jS (jc (jy 1 zE (jc (rdS 1) nil1)) (jc (fldF "Numbers" "products" (rdB 0)) nil1)) [.shr (ppD es),.shr t,.shr w,.un]= .exc "NoHead" :=(VI (jb (jw (jb rfl rfl) rfl hh) (jb (uj rfl rfl) rfl)) rfl).trans hl;show (callX 2 jS _ _>>=_)=_;rw [hc];rfl
def jfV:Res D->Res D
 | .ok (.int v)=> .ok (.int (v-1))
 | .ok _=> .stuck
 | .exc c=> .exc c
 | .stuck=> .stuck
def WQ (R:Res D) (hR:(∃c,R= .exc c)\/ ∃v,R= .ok (.int v)) (h:jl [ppD es,t,.non]=R):jP [ppD es,t]=jfV R:=by
 have hm:wb "Numbers" "value" 3 [.non] jl (rdS 0) (jc (rdS 1) nil1) [.shr (ppD es),.shr t]=R:=(Qn (ds:=[t]) rfl (by decide+kernel) (jb rfl rfl) rfl).trans h
 have e0:qB jl [.shr (ppD es),.shr t]=(jfV R>>=fun d=> .ok (.rt true d)):=by
   unfold qB;show (twoX _ _ _ _>>=_)=_;unfold twoX;rw [hm];rcases hR with ⟨c,rfl⟩| ⟨v,rfl⟩<;>rfl
 rcases hR with ⟨c,rfl⟩| ⟨v,rfl⟩
 · exact KA e0
 · exact jfg e0
def vN {tt:TJ} {g2:TH} (ht:tt env= .ok true) (h1:g1 env= .ok (.nx env')) (h2:g2 env'= .ok (.nx env')):ifcY tt g1 g2 env= .ok (.nx env'):=by
 unfold ifcY;rw [ht];dsimp only;rw [h1];show nx1 (g2 env')=_;rw [h2];rfl
def vO {tt:TJ} {g2:TH} (ht:tt env= .ok true) (h1:g1 env= .exc c):ifcY tt g1 g2 env= .exc c:=by
 unfold ifcY;rw [ht];dsimp only;rw [h1];rfl
def ZG {tt:TJ} {g2:TH} (ht:tt env= .ok false):ifcY tt g1 g2 env=g2 env:=by
 unfold ifcY;rw [ht]
abbrev sd3:Sl->Res Out:=ifX (asB (two (rdS 1) (cI 2) eqR)) (jC 5 (wb "Numbers" "count" 2 [] jP (rdS 0) (jc (rdS 2) nil1))) nxO
abbrev sd2:Sl->Res Out:=ifcY (asB (two (rdS 1) (cI 1) eqR)) (jC 5 (wb "Numbers" "value" 3 [.non] jl (rdS 0) (jc (rdS 2) nil1))) sd3
abbrev sd1:Sl->Res Out:=ifcY (andB (asB (two (rdS 1) (cI 0) eqR)) (asB (two (two (app (jc (rdS 3) nil1) lenK) (cI 2) modI) (cI 0) eqR))) (jC 5 (wb "Numbers" "value" 3 [] jl (rdS 0) (jc (rdS 2) (jc (rdS 3) nil1)))) sd2
abbrev sd0:Sl->Res Out:=ifcY (andB (asB (two (rdS 1) (cI 0) eqR)) (asB (two (two (app (jc (rdS 3) nil1) lenK) (cI 2) modI) (cI 1) eqR))) (jC 5 (wb "Numbers" "value" 3 [] jl (rdS 0) (jc (rdS 2) (jc (rdS 3) nil1)))) sd1
abbrev sdE (es:List En) (way:Int) (t:D) (ks:List Key) (ds:List D) (x5:Slot):Sl:=[.shr (ppD es),.shr (.int way),.shr t,.shr (.dic ks ds),.shr .non,x5,.un]
def rs (es:List En) (way:Int) (t:D) (ks:List Key) (ds:List D):Res D->Res Out
 | .ok d=> .ok (.nx (sdE es way t ks ds (.shr d)))
 | .exc c=> .exc c
 | .stuck=> .stuck
def wt (way k:Int) (x5:Slot):asB (two (rdS 1) (cI k) eqR) (sdE es way t ks ds x5)= .ok (way==k):=jx (je rfl rfl y6)
def wl (way k:Int) (x5:Slot):asB (two (two (app (jc (rdS 3) nil1) lenK) (cI 2) modI) (cI k) eqR) (sdE es way t ks ds x5)= .ok ((ks.length:Int)%2==k):=jx (je (je (jY (jb rfl rfl) rfl) rfl (zp (by omega))) rfl y6)
def jcb (h:way≠2):sd3 (sdE es way t ks ds x5)= .ok (.nx (sdE es way t ks ds x5)):=by
 have:=wt (es:=es) (t:=t) (ks:=ks) (ds:=ds) way 2 x5;rw [show (way==2)=false by simpa using h] at this;exact ZH this rfl
def jcc (h:way≠2) (h1:way≠1):sd2 (sdE es way t ks ds x5)= .ok (.nx (sdE es way t ks ds x5)):=by
 have:=wt (es:=es) (t:=t) (ks:=ks) (ds:=ds) way 1 x5;rw [show (way==1)=false by simpa using h1] at this;exact (ZG this).trans (jcb h)
def Yw (R:Res D) (hR:(∃c,R= .exc c)\/ ∃v,R= .ok v) (h:jl [ppD es,t,.dic ks ds]=R):sd0 (sdE es 0 t ks ds (.shr .non))=rs es 0 t ks ds R:=by
 have hm:wb "Numbers" "value" 3 [] jl (rdS 0) (jc (rdS 2) (jc (rdS 3) nil1)) (sdE es 0 t ks ds (.shr .non))=R:=(Qn (ds:=[t,.dic ks ds]) rfl (by decide+kernel) (jb rfl (jb rfl rfl)) rfl).trans h;have w0:=fun x5=>wt (es:=es) (t:=t) (ks:=ks) (ds:=ds) 0 0 x5
 have hodd:(ks.length:Int)%2=1\/(ks.length:Int)%2=0:=by omega
 rcases hodd with ho|ho
 · have b1: ∀x5,andB (asB (two (rdS 1) (cI 0) eqR)) (asB (two (two (app (jc (rdS 3) nil1) lenK) (cI 2) modI) (cI 1) eqR)) (sdE es 0 t ks ds x5)= .ok true:=fun x5=>by
     have:=wl (es:=es) (t:=t) (ks:=ks) (ds:=ds) 0 1 x5;rw [ho] at this;exact jb1 (w0 x5) this
   have b2: ∀x5,andB (asB (two (rdS 1) (cI 0) eqR)) (asB (two (two (app (jc (rdS 3) nil1) lenK) (cI 2) modI) (cI 0) eqR)) (sdE es 0 t ks ds x5)= .ok false:=fun x5=>by
     have:=wl (es:=es) (t:=t) (ks:=ks) (ds:=ds) 0 0 x5;rw [ho] at this;exact jb1 (w0 x5) this
   rcases hR with ⟨c,rfl⟩| ⟨d,rfl⟩
   · exact vO (b1 _) (Jl hm)
   · exact vN (b1 _) ((jt hm)) ((ZG (b2 _)).trans (jcc (by decide) (by decide)))
 · have b1: ∀x5,andB (asB (two (rdS 1) (cI 0) eqR)) (asB (two (two (app (jc (rdS 3) nil1) lenK) (cI 2) modI) (cI 1) eqR)) (sdE es 0 t ks ds x5)= .ok false:=fun x5=>by
     have:=wl (es:=es) (t:=t) (ks:=ks) (ds:=ds) 0 1 x5;rw [ho] at this;exact jb1 (w0 x5) this
   have b2: ∀x5,andB (asB (two (rdS 1) (cI 0) eqR)) (asB (two (two (app (jc (rdS 3) nil1) lenK) (cI 2) modI) (cI 0) eqR)) (sdE es 0 t ks ds x5)= .ok true:=fun x5=>by
     have:=wl (es:=es) (t:=t) (ks:=ks) (ds:=ds) 0 0 x5;rw [ho] at this;exact jb1 (w0 x5) this
   refine (ZG (b1 _)).trans ?_;rcases hR with ⟨c,rfl⟩| ⟨d,rfl⟩
   · exact vO (b2 _) (Jl hm)
   · exact vN (b2 _) ((jt hm)) (jcc (by decide) (by decide))
def U8 (h:way≠0):sd0 (sdE es way t ks ds x5)=sd2 (sdE es way t ks ds x5):=by
 have w0:=wt (es:=es) (t:=t) (ks:=ks) (ds:=ds) way 0 x5;rw [show (way==0)=false by simpa using h] at w0;exact (ZG (jgC w0)).trans (ZG (jgC w0))
def Yv (R:Res D) (hR:(∃c,R= .exc c)\/ ∃v,R= .ok v) (h:jl [ppD es,t,.non]=R):sd0 (sdE es 1 t ks ds (.shr .non))=rs es 1 t ks ds R:=by
 have hm:wb "Numbers" "value" 3 [.non] jl (rdS 0) (jc (rdS 2) nil1) (sdE es 1 t ks ds (.shr .non))=R:=(Qn (ds:=[t]) rfl (by decide+kernel) (jb rfl rfl) rfl).trans h;refine (U8 (by decide)).trans ?_;rcases hR with ⟨c,rfl⟩| ⟨d,rfl⟩
 · exact vO (wt 1 1 _) (Jl hm)
 · exact vN (wt 1 1 _) ((jt hm)) (jcb (by decide))
def Yu (R:Res D) (hR:(∃c,R= .exc c)\/ ∃v,R= .ok v) (h:jP [ppD es,t]=R):sd0 (sdE es 2 t ks ds (.shr .non))=rs es 2 t ks ds R:=by
 have hm:wb "Numbers" "count" 2 [] jP (rdS 0) (jc (rdS 2) nil1) (sdE es 2 t ks ds (.shr .non))=R:=(Qn (ds:=[t]) rfl (by decide+kernel) (jb rfl rfl) rfl).trans h;refine (U8 (by decide)).trans ((ZG (wt 2 1 _)).trans ?_);rcases hR with ⟨c,rfl⟩| ⟨d,rfl⟩
 · exact ZH (wt 2 2 _) (Jl hm)
 · exact ZH (wt 2 2 _) ((jt hm))
end
section
variable {es:List En} {t:D} {ks:List Key} {ds:List D} {way:Int}
abbrev sdG:Sl->Res Out:=zT jl jP
def Yy (h:sd0 (sdE es way t ks ds (.shr .non))=rs es way t ks ds (.ok d)):qk [ppD es,.int way,t,.dic ks ds]= .ok (.lst [d]):=by
 refine zP ?_;show sdG [.shr (ppD es),.shr (.int way),.shr t,.shr (.dic ks ds),.un,.un,.un]=_;unfold sdG zT;refine (ji rfl).trans ?_;refine (ji rfl).trans ?_
 have ht:tryO ["NoHead", "TooGreat"] sd0 6 (jC 4 (rdS 6)) (sdE es way t ks ds (.shr .non))= .ok (.nx (sdE es way t ks ds (.shr d))):=by
  unfold tryO;rw [h];rfl
 refine (ji ht).trans ?_;exact Jm ((if_t (jx (je rfl rfl rfl))).trans (j3 (wg (jb rfl rfl) (jm (show 1<=20000 by decide)))))
def Kz {k:Int} (hc:(["NoHead", "TooGreat"]:List Str).contains c=true) (b1 b2:Bool) (e1:isyD [("NoHead",true),("TooGreat",false)] (.exn c)= .ok (.bl b1)) (e2:isyD [("NoHead",false),("TooGreat",true)] (.exn c)= .ok (.bl b2)) (e3:isyD [("NoHead",false),("TooGreat",false)] (.exn c)= .ok (.bl false)) (hb:eqR (.bl b1) (.bl b2)= .ok (.bl false)) (hk:(if b1=true then 1 else 0)=k) (h:sd0 (sdE es way t ks ds (.shr .non))=rs es way t ks ds (.exc c)):qk [ppD es,.int way,t,.dic ks ds]= .ok (.tup [.int k]):=by
 refine zP ?_;show sdG [.shr (ppD es),.shr (.int way),.shr t,.shr (.dic ks ds),.un,.un,.un]=_;unfold sdG zT;refine (ji rfl).trans ?_;refine (ji rfl).trans ?_
 have ht:tryO ["NoHead", "TooGreat"] sd0 6 (jC 4 (rdS 6)) (sdE es way t ks ds (.shr .non))= .ok (.nx [.shr (ppD es),.shr (.int way),.shr t,.shr (.dic ks ds),.shr (.exn c),.shr .non,.un]):=by
  unfold tryO;rw [h];show (if (["NoHead", "TooGreat"]:List Str).contains c=true then _ else _)=_;rw [if_pos hc];rfl
 refine (ji ht).trans ?_;have i1: ∀tab b,isyD tab (.exn c)= .ok (.bl b)->isyF tab (rdS 4) [.shr (ppD es),.shr (.int way),.shr t,.shr (.dic ks ds),.shr (.exn c),.shr .non,.un]= .ok (.bl b):=fun tab b h=>h
 have i2:isxF ["NoHead", "TooGreat"] (rdS 4) [.shr (ppD es),.shr (.int way),.shr t,.shr (.dic ks ds),.shr (.exn c),.shr .non,.un]= .ok (.bl true):=by
  show (if (["NoHead", "TooGreat"]:List Str).contains c=true then Res.ok (D.bl true) else Res.stuck)=_;rw [if_pos hc]
 refine (ji ((if_f (jx (je rfl rfl rfl))))).trans ?_;refine (ji ((if_f (jx (i1 _ _ e3))))).trans ?_;refine (ji ((if_f (or_f (qr (jx i2)) (jx (je (i1 _ _ e1) (i1 _ _ e2) hb)))))).trans ?_;refine j3 (qR (jb (ZN (jY (jb (i1 _ _ e1) rfl) ?_) rfl) rfl) (jm (show 1<=20000 by decide)));show Res.ok (D.int (if b1=true then 1 else 0))=_;rw [hk]
def jc4 (h:sd0 (sdE es way t ks ds (.shr .non))=rs es way t ks ds (.exc "NoHead")):qk [ppD es,.int way,t,.dic ks ds]= .ok (.tup [.int 1]):=
 Kz (by decide+kernel) true false (by rfl) (by rfl) (by rfl) (by rfl) rfl h
def jc3 (h:sd0 (sdE es way t ks ds (.shr .non))=rs es way t ks ds (.exc "TooGreat")):qk [ppD es,.int way,t,.dic ks ds]= .ok (.tup [.int 0]):=
 Kz (by decide+kernel) false true (by rfl) (by rfl) (by rfl) (by rfl) rfl h
def uw (i:Int):eqR (.tup [.int i]) (.tup [.int i])= .ok (.bl true):=by
 refine (jo (.inl ⟨rfl,rfl,by simp [D.dep,D.deps]⟩)).trans ?_;simp [eqD,eqDs]
def ja9 (h:qk [ppD es,.int way,t,.dic ks ds]= .ok (.tup [.int 1])):jG [ppD es,.int way,t,.dic ks ds,.non]= .ok (.bl true):=by
 refine zP ?_;unfold zu;refine (ji ((jt (jw (jb rfl (jb rfl (jb rfl (jb rfl rfl)))) rfl h)))).trans ?_;exact Jm ((if_t (jx (je rfl rfl rfl))).trans (j3 (je rfl (qR (jb rfl rfl) (jm (by decide))) (uw 1))))
def K4 {v:Int} (x5:Slot):asB (two (rdS 4) (two (two (cI 10) (cI 60) powI) (cI 5) powW) geI) [.shr (ppD es),.shr (.int way),.shr t,.shr (.dic ks ds),.shr (.int v),x5]= .ok (decide (10^300<=v)):=jx (je rfl (je (je rfl rfl kK) rfl pW) (jcw _ _))
def ja8 {v:Int} (hv:10^300<=v) (h:qk [ppD es,.int way,t,.dic ks ds]= .ok (.tup [.int 0])):jG [ppD es,.int way,t,.dic ks ds,.int v]= .ok (.bl true):=by
 have hg:=fun x5=>K4 (es:=es) (t:=t) (ks:=ks) (ds:=ds) (way:=way) (v:=v) x5
 rw [decide_eq_true hv] at hg;refine zP ?_;unfold zu;refine (ji ((jt (jw (jb rfl (jb rfl (jb rfl (jb rfl rfl)))) rfl h)))).trans ?_;refine (ji ((if_f (jx (je rfl rfl rfl))))).trans ?_;exact Jm ((if_t (hg _)).trans (j3 (je rfl (qR (jb rfl rfl) (jm (by decide))) (uw 0))))
def Ww {v u:Int} (hv: ¬10^300<=v) (hu:u=v-(if (way==2)=true then 1 else 0)) (h:qk [ppD es,.int way,t,.dic ks ds]= .ok (.lst [.int u])):jG [ppD es,.int way,t,.dic ks ds,.int v]= .ok (.bl true):=by
 have hg:=fun x5=>K4 (es:=es) (t:=t) (ks:=ks) (ds:=ds) (way:=way) (v:=v) x5
 rw [decide_eq_false hv] at hg;refine zP ?_;unfold zu;refine (ji ((jt (jw (jb rfl (jb rfl (jb rfl (jb rfl rfl)))) rfl h)))).trans ?_;refine (ji ((if_f (jx (je rfl rfl rfl))))).trans ?_;refine (ji ((if_f (hg _)))).trans ?_
 have hl:lstF (jc (two (rdS 4) (app (jc (two (rdS 1) (cI 2) eqR) nil1) vK) subI) nil1) [.shr (ppD es),.shr (.int way),.shr t,.shr (.dic ks ds),.shr (.int v),.shr (.lst [.int u])]= .ok (.lst [.int u]):=by
  refine wg (jb (je rfl (jY (jb (je rfl rfl y6) rfl) rfl) ?_) rfl) (jm (show 1<=20000 by decide));rw [hu];rfl
 refine (ji ((if_f (or_f (qr (jx (wP (x:= .lst [.int u]) rfl rfl))) (jx (je rfl hl ((jbS [u]).2))))))).trans ?_;refine j3 (jeX (wP (je rfl rfl rfl) rfl) ?_);rfl
def Ways (way:Int) (ks:List Key) (ds:List D):Prop:=way=0\/((way=1\/way=2)/\ks=[]/\ds=[])
def Zy {v:Int} (hw:Ways way ks ds) (hh:zE [t]= .ok (.lst (l.map hdD))) (hl:jS [.lst (l.map hdD),bhD es]= .ok .non) (hv:jF 64 [ppD es,t,.dic ks ds]= .ok (.int (cap (10^300) v))):jG [ppD es,.int way,t,.dic ks ds,.int v]= .ok (.bl true):=by
 by_cases hc:10^300<=v
 · have ha:ansV (10^300) v= .exc "TooGreat" :=if_pos hc;refine ja8 hc (jc3 ?_);rcases hw with rfl| ⟨rfl|rfl,rfl,rfl⟩
   · exact Yw _ (.inl ⟨_,rfl⟩) ((yk hh hl (.inl rfl) hv).trans ha)
   · exact Yv _ (.inl ⟨_,rfl⟩) ((yk hh hl (.inr ⟨rfl,rfl,rfl⟩) hv).trans ha)
   · exact Yu _ (.inl ⟨_,rfl⟩) (WQ _ (.inl ⟨_,rfl⟩) ((yk hh hl (.inr ⟨rfl,rfl,rfl⟩) hv).trans ha))
 · have ha:ansV (10^300) v= .ok (.int v):=if_neg hc;rcases hw with rfl| ⟨rfl|rfl,rfl,rfl⟩
   · refine Ww (u:=v) hc ?_ (Yy ?_)
     · show v=v-0;omega
     · exact Yw _ (.inr ⟨_,rfl⟩) ((yk hh hl (.inl rfl) hv).trans ha)
   · refine Ww (u:=v) hc ?_ (Yy ?_)
     · show v=v-0;omega
     · exact Yv _ (.inr ⟨_,rfl⟩) ((yk hh hl (.inr ⟨rfl,rfl,rfl⟩) hv).trans ha)
   · refine Ww hc rfl (Yy ?_);exact Yu _ (.inr ⟨_,rfl⟩) (WQ _ (.inr ⟨_,rfl⟩) ((yk hh hl (.inr ⟨rfl,rfl,rfl⟩) hv).trans ha))
def Xw (hw:Ways way ks ds) (hh:zE [t]= .ok (.lst (l.map hdD))) (hl:jS [.lst (l.map hdD),bhD es]= .exc "NoHead"):jG [ppD es,.int way,t,.dic ks ds,.non]= .ok (.bl true):=by
 refine ja9 (jc4 ?_);rcases hw with rfl| ⟨rfl|rfl,rfl,rfl⟩
 · exact Yw _ (.inl ⟨_,rfl⟩) (ZS hh hl)
 · exact Yv _ (.inl ⟨_,rfl⟩) (ZS hh hl)
 · exact Yu _ (.inl ⟨_,rfl⟩) (WQ _ (.inl ⟨_,rfl⟩) (ZS hh hl))
end
theorem UN: ∀ {ks:List Key} {ds:List D},ks.Nodup-> ∀p∈ks.zip ds,valD ks ds p.1=some p.2
 | [],ds,_,p,hp=>by simp at hp
 |k::ks,[],_,p,hp=>by simp at hp
 |k::ks,d::ds,h,p,hp=>by
  rw [acf] at h;rw [ab3,aaG] at hp;rcases hp with rfl|hp
  · simp [valD]
  · have hk:k≠p.1:=fun e=>h.1 (e▸(acB hp).1)
    have:valD (k::ks) (d::ds) p.1=valD ks ds p.1:=by simp [valD,hk]
    rw [this];exact UN h.2 p hp
theorem Vw: ∀(ks:List Key) (ds:List D),(∀p∈ks.zip ds,valD ks0 ds0 p.1=some p.2)->(∀d∈ds,eqD d d=true)->XU ks ds ks0 ds0=true
 | [],ds,_,_=>by cases ds<;>rfl
 |k::ks,[],_,_=>rfl
 |k::ks,d::ds,h,he=>by
  have h1:=h (k,d) (by simp);show ((match valD ks0 ds0 k with|some e=>eqD d e|none=>false)&&XU ks ds ks0 ds0)=true;rw [show valD ks0 ds0 k=some d from h1,Vw ks ds (fun p hp=>h p (by rw [ab3];exact aal _ hp)) fun e hh=>he e (by simp [hh])];simp [he d (by simp)]
def uc (c:Int): ∃m:Int,wu [.int c]= .ok (.int m):=by
 have hp:(0:Int)<10^60:=Int.pow_pos (by decide);have hp2:(0:Int)<10^24:=Int.pow_pos (by decide);have hm0:=aeo c (show (10:Int)^60≠0 by omega);have hm1:=adC c hp
 have b1:intBits (c%10^60+41)<=201:=(yA (by omega)).mpr (by
  have:(10:Int)^60+41<=2^201:=by decide+kernel
  omega)
 have b2:intBits ((23:Int)^64)<=5*64+1:=aeH (by decide) 64;have b3:intBits ((10:Int)^60)<=4*60+1:=aeH (by decide) 60;have b4:intBits ((10:Int)^24)<=4*24+1:=aeH (by decide) 24;have p60:powI (.int 10) (.int 60)= .ok (.int (10^60)):=Jq ⟨by decide,by decide,by decide⟩;have p24:powI (.int 10) (.int 24)= .ok (.int (10^24)):=Jq ⟨by decide,by decide,by decide⟩;have p23:powI (.int 23) (.int 64)= .ok (.int (23^64)):=Jq ⟨by decide,by decide,by decide⟩;generalize (10:Int)^60=A at*;generalize (10:Int)^24=B at*;generalize (23:Int)^64=C at*;refine ⟨(c%A+41)*C%(A*B),zP ?_⟩;unfold xO;refine (ji ((jt (je (je rfl rfl p60) (je rfl rfl p24) (Zx (show MulC A B by unfold MulC;omega)))))).trans ?_;exact j3 (je (je (je (je rfl (je rfl rfl p60) (zp hp)) rfl rfl) (je rfl rfl p23) (Zx (show MulC (c%A+41) C by unfold MulC;omega))) rfl (zp (Int.mul_pos hp hp2)))
def VF (ds:List Int) (k:Nat): ∃c:Int,wG [.scr (ds.map D.int),.int k]= .ok (.int c):=by
 have ht:asB (two (rdS 1) (app (jc (rdS 0) nil1) lenD) ltI) [.shr (.scr (ds.map D.int)),.shr (.int k)]= .ok (decide ((k:Int)<ds.length)):=by
   refine jx (je rfl (jY (jb rfl rfl) rfl) ?_);show Res.ok (D.bl (decide ((k:Int)< ((ds.map D.int).length:Nat))))=_;rw [aaj]
 by_cases h:k<ds.length
 · rw [decide_eq_true (by omega)] at ht;refine ⟨ds[k],kj ?_⟩;unfold zm;refine Jm ((if_t ht).trans (Z4 (je rfl rfl ?_)));simp only [ixD];rw [M.atI_nat,aaE,aad h];rfl
 · rw [decide_eq_false (by omega)] at ht;refine ⟨0,zP ?_⟩;unfold zm;exact (ji ((if_f ht))).trans rfl
def jgu (pre:List En) (e:En) (h:(e.z,(e.m:Int))∉hk pre):Zi ((hk pre).map hdK) (hdK (e.z,(e.m:Int)))=(hk (pre++[e])).map hdK/\Zj ((hk pre).map hdK) (pre.map fun e=>D.lst (e.l.map dPr)) (hdK (e.z,(e.m:Int))) (.lst (e.l.map dPr))=(pre++[e]).map fun e=>D.lst (e.l.map dPr):=by
 unfold Zi Zj;rw [YZ,decide_eq_false h];simp [hk]
abbrev bhB:Sl->Res Out:=XT 5 (rdS 12) (rdS 13)
theorem jah (x0 x1 x2 x3 x4 x6 x7 x8 x9 x10 x11 x14 x15 x16 x17 x18 x19:Slot): ∀(es pre:List En) (u12 u13:Slot),(hk (pre++es)).Nodup->(pre++es).length<=60->
  ∃v12 v13,forD (qo (g2 (gN 12) (gN 13)) bhB) (es.map dEn) [x0,x1,x2,x3,x4,.own (bhD pre),x6,x7,x8,x9,x10,x11,u12,u13,x14,x15,x16,x17,x18,x19]= .ok (.nx [x0,x1,x2,x3,x4,.own (bhD (pre++es)),x6,x7,x8,x9,x10,x11,v12,v13,x14,x15,x16,x17,x18,x19])
 | [],pre,u12,u13,_,_=>⟨u12,u13,by rw [abC];rfl⟩
 |e::es,pre,u12,u13,nd,hl=>by
  have hno:(e.z,(e.m:Int))∉hk pre:=fun z=>by
   unfold hk at nd z;rw [aa3,aaB] at nd;exact (abI.mp nd).2.2 _ z _ aap rfl
  obtain ⟨p1,p2⟩:=jgu pre e hno;have ea:pre++[e]++es=pre++e::es:=by simp
  obtain ⟨v12,v13,e2⟩:=jah x0 x1 x2 x3 x4 x6 x7 x8 x9 x10 x11 x14 x15 x16 x17 x18 x19 es (pre++[e]) (.shr (hdN e.z e.m)) (.shr (.lst (e.l.map dPr))) (by rw [ea];exact nd) (by rw [ea];exact hl);rw [ea] at e2;refine ⟨v12,v13,(zg ?_).trans e2⟩;rw [qm rfl];rw [VL,VL (pre++[e]),←p1,←p2];refine (jo ?_).trans rfl;rw [aaj];unfold hk;rw [aaj];simp at hl;exact aas (show pre.length<20000 by omega) big1
structure GD (n:Nat) (ks:List Key) (ds:List D):Prop where
 len:ks.length=ds.length
 few:ks.length<=n
 nd:ks.Nodup
 val: ∀d∈ds,∃v:Int,d= .int v/\1<=v/\v<=10^30
def jf8:GD 0 [] []:=⟨rfl,aag _,.nil,fun _ h=>by cases h⟩
def jf7 (g:GD n ks ds) (k:Key) {v:Int} (h1:1<=v) (h2:v<=10^30):GD (n+1) (Z6 ks k) (Z7 ks ds k (.int v)):=by
 unfold Z6 Z7
 by_cases h:hasK ks k=true
 · rw [if_pos h,if_pos h];refine ⟨by rw [aaj,List.length_zip,←g.len,Nat.min_self],aeO g.few,g.nd,fun d hd=>?_⟩;obtain ⟨p,hp,rfl⟩:=aat.mp hd
   split
   · exact ⟨v,rfl,h1,h2⟩
   · exact g.val _ (acB hp).2
 · rw [if_neg h,if_neg h];refine ⟨by simp [g.len],by have:=g.few;simp;omega,?_,fun d hd=>?_⟩
   · refine abI.mpr ⟨g.nd,by simp,fun x hx y hy e=>?_⟩;rw [aaJ] at hy;subst hy;subst e;exact h (ab6.mpr ⟨x,hx,by simp⟩)
   · rcases aa1.mp hd with h|h
     · exact g.val d h
     · rw [aaJ] at h;exact ⟨v,h,h1,h2⟩
def gvO:Option D->Int
 |some (.int v)=>v
 |_=>1
def jf9 (g:GD n ks ds):Gv ks ds fun i=>gvO (valD ks ds (.inl i)):=by
 have hm: ∀i d,valD ks ds (.inl i)=some d->d∈ds:=fun i d h=>by
   unfold valD at h;rw [abR] at h;obtain ⟨p,hp,rfl⟩:=h;exact (acB (List.mem_of_find?_eq_some hp)).2
 refine ⟨fun i=>?_,fun i=>?_,fun i=>?_⟩
 · show Res.ok ((valD ks ds (.inl i)).getD (.int 1))=_
   cases h:valD ks ds (.inl i) with
   |none=>rfl
   |some d=>
    obtain ⟨v,rfl,_⟩:=g.val d (hm i d h);rfl
 · cases h:valD ks ds (.inl i) with
   |none=>exact Int.le_refl 1
   |some d=>
    obtain ⟨v,rfl,h1,h2⟩:=g.val d (hm i d h);exact h1
 · cases h:valD ks ds (.inl i) with
   |none=>exact (by decide:(1:Int)<=10^30)
   |some d=>
    obtain ⟨v,rfl,h1,h2⟩:=g.val d (hm i d h);exact h2
def jhg (g:GD n ks ds):vc (.dic ks ds) (.dic ks ds)= .ok (.bl false):=by
 have c:DicC ds ds:=by
  have h1:=Y5 fun d hd=>by
   obtain ⟨v,rfl,_⟩:=g.val d hd;rfl
  refine ⟨h1,h1,?_⟩
  have:D.deps ds<=0:=Kb fun d hd=>by
   obtain ⟨v,rfl,_⟩:=g.val d hd;exact aag _
  omega
 show must (DicC ds ds) _=_
 rw [jo c,Vw ks ds (UN g.nd) fun d hd=>by
  obtain ⟨v,rfl,_⟩:=g.val d hd
  simp [eqD]]
 simp
def chn (z:Str) (i:Int):Nat->D
 |0=> .int i
 |n+1=> .tup [.str z,chn z i n]
theorem jcK (z:Str) (i:Int): ∀n,tk [z] (chn z i n)=true/\hgt (chn z i n)=n+1/\num (chn z i n)=n+1/\ ∀a∈hdL (pts (chn z i n)),a=(z,(1:Int))
 |0=>⟨rfl,by simp [chn,hgt],by simp [chn,num],by simp [chn,pts,hdL]⟩
 |n+1=>by
  obtain ⟨h1,h2,h3,h4⟩:=jcK z i n;refine ⟨US (by simp) (by simp) fun t ht=>by rw [aaJ] at ht;rw [ht];exact h1,?_,?_,fun a ha=>?_⟩
  · show hgt (.tup (.str z::[chn z i n]))=_;rw [JC];simp only [hgts];omega
  · show num (.tup (.str z::[chn z i n]))=_;rw [yp];simp only [nums];omega
  · rcases hd_tup.mp (show a∈hdL (pts (.tup (.str z::[chn z i n]))) from ha) with e| ⟨t,ht,hb⟩
    · exact e
    · rw [aaJ] at ht;rw [ht] at hb;exact h4 a hb
theorem jcL (h:(z,(1:Int))∈hs) (i:Int): ∀n,Tt hs n (chn z i n)
 |0=>⟨i,rfl⟩
 |n+1=> .inr ⟨z,[chn z i n],rfl,h,fun t ht=>by rw [aaJ] at ht;rw [ht];exact jcL h i n⟩
theorem Zs: ∀ {es:List En} {e:En},(∀f∈es,f.z≠e.z)->zR (es++[e]) e.z e.m=e.l
 | [],e,_=>if_pos ⟨rfl,rfl⟩
 |f::es,e,h=>(if_neg fun z=>h f aap z.1).trans (Zs fun g hg=>h g (aal _ hg))
theorem uS {es:List En} {P:Int} (hp:zR es z 1=[(P,[1])]) (gv:Int->Int) (i:Int): ∀n m,n<=m->val es gv m (chn z i n)=P^n*gv i
 |0,m,_=>by rw [chn,Yq,afd,Int.one_mul]
 |n+1,0,h=>by omega
 |n+1,m+1,h=>by
  have ih:=uS hp gv i n m (by omega);show val es gv (m+1) (.tup (.str z::[chn z i n]))=_;rw [JS];show ((zR es z 1).map fun q=>mulP q.1 q.2 [val es gv m (chn z i n)]).sum=_;rw [hp,ih];show P*(P^n*gv i)^(1:Int).toNat+0=_;rw [show (1:Int).toNat=1 from rfl,adp,afd,Int.one_mul,Int.add_zero,adp,aeA (P^n) P,Int.mul_assoc]
structure Lw (S3:D) (nm:D) (x:Str) (NS:List Str) (hs:List (Str×Nat)) (es:List En) (ho:List Int):Prop where
 hl:hs.length=4
 har: ∀h∈hs,h.2<=3
 sub: ∀a∈hsH hs,a∈hk es
 ok: ∀e∈es,EnOk e
 nm5:ixD nm (.int 5)= .ok (.str x)
 hx: ∀h∈hk es,h.1≠x
 xn:x∈NS
 h3: ∀h∈hk es,h.1∈NS/\h.2<=3
 few:Few NS
 sl:slD S3 none (some 4)= .ok (hsD hs)
 hho:ho.length=3
abbrev lwE (S0 S1:Slot) (nm S3:D) (x4:Slot) (es:List En) (ho:List Int) (x11 x12 x13 u8 u9 u10 u14 u15 u16 u17 u18 u19:Slot):Sl:=[S0,S1,.shr nm,.shr S3,x4,.own (bhD es),.shr (ppD es),.shr (.lst (ho.map D.int)),u8,u9,u10,x11,x12,x13,u14,u15,u16,u17,u18,u19]
abbrev gvB:Sl->Res Out:=seqO (jC 19 (two (lstF (jc (two (rdS 17) (cI 2) divW) (jc (two (rdS 17) (cI 7000) divW) nil1))) (rdS 10) ixD)) (uE 14 (two (rdS 7) (rdS 10) ixD) (two (cI 1) (two (lstF (jc (two (rdS 19) (cI 9) modI) (jc (two (rdS 19) (two (cI 10) (cI 30) powI) modI) nil1))) (two (rdS 17) (cI 2) modI) ixD) addD))
section
variable {S0 S1:Slot} {nm S3:D} {x4:Slot} {es:List En} {ho:List Int} {x11 x12 x13:Slot}
def jd4 (hho:ho.length=3) {u8 u9 u10 u15 u16 u18 u19:Slot} {n:Int} (g:GD j ks ds) {k:Int} (h0:0<=k) (h1:k<2) (hj:j<=10): ∃v19 ks' ds',qo (gN 10) gvB (.int k) (lwE S0 S1 nm S3 x4 es ho x11 x12 x13 u8 u9 u10 (.own (.dic ks ds)) u15 u16 (.shr (.int n)) u18 u19)= .ok (.nx (lwE S0 S1 nm S3 x4 es ho x11 x12 x13 u8 u9 (.shr (.int k)) (.own (.dic ks' ds')) u15 u16 (.shr (.int n)) u18 v19))/\GD (j+1) ks' ds':=by
 obtain ⟨d,hd,hdm⟩:=ixL (ds:=[.int (n/2),.int (n/7000)]) h0 (by simpa using h1)
 obtain ⟨dr,rfl⟩: ∃i,d= .int i:=by
  simp at hdm;rcases hdm with h|h<;>exact ⟨_,h⟩
 obtain ⟨r,hr,hrm⟩:=ixL (ds:=[.int (dr%9),.int (dr%1000000000000000000000000000000)]) (i:=n%2) (by omega) (by simp;omega)
 obtain ⟨rv,rfl,r0,r1⟩: ∃i,r= .int i/\0<=i/\i<1000000000000000000000000000000:=by
  simp at hrm;rcases hrm with h|h
  · exact ⟨_,h,by omega,by omega⟩
  · exact ⟨_,h,by omega,by omega⟩
 obtain ⟨hv,hh,hhm⟩:=ixL (ds:=ho.map D.int) h0 (by rw [aaj,hho];omega);obtain ⟨hi,_,rfl⟩:=aat.mp hhm;have hlen:=aas (show ks.length<20000 by have:=g.few;omega) big1
 refine ⟨.shr (.int dr),Z6 ks (.inl hi),Z7 ks ds (.inl hi) (.int (1+rv)),?_,jf7 g _ (by omega) (by
  have:(10:Int)^30=1000000000000000000000000000000:=by decide
  omega)⟩
 rw [qm rfl];unfold gvB;refine (ji ((jt (je (wg (ds:=[.int (n/2),.int (n/7000)]) (jb (je rfl rfl (Jb ⟨by decide,by decide⟩)) (jb (je rfl rfl (Jb ⟨by decide,by decide⟩)) rfl)) (jm (show 2<=20000 by decide))) rfl hd)))).trans ?_;refine (jem rfl (je rfl (je (wg (ds:=[.int (dr%9),.int (dr%1000000000000000000000000000000)]) (jb (je rfl rfl (zp (by decide))) (jb (je rfl (je rfl rfl Xk) (zp (by decide))) rfl)) (jm (show 2<=20000 by decide))) (je rfl rfl (zp (by decide))) hr) rfl) (je rfl rfl hh) hlen).trans rfl
theorem v0 (hho:ho.length=3) (u8 u9 u15 u16 u18:Slot) (n:Int): ∀(q:List Int) (j:Nat) (ks:List Key) (ds:List D) (u10 u19:Slot),GD j ks ds->(∀k∈q,0<=k/\k<2)->j+q.length<=9-> ∃v10 v19 ks' ds' j',forD (qo (gN 10) gvB) (q.map D.int) (lwE S0 S1 nm S3 x4 es ho x11 x12 x13 u8 u9 u10 (.own (.dic ks ds)) u15 u16 (.shr (.int n)) u18 u19)= .ok (.nx (lwE S0 S1 nm S3 x4 es ho x11 x12 x13 u8 u9 v10 (.own (.dic ks' ds')) u15 u16 (.shr (.int n)) u18 v19))/\GD j' ks' ds'
 | [],j,ks,ds,u10,u19,g,_,_=>⟨u10,u19,ks,ds,j,rfl,g⟩
 |k::q,j,ks,ds,u10,u19,g,hq,hl=>by
  simp at hl;obtain ⟨h0,h1⟩:=hq k aap;obtain ⟨v19,ks1,ds1,e1,g1⟩:=jd4 hho g h0 h1 (by omega);obtain ⟨w10,w19,ks2,ds2,j2,e2,g2⟩:=v0 hho u8 u9 u15 u16 u18 n q (j+1) ks1 ds1 (.shr (.int k)) v19 g1 (fun i hi=>hq i (aal _ hi)) (by omega);exact ⟨w10,w19,ks2,ds2,j2,(zg e1).trans e2,g2⟩
def jcR (ks:List Key) (ds:List D):Ways 0 ks ds:= .inl rfl
def jeT:Ways 1 [] []:= .inr ⟨.inl rfl,rfl,rfl⟩
def jeS:Ways 2 [] []:= .inr ⟨.inr rfl,rfl,rfl⟩
abbrev mtA (way:Int) (fg fd:TK):Sl->Res Bool:=asB (jy 5 jG (jc (rdS 6) (jc (cI way) (jc (rdS 9) (jc fg (jc fd nil1))))))
abbrev jbb:Sl->Res Out:=seqO (ifO (orB (notB (mtA 0 (rdB 14) (two (rdS 16) (cI 0) ixD))) (asB (two (rdB 14) (rdS 15) vc))) (retO (cB false)) nxO) (ifO (orB (notB (mtA 1 cD (two (rdS 16) (cI 1) ixD))) (notB (mtA 2 cD (two (rdS 16) (cI 1) ixD)))) (retO (cB false)) nxO)
def jcm {u8 u10 u17 u18 u19:Slot} {t a b:D} (g:GD j ks ds) (h0:jG [ppD es,.int 0,t,.dic ks ds,a]= .ok (.bl true)) (h1:jG [ppD es,.int 1,t,.dic [] [],b]= .ok (.bl true)) (h2:jG [ppD es,.int 2,t,.dic [] [],b]= .ok (.bl true)):
  jbb (lwE S0 S1 nm S3 x4 es ho x11 x12 x13 u8 (.shr t) u10 (.own (.dic ks ds)) (.shr (.dic ks ds)) (.shr (.lst [a,b])) u17 u18 u19)= .ok (.nx (lwE S0 S1 nm S3 x4 es ho x11 x12 x13 u8 (.shr t) u10 (.own (.dic ks ds)) (.shr (.dic ks ds)) (.shr (.lst [a,b])) u17 u18 u19)):=by
 unfold jbb;refine (ji ((if_f (or_f (qr (jx (jw (jb rfl (jb rfl (jb rfl (jb rfl (jb (je rfl rfl (ixL0 a [b])) rfl))))) rfl h0))) (jx (je rfl rfl (jhg g))))))).trans ?_;exact (if_f (or_f (qr (jx (jw (jb rfl (jb rfl (jb rfl (jb rfl (jb (je rfl rfl (ixL1 a b [])) rfl))))) rfl h1))) (qr (jx (jw (jb rfl (jb rfl (jb rfl (jb rfl (jb (je rfl rfl (ixL1 a b [])) rfl))))) rfl h2))))).trans rfl
end
def vZ:Gv [] [] fun _=>1:=⟨fun _=>rfl,fun _=>Int.le_refl 1,fun _=>by decide⟩
section
variable {S0 S1:Slot} {nm S3:D} {x4:Slot} {es:List En} {ho:List Int} {x11 x12 x13:Slot} {x:Str} {NS:List Str} {hs:List (Str×Nat)}
def vi (L:Lw S3 nm x NS hs es ho) {t:D} (ht:Tt (hsH hs) 3 t) (g:Gv ks ds gv) (hw:Ways way ks ds):jG [ppD es,.int way,t,.dic ks ds,.int (val es gv 64 t)]= .ok (.bl true):=by
 have hT:=VO L.sub 3 t ht;have hI:=vH L.h3 3 t hT;have hn:num t<=40:=hI.num;obtain ⟨l,h1,h2⟩:=Ve L.few hI.tk (by have:=hI.hgt;omega) (by omega) hI.hd;exact Zy hw h1 h2 (jb2 L.ok g 3 64 t hT (by decide)).1
def vj (L:Lw S3 nm x NS hs es ho) {t t':D} (ht:Tt (hsH hs) 3 t) (hs':Sg NS (hk es) t t') (hw:Ways way ks ds):jG [ppD es,.int way,t',.dic ks ds,.non]= .ok (.bl true):=by
 have hT:=VO L.sub 3 t ht;have hI:=vH L.h3 3 t hT;have hn:num t<=40:=hI.num;obtain ⟨l,h1,h2⟩:=vS L.few hs'.tk (by have:=hI.hgt;have:=hs'.hgt;omega) (by have:=hs'.num;omega) hs'.hd;exact Xw hw h1 h2
abbrev lwV:Sl->Res D:=lstF (jc (chk (jy 3 (qy 64) (jc (rdB 5) (jc (rdS 9) (jc (rdB 14) nil1))))) (jc (chk (jy 3 (qy 64) (jc (rdB 5) (jc (rdS 9) (jc cD nil1))))) nil1))
abbrev lwB:Sl->Res Out:=seqO (asgO (app (jc (jy 1 wu (jc (rdS 8) nil1)) (jc (cI 24) nil1)) qV) (g2 (gN 17) (gN 18))) (seqO (asgO (jy 4 (qj 6) (jc (rdS 17) (jc (zF (rdS 3) Qg (yG (cI 4)) slD) (jc (rdS 7) (jc (cI 3) nil1))))) (g2 (gN 9) (gN 17))) (seqO (setO 14 cD) (seqO (forO (rngF (jc (two (rdS 18) (cI 8) divW) nil1)) (gN 10) gvB) (seqO (jC 15 (dupF 14)) (seqO (jC 16 lwV) (seqO (ifO (asB (two (two (rdS 18) (cI 8) modI) (cI 0) eqR)) (seqO (jC 9 (jy 3 (jQ 64) (jc (rdS 17) (jc (rdS 9) (jc (two (rdS 2) (cI 5) ixD) nil1))))) (jC 16 (lstF (jc cN (jc cN nil1))))) nxO) jbb))))))
def jdO (L:Lw S3 nm x NS hs es ho) (c:Int) (u9 u10 u14 u15 u16 u17 u18 u19:Slot): ∃w9 w10 w14 w15 w16 w17 w18 w19,lwB (lwE S0 S1 nm S3 x4 es ho x11 x12 x13 (.shr (.int c)) u9 u10 u14 u15 u16 u17 u18 u19)= .ok (.nx (lwE S0 S1 nm S3 x4 es ho x11 x12 x13 (.shr (.int c)) w9 w10 w14 w15 w16 w17 w18 w19)):=by
 obtain ⟨gr,hgr⟩:=uc c;obtain ⟨t,n',et,hT⟩:=jeY L.hl L.har L.hho 6 3 (gr/24) (by decide)
 have hq: ∀k∈((q0 0 (gr%24/8).toNat)),∃i:Int,k= .int i/\0<=i/\i<2:=fun k hk=>by
   obtain ⟨i,rfl,h0,h1⟩:=Xv hk;exact ⟨i,rfl,h0,by omega⟩
 obtain ⟨q,hqe,hqb⟩: ∃q:List Int,q0 0 (gr%24/8).toNat=q.map D.int/\ ∀k∈q,0<=k/\k<2:=by
   refine ⟨(List.range' 0 (gr%24/8).toNat).map fun (j:Nat)=>(j:Int),?_,fun k hk=>?_⟩
   · have:=yX 0 (gr%24/8).toNat;rw [abb];exact this
   · obtain ⟨j,hj,rfl⟩:=aat.mp hk;have:=(List.mem_range'_1.mp hj).2;omega
 have hql:q.length<=2:=by
   have:=congrArg List.length hqe;rw [zt,aaj] at this;omega
 obtain ⟨v10,v19,ks,ds,j,el,g⟩:=v0 L.hho (.shr (.int c)) (.shr t) u15 u16 (.shr (.int (gr%24))) n' q 0 [] [] u10 u19 jf8 hqb (by omega);have G:=jf9 g;have hT2:=VO L.sub 3 t hT;have V1:=ZC L.ok G 3 64 t hT2 (by decide) (by decide);have V2:=ZC L.ok vZ 3 64 t hT2 (by decide) (by decide);generalize hv1:val es (fun i=>gvO (valD ks ds (.inl i))) 64 t=v1 at V1;generalize hv2:val es (fun _=>1) 64 t=v2 at V2;have hlist:lwV (lwE S0 S1 nm S3 x4 es ho x11 x12 x13 (.shr (.int c)) (.shr t) v10 (.own (.dic ks ds)) (.shr (.dic ks ds)) u16 (.shr (.int n')) (.shr (.int (gr%24))) v19)= .ok (.lst [.int v1,.int v2]):=wg (jb (ZN (jw (jb rfl (jb rfl (jb rfl rfl))) rfl V1.1) rfl) (jb (ZN (jw (jb rfl (jb rfl (jb rfl rfl))) rfl V2.1) rfl) rfl)) (jm (show 2<=20000 by decide))
 have hstart: ∀r,seqO (ifO (asB (two (two (rdS 18) (cI 8) modI) (cI 0) eqR)) (seqO (jC 9 (jy 3 (jQ 64) (jc (rdS 17) (jc (rdS 9) (jc (two (rdS 2) (cI 5) ixD) nil1))))) (jC 16 (lstF (jc cN (jc cN nil1))))) nxO) jbb (lwE S0 S1 nm S3 x4 es ho x11 x12 x13 (.shr (.int c)) (.shr t) v10 (.own (.dic ks ds)) (.shr (.dic ks ds)) (.shr (.lst [.int v1,.int v2])) (.shr (.int n')) (.shr (.int (gr%24))) v19)=r->lwB (lwE S0 S1 nm S3 x4 es ho x11 x12 x13 (.shr (.int c)) u9 u10 u14 u15 u16 u17 u18 u19)=r:=by
   intro r hr;unfold lwB;refine (ji ((wE (UC (jw (jb rfl rfl) rfl hgr) rfl (by omega))))).trans ?_;refine (ji ((wE (jw (jb rfl (jb (wc rfl rfl (zH rfl) L.sl) (jb rfl (jb rfl rfl)))) rfl et)))).trans ?_;refine (ji rfl).trans ?_;refine (ji ((zw ((xc (jb (je rfl rfl (Jb ⟨by decide,by decide⟩)) rfl) (by omega)).trans (by rw [hqe]))).trans el)).trans ?_;refine (ji rfl).trans ?_;refine (ji ((jt hlist))).trans hr
 have hm:asB (two (two (rdS 18) (cI 8) modI) (cI 0) eqR) (lwE S0 S1 nm S3 x4 es ho x11 x12 x13 (.shr (.int c)) (.shr t) v10 (.own (.dic ks ds)) (.shr (.dic ks ds)) (.shr (.lst [.int v1,.int v2])) (.shr (.int n')) (.shr (.int (gr%24))) v19)= .ok (gr%24%8==0):=jx (je (je rfl rfl (zp (by decide))) rfl y6)
 by_cases hc:gr%24%8=0
 · rw [show (gr%24%8==0)=true by simpa using hc] at hm;obtain ⟨t',es1,sg⟩:=Kt L.hx L.xn (fun z h=>by have:=(L.h3 _ h).2;simp only at this;omega) L.h3 64 3 n' t hT2 (by decide);refine ⟨.shr t',v10,.own (.dic ks ds),.shr (.dic ks ds),.shr (.lst [.non,.non]),.shr (.int n'),.shr (.int (gr%24)),v19,hstart _ ?_⟩;refine (ji ((if_t hm).trans ((ji ((jt (jw (jb rfl (jb rfl (jb (je rfl rfl L.nm5) rfl))) rfl es1)))).trans ((jt (wg (jb rfl (jb rfl rfl)) (jm (by decide)))))))).trans ?_;exact jcm g (vj L hT sg (jcR _ _)) (vj L hT sg jeT) (vj L hT sg jeS)
 · rw [show (gr%24%8==0)=false by simpa using hc] at hm;refine ⟨.shr t,v10,.own (.dic ks ds),.shr (.dic ks ds),.shr (.lst [.int v1,.int v2]),.shr (.int n'),.shr (.int (gr%24)),v19,hstart _ ?_⟩;refine (ji ((if_f hm))).trans ?_;rw [←hv1,←hv2];exact jcm g (vi L hT G (jcR _ _)) (vi L hT vZ jeT) (vi L hT vZ jeS)
theorem vk (L:Lw S3 nm x NS hs es ho): ∀(cs:List D),(∀d∈cs,∃i:Int,d= .int i)-> ∀(u8 u9 u10 u14 u15 u16 u17 u18 u19:Slot),∃w8 w9 w10 w14 w15 w16 w17 w18 w19,forD (qo (gN 8) lwB) cs (lwE S0 S1 nm S3 x4 es ho x11 x12 x13 u8 u9 u10 u14 u15 u16 u17 u18 u19)= .ok (.nx (lwE S0 S1 nm S3 x4 es ho x11 x12 x13 w8 w9 w10 w14 w15 w16 w17 w18 w19))
 | [],_,u8,u9,u10,u14,u15,u16,u17,u18,u19=>⟨u8,u9,u10,u14,u15,u16,u17,u18,u19,rfl⟩
 |d::cs,h,u8,u9,u10,u14,u15,u16,u17,u18,u19=>by
  obtain ⟨c,rfl⟩:=h d aap;obtain ⟨w9,w10,w14,w15,w16,w17,w18,w19,e1⟩:=jdO L c u9 u10 u14 u15 u16 u17 u18 u19;obtain ⟨y8,y9,y10,y14,y15,y16,y17,y18,y19,e2⟩:=vk L cs (fun d hd=>h d (aal _ hd)) (.shr (.int c)) w9 w10 w14 w15 w16 w17 w18 w19;refine ⟨y8,y9,y10,y14,y15,y16,y17,y18,y19,(zg ?_).trans e2⟩;rw [qm rfl];exact e1
end
theorem jgY: ∀ {l:List α},l.length=7-> ∃a b c d e f g,l=[a,b,c,d,e,f,g]
 | [a,b,c,d,e,f,g],_=>⟨a,b,c,d,e,f,g,rfl⟩
 | [],h=>by cases h
 | [_],h=>by cases h
 | [_,_],h=>by cases h
 | [_,_,_],h=>by cases h
 | [_,_,_,_],h=>by cases h
 | [_,_,_,_,_],h=>by cases h
 | [_,_,_,_,_,_],h=>by cases h
 |_::_::_::_::_::_::_::_::l,h=>by simp only [aaL] at h;omega
def KU {β:Type} (f:α->β) {l:List α} (h:(l.map f).Nodup):l.Nodup:=(aby.mp h).imp fun hab e=>hab (congrArg f e)
def pW54:powW (.int (10^54)) (.int 5)= .ok (.int (10^270)):=by
 have h:PowW (10^54) 5:=⟨by decide,by decide+kernel⟩
 show must (PowW (10^54) 5) (Res.ok (D.int ((10^54)^(5:Int).toNat)))=_;rw [jo h];have:((10:Int)^54)^(5:Int).toNat=10^270:=by decide+kernel
 rw [this]
def jfE:powI (.int 10) (.int 54)= .ok (.int (10^54)):=(Jq (by decide)).trans rfl
def enL (z:Str):En:=⟨z,1,[(1000000000000000000000000000000,[1])]⟩
def jgg (z:Str):EnOk (enL z):=by
 refine ⟨by show 1<=9;decide,⟨fun p hp=>?_,by simp [enL]⟩,by show 1<=1+1;decide,fun j hj=>?_,by show 0<1;decide⟩
 · simp only [enL,aaJ] at hp;subst hp;exact ⟨⟨by decide,by decide⟩,rfl,fun x hx=>by simp at hx;subst hx;decide⟩
 · have hj0:j=0:=by have:j<1:=hj;omega
   subst hj0;exact ⟨_,aaJ.mpr rfl,1,rfl,by decide⟩
abbrev chB:Sl->Res Out:=jC 9 (tupF (jc (two (rdS 2) (cI 4) ixD) (jc (rdS 9) nil1)))
section
variable {S0 S1:Slot} {nm S3:D} {x4:Slot} {es:List En} {ho:List Int} {x11 x12 x13:Slot}
theorem uT (h4:ixD nm (.int 4)= .ok (.str z)) (i:Int) (u8 u14 u15 u16 u17 u18 u19:Slot): ∀(ds:List D) (k:Nat) (u10:Slot),∃v10,forD (qo (gN 10) chB) ds (lwE S0 S1 nm S3 x4 es ho x11 x12 x13 u8 (.shr (chn z i k)) u10 u14 u15 u16 u17 u18 u19)= .ok (.nx (lwE S0 S1 nm S3 x4 es ho x11 x12 x13 u8 (.shr (chn z i (k+ds.length))) v10 u14 u15 u16 u17 u18 u19))
 | [],k,u10=>⟨u10,rfl⟩
 |d::ds,k,u10=>by
  obtain ⟨v10,e⟩:=uT h4 i u8 u14 u15 u16 u17 u18 u19 ds (k+1) (.shr d);refine ⟨v10,?_⟩;rw [aaL,show k+(ds.length+1)=k+1+ds.length by omega];refine (zg ?_).trans e;rw [qm rfl];exact (jt (qR (ds:=[.str z,chn z i k]) (jb (je rfl rfl h4) (jb rfl rfl)) (jm (show 2<=20000 by decide)))).trans rfl
end
def vy {es : List En} (ok : ∀ e ∈ es, EnOk e) (hz : isNm (.str z) = true) (hm : (z, (1 : Int)) ∈ hk es) (hp : zR es z 1 = [(1000000000000000000000000000000, [1])]) (i : Int) (less : Int) (hl : less = 0 \/ less = 1) : jG [ppD es, .int 0, chn z i 9, .dic [.inl i] [.int (1000000000000000000000000000000 - less)], .int (10 ^ 300 - less * 10 ^ 270)] = .ok (.bl true) := by
  have g : GD 1 [acQ i] [D.int (1000000000000000000000000000000 - less)] := ⟨rfl, aag _, by simp, fun d hd => by
    rw [aaJ] at hd
    have : (10 : Int) ^ 30 = 1000000000000000000000000000000 := by decide
    exact ⟨_, hd, by omega, by omega⟩⟩
  have G := jf9 g
  obtain ⟨c1, c2, c3, c4⟩ := jcK z i 9
  have few : Few [z] := ⟨by simp, fun y hy => by
    rw [aaJ] at hy
    subst hy
    rw [Qq] at hz
    simp at hz
    omega⟩
  obtain ⟨l, h1, h2⟩ := Ve few c1 (by omega) (by omega) (fun a ha => by rw [c4 a ha]; exact hm)
  have hw := (jb2 ok G 9 64 (chn z i 9) (jcL hm i 9) (by decide)).1
  rw [uS hp _ i 9 64 (by decide)] at hw
  have hgv : gvO (valD [acQ i] [D.int (1000000000000000000000000000000 - less)] (acQ i)) = 1000000000000000000000000000000 - less := by simp [valD, gvO]
  rw [hgv] at hw
  have hv : (1000000000000000000000000000000 : Int) ^ 9 * (1000000000000000000000000000000 - less) = 10 ^ 300 - less * 10 ^ 270 := by
    rcases hl with rfl | rfl <;> decide +kernel
  rw [hv] at hw
  exact Zy (jcR _ _) h1 h2 hw
def jew {lo:Option Int} (h:d∈cutD ds lo hi):d∈ds:=ad5 (ad4 h)
def jbG {fv:TK} {i:Int} (h1:fk env= .ok (.int i)) (h2:fv env= .ok d) (h3:d.imm=true):jbH fk fv env= .ok (.dic [.inl i] [d]):=by
 unfold jbH;rw [h1,xZ,h2];exact jo h3
def law_true (sc : List Int) (hlen : sc.length <= 63) (hb : ∀ i ∈ sc, abE i <= 2 ^ 20) : F_law [.scr (sc.map D.int)] = .ok (.bl true) := by
  obtain ⟨c0, hc0⟩ := VF sc 0
  obtain ⟨c1, hc1⟩ := VF sc 1
  obtain ⟨fs, hf⟩ := uc c0
  obtain ⟨g1, hg1⟩ := uc c1
  obtain ⟨ns, hn, hl7, hnm, hnd⟩ := YQ fs
  obtain ⟨n0, n1, n2, n3, n4, n5, n6, rfl⟩ := jgY hl7
  obtain ⟨a3, ha3, ha1, ha⟩ : ∃ a : Nat, (1 : Int) + fs / 1000000000000000 % 3 = a /\ 1 <= a /\ a <= 3 := ⟨(1 + fs / 1000000000000000 % 3).toNat, by omega, by omega, by omega⟩
  generalize hhs : [(n0, 0), (n1, 1), (n2, 2), (n3, a3)] = hs
  have hh9 : ∀ h ∈ hs, h.2 <= 3 := by
    rw [← hhs]
    intro h hh
    simp at hh
    rcases hh with rfl | rfl | rfl | rfl <;> simp only <;> omega
  have hhl : hs.length = 4 := by rw [← hhs]; rfl
  obtain ⟨es4, hpap, hes, hok4⟩ := YI g1 hs (fun h hh => by have := hh9 h hh; omega) (by omega)
  have hes4 : es4.length = 4 := by rw [← hhl, ← hes, aaj]
  generalize hE : es4 ++ [enL n4] = es
  have hmap : (es.map fun e => (e.z, e.m)) = hs ++ [(n4, 1)] := by rw [← hE, aa3, hes]; rfl
  have hhk : hk es = hsH hs ++ [(n4, (1 : Int))] := by
    have : hk es = (es.map fun e => (e.z, e.m)).map fun h => (h.1, (h.2 : Int)) := by rw [abb]; rfl
    rw [this, hmap, aa3]; rfl
  have hok : ∀ e ∈ es, EnOk e := fun e he => by
    rw [← hE] at he
    rcases aa1.mp he with h | h
    · exact hok4 e h
    · rw [aaJ] at h; rw [h]; exact jgg n4
  have hnd5 : ([n0, n1, n2, n3, n4] : List Str).Nodup := by
    have : ([n0, n1, n2, n3, n4] : List Str).Sublist [n0, n1, n2, n3, n4, n5, n6] := by
      exact List.sublist_append_left [n0, n1, n2, n3, n4] [n5, n6]
    exact this.nodup hnd
  have hfst : (es.map fun e => (e.z, e.m)).map (·.1) = [n0, n1, n2, n3, n4] := by rw [hmap, ← hhs]; rfl
  have hfstk : (hk es).map (·.1) = [n0, n1, n2, n3, n4] := by rw [hhk, ← hhs]; rfl
  have ndk : (hk es).Nodup := KU (·.1) (by rw [hfstk]; exact hnd5)
  have hzin : ∀ e ∈ es, e.z ∈ ([n0, n1, n2, n3, n4] : List Str) := fun e he => by
    rw [← hfst, abb]; exact aat.mpr ⟨e, he, rfl⟩
  have hkin : ∀ h ∈ hk es, h.1 ∈ ([n0, n1, n2, n3, n4] : List Str) := fun h hh => by
    rw [← hfstk]; exact aat.mpr ⟨h, hh, rfl⟩
  have hsub7 : ∀ z ∈ ([n0, n1, n2, n3, n4] : List Str), z ∈ [n0, n1, n2, n3, n4, n5, n6] := fun z hz => abi [n5, n6] hz
  have hz : ∀ e ∈ es, isNm (.str e.z) = true := fun e he => hnm _ (hsub7 _ (hzin e he))
  have hesl : es.length = 5 := by rw [← hE, aaC, hes4]; rfl
  have hprods : zR es n4 1 = [(1000000000000000000000000000000, [1])] := by
    rw [← hE]
    refine Zs fun f hf h => ?_
    have h1 : f.z ∈ ([n0, n1, n2, n3] : List Str) := by
      have : (es4.map fun e => (e.z, e.m)).map (·.1) = [n0, n1, n2, n3] := by rw [hes, ← hhs]; rfl
      rw [← this, abb]; exact aat.mpr ⟨f, hf, rfl⟩
    have h2 := hnd5
    exact (abI.mp h2).2.2 _ h1 n4 aap h
  have hn5 : ∀ h ∈ hk es, h.1 ≠ n5 := fun h hh e => by
    have h2 := hnd
    exact (abI.mp h2).2.2 _ (hkin h hh) n5 aap e
  have hfew : Few [n0, n1, n2, n3, n4, n5] := ⟨by simp, fun y hy => by
    have hy7 := hnm y (abi [n6] hy)
    rw [Qq] at hy7
    simp at hy7
    omega⟩
  obtain ⟨h2v, hh2, hh2m⟩ := ixL (ds := [.int 7, .int (fs % 1000)]) (i := fs / 1000000 % 2) (by omega) (by simp; omega)
  obtain ⟨hol, rfl⟩ : ∃ i, h2v = .int i := by
    simp at hh2m
    rcases hh2m with h | h <;> exact ⟨_, h⟩
  generalize hS3 : D.lst [hdN n0 0, hdN n1 1, hdN n2 2, hdN n3 a3, hdN n4 1] = S3
  generalize hNM : D.lst ([n0, n1, n2, n3, n4, n5, n6].map D.str) = nm at hn
  have nm4 : ixD nm (.int 4) = .ok (.str n4) := by rw [← hNM]; rfl
  have hsl : slD S3 none (some 4) = .ok (hsD hs) := by
    rw [← hS3, ← hhs]
    show Res.ok (D.lst (cutD _ none (some ((4 : Nat) : Int)))) = _
    rw [jcI]; rfl
  have L : Lw S3 nm n5 [n0, n1, n2, n3, n4, n5] hs es [fs % 1000, fs / 1000 % 1000, hol] :=
    { hl := hhl
      har := hh9
      sub := fun a ha => by rw [hhk]; exact abi _ ha
      ok := hok
      nm5 := by rw [← hNM]; rfl
      hx := hn5
      xn := by simp
      h3 := fun h hh => ⟨abi [n5] (hkin h hh), by
        rw [hhk] at hh
        rcases aa1.mp hh with h' | h'
        · obtain ⟨q, hq, rfl⟩ := aat.mp h'
          have := hh9 q hq
          simp only; omega
        · rw [aaJ] at h'; rw [h']; simp only; omega⟩
      few := hfew
      sl := hsl
      hho := rfl }
  obtain ⟨v12, v13, ebh⟩ := jah (.shr (.scr (sc.map D.int))) (.shr (.int fs)) (.shr nm) (.shr S3) (.shr (.lst (es.map dEn))) .un .un .un .un .un .un .un .un .un .un .un .un es [] .un .un ndk (by rw [aek, hesl]; decide)
  rw [aek] at ebh
  obtain ⟨w8, w9, w10, w14, w15, w16, w17, w18, w19, elw⟩ := vk L (cutD (sc.map D.int) (some 2) (some 42)) (fun d hd => by
    obtain ⟨i, _, rfl⟩ := aat.mp (jew hd)
    exact ⟨i, rfl⟩) .un .un .un .un .un .un .un .un .un
  obtain ⟨y10, ech⟩ := uT nm4 (fs % 1000) w8 w14 w15 w16 w17 w18 w19 (q0 0 9) 0 w10
  have hlm := vy hok (hnm n4 (by simp)) (by rw [hhk]; simp) hprods (fs % 1000) (fs / 10000000 % 2) (by omega)
  refine zP ?_
  unfold jd6
  refine (ji ((jt (jw (jb (jw (jb rfl (jb rfl rfl)) rfl hc0) rfl) rfl hf)))).trans ?_
  refine (ji ((jt (jw (jb rfl rfl) rfl hn)))).trans ?_
  have tp : ∀ {f g : Sl -> Res D} {env : Sl} {a b : D}, f env = .ok a -> g env = .ok b -> tupF (jc f (jc g nil1)) env = .ok (.tup [a, b]) := fun h1 h2 => qR (jb h1 (jb h2 rfl)) (jm (show 2 <= 20000 by decide))
  have hEm : es4.map dEn ++ [dEn (enL n4)] = es.map dEn := by rw [← hE, aa3]; rfl
  have nmk : ixD nm (.int 0) = .ok (.str n0) /\ ixD nm (.int 1) = .ok (.str n1) /\ ixD nm (.int 2) = .ok (.str n2) /\ ixD nm (.int 3) = .ok (.str n3) := by rw [← hNM]; exact ⟨rfl, rfl, rfl, rfl⟩
  have s34 : ixD S3 (.int 4) = .ok (hdN n4 1) := by rw [← hS3]; rfl
  refine (ji ((jt (d := S3) ?_))).trans ?_
  · rw [← hS3]
    refine wg (jb (tp (je rfl rfl nmk.1) rfl) (jb (tp (je rfl rfl nmk.2.1) rfl) (jb (tp (je rfl rfl nmk.2.2.1) rfl) (jb (tp (je rfl rfl nmk.2.2.2) (je rfl (je (je rfl (je rfl rfl jfF) (Jb ⟨by decide, by decide⟩)) rfl (zp (by decide))) ?_)) (jb (tp (je rfl rfl nm4) rfl) rfl))))) (jm (show 5 <= 20000 by decide))
    show Res.ok (D.int (1 + fs / 1000000000000000 % 3)) = _
    rw [ha3]
  refine (ji ((jc0 (jw (jb (jw (jb (jw (jb rfl (jb rfl rfl)) rfl hc1) rfl) rfl hg1) (jb (wc rfl rfl (zH rfl) hsl) rfl)) rfl hpap)))).trans ?_
  refine (ji (env' := [.shr (.scr (sc.map D.int)), .shr (.int fs), .shr nm, .shr S3, .own (.lst (es.map dEn)), .un, .un, .un, .un, .un, .un, .un, .un, .un, .un, .un, .un, .un, .un, .un]) ((zZ (d := dEn (enL n4)) rfl (tp (je rfl rfl s34) (wg (jb (tp (je rfl rfl Xk) (qR (jb rfl rfl) (jm (by decide)))) rfl) (jm (show 1 <= 20000 by decide)))) (by rw [aaj, hes4]; exact aas (show 4 < 20000 by decide) big1)).trans (by rw [hEm]; rfl))).trans ?_
  refine (ji rfl).trans ?_
  refine (ji ((zw (zr rfl rfl)).trans ebh)).trans ?_
  refine (ji ((jt (jg9 hok hz (KU (·.1) (by rw [hfst]; exact hnd5)) (by rw [hesl]; decide) (jb rfl rfl))))).trans ?_
  refine (ji ((jt (d := .lst [.int (fs % 1000), .int (fs / 1000 % 1000), .int hol]) (wg (jb (je rfl rfl (zp (by decide))) (jb (je (je rfl rfl (Jb ⟨by decide, by decide⟩)) rfl (zp (by decide))) (jb (je (wg (ds := [.int 7, .int (fs % 1000)]) (jb rfl (jb (je rfl rfl (zp (by decide))) rfl)) (jm (show 2 <= 20000 by decide))) (je (je rfl (je rfl rfl jg6) (Jb ⟨by decide, by decide⟩)) rfl (zp (by decide))) hh2) rfl))) (jm (show 3 <= 20000 by decide)))))).trans ?_
  refine (ji ((zw (zr (wc rfl (zH rfl) (zH rfl) rfl) rfl)).trans elw)).trans ?_
  refine (ji ((jt (je rfl rfl (ixL0 _ _))))).trans ?_
  rw [zt, Nat.zero_add] at ech
  refine (ji ((zw (xc (jb rfl rfl) (by decide))).trans ech)).trans ?_
  refine (ji ((jt (je (je rfl (je rfl rfl jg5) (Jb ⟨by decide, by decide⟩)) rfl (zp (by decide)))))).trans ?_
  have hls : fs / 10000000 % 2 = 0 \/ fs / 10000000 % 2 = 1 := by omega
  generalize fs / 10000000 % 2 = less at hls hlm ⊢
  have hmul : mulI (.int less) (.int (10 ^ 270)) = .ok (.int (less * 10 ^ 270)) := Zx (by
    have b1 : intBits less <= 1 := by rcases hls with rfl | rfl <;> decide
    have b2 : intBits ((10 : Int) ^ 270) <= 4 * 270 + 1 := aeH (by decide) 270
    omega)
  refine j3 (jw (jb rfl (jb rfl (jb rfl (jb ?_ (jb (je (je (je rfl rfl kK) rfl pW) (je rfl (je (je rfl rfl jfE) rfl pW54) hmul) rfl) rfl))))) rfl hlm)
  exact jbG (je rfl rfl (ixL0 _ _)) (je (je rfl rfl Xk) rfl rfl) rfl
end G
namespace PySem.W.Fast
theorem tw10813786121012527488:True:=⟨⟩
theorem tw13227514314728483834:True:=⟨⟩
theorem tw300312104553003403:True:=⟨⟩
theorem te14957850758278124547:True:=⟨⟩
theorem tw7437202634165564804:True:=⟨⟩
theorem tw703030549228152702:True:=⟨⟩
theorem tw9727700722245443499:True:=⟨⟩
theorem tw9684305629934029533:True:=⟨⟩
theorem tw15496233395504494464:True:=⟨⟩
theorem tw7584390164062460840:True:=⟨⟩
theorem tw2122009219689387688:True:=⟨⟩
theorem tw5235506458572631786:True:=⟨⟩
theorem tw1710168014725022486:True:=⟨⟩
theorem tw14370601631415268803:True:=⟨⟩
theorem tw9495519357482533791:True:=⟨⟩
theorem tw13896709889129140122:True:=⟨⟩
theorem tw7875098021569047047:True:=⟨⟩
theorem tw2912692256852347469:True:=⟨⟩
theorem tw16794427998150013642:True:=⟨⟩
theorem tw16949184500061881214:True:=⟨⟩
theorem tw11362602829713279931:True:=⟨⟩
theorem tw13812909166212159626:True:=⟨⟩
theorem tw1988931764806545838:True:=⟨⟩
theorem tw13247313306880021806:True:=⟨⟩
theorem tw1872541393107812032:True:=⟨⟩
theorem tw5235485861462742259:True:=⟨⟩
theorem tw6785509934878635651:True:=⟨⟩
theorem tw16169145999401957405:True:=⟨⟩
theorem tw6630895800224519026:True:=⟨⟩
theorem tw16245905207415208309:True:=⟨⟩
theorem tw2719283298214576434:True:=⟨⟩
theorem tw7388207460823735802:True:=⟨⟩
theorem tw1796765895747636040:True:=⟨⟩
theorem tw12207741137184082690:True:=⟨⟩
theorem tw14510769163592132718:True:=⟨⟩
theorem tw11249252526310383469:True:=⟨⟩
theorem tw4064138999446092969:True:=⟨⟩
theorem tw6197449394247635515:True:=⟨⟩
theorem tw8098382372133563081:True:=⟨⟩
theorem tw16909834615100918143:True:=⟨⟩
theorem tw8192327018979920405:True:=⟨⟩
theorem tw9259686245209349326:True:=⟨⟩
theorem tw12372390093414138871:True:=⟨⟩
theorem tw15487538463623599724:True:=⟨⟩
theorem tw13180217543966673427:True:=⟨⟩
theorem tw11008038495152658422:True:=⟨⟩
theorem tw10287088406348719335:True:=⟨⟩
theorem tw9225582024585006213:True:=⟨⟩
theorem tw16898150863090597444:True:=⟨⟩
theorem tw17287388576453877206:True:=⟨⟩
theorem tw13345636488746543209:True:=⟨⟩
theorem tw2966955651596247357:True:=⟨⟩
theorem tw2602457273172238317:True:=⟨⟩
theorem tw5078636183237233158:True:=⟨⟩
theorem tw11988197986303863386:True:=⟨⟩
theorem tw12821222102100680956:True:=⟨⟩
theorem tw16990849989329090245:True:=⟨⟩
end PySem.W.Fast
open PySem PySem.W PyProof.Rows
set_option maxRecDepth 100000 in
set_option maxHeartbeats 0 in
theorem PySem.Challenge.cw_endwise_k42_values_holds : PySem.Challenge.rw_endwise_k42_values.Holds := by
  w_on; o_law; k_head; (case hw => w_witness2)
  k_fill
  refine M.walk_law (l := PySem.Challenge.rw_endwise_k42_values) (n := 63) (k := 72) (x := "_law_script") (F := G.F_law) rfl (by decide) rfl ⟨rfl, by decide, by decide⟩ (fun w h Y => PySem.W.kIn_of Y) ?F G.law_true
  case F =>
    intro w mg fa h KX Gn hmg
    refine' G.all_mk KX Gn hmg ?d0 ?d1 ?d2 ?d3 ?d4 ?d5 ?d6 ?d7 ?d8 ?d9 ?d10 ?d11 ?d12 ?d13 ?d14 ?d15 ?d16 ?d17 ?d18 ?d19 ?d20 ?d21 ?d22 ?d23 ?d24 ?d25 ?d26 ?d27 ?a28 ?l28 ?c28 ?k28 ?z0 ?z1 ?z2 ?z3 ?z4 ?z5 ?z6 ?z7 ?z8 ?z9 ?z10 ?z11 ?z12 ?z13 ?z14 ?z15 ?z16 ?z17 ?y_LETTERS ?y_MOST_LETTERS ?y_MOST_PLACES ?y_MOST_NUMBERED ?y_MOST_PRODUCTS ?y_MOST_POWER ?wS ?yo ?yt ?yn ?ym ?qI ?J1 ?J3 ?e_NoHead ?e_TooGreat ?e_TooMany ?e_TooLong ?e_NoText ?e_NoStep ?e_NoRule ?e_NoReason ?e_NoPath ?e_NoPaper ?e_NoPair ?e_NoName ?e_NoLine ?e_EndError ?q_NoHead ?q_TooGreat ?x_EndError_NoHead ?x_EndError_TooGreat ?i_ValueError_NoHead ?i_ValueError_TooGreat ?w_NoHead ?w_TooGreat ?zM ?zc ?zb ?qH ?yt_0_NoHead ?yt_0_TooGreat
    (case wS => k_is)
    (case d0 | d1 | d2 | d3 | d4 | d5 | d6 | d7 | d8 | d9 => exact ⟨_, by k_is, ⟨_, _, _, _, _, _, _, _, _, by k_is, by k_is⟩, by k_is⟩)
    (case d10 => exact ⟨_, by k_is, by k_is, ⟨_, _, _, _, _, _, _, _, _, by k_is, by k_is⟩, by k_is⟩)
    (case d11 | d12 | d13 | d14 | d15 => exact ⟨_, by k_is, ⟨_, _, _, _, _, _, _, _, _, by k_is, by k_is⟩, by k_is⟩)
    (case d16 => exact ⟨_, by k_is, by k_is, ⟨_, _, _, _, _, _, _, _, _, by k_is, by k_is⟩, by k_is⟩)
    (case d17 | d18 | d19 => exact ⟨_, by k_is, ⟨_, _, _, _, _, _, _, _, _, by k_is, by k_is⟩, by k_is⟩)
    (case d20 => exact ⟨_, _, _, _, _, _, _, _, _, _, _, _, _, _, _, by k_is, by k_is, by k_is, by k_is, by k_is, by k_is⟩)
    (case d21 => exact ⟨_, by k_is, by k_is, ⟨_, _, _, _, _, _, _, _, _, by k_is, by k_is⟩, by k_is⟩)
    (case d22 | d23 | d24 | d25 | d26 | d27 => exact ⟨_, by k_is, ⟨_, _, _, _, _, _, _, _, _, by k_is, by k_is⟩, by k_is⟩)
    (case a28 | l28 | c28 | k28 | z0 | z1 | z2 | z3 | z4 | z5 | z6 | z7 | z8 | z9 | z10 | z11 | z12 | z13 | z14 | z15 | z16 | z17 => k_is)
    (case y_LETTERS | y_MOST_LETTERS | y_MOST_PLACES | y_MOST_NUMBERED | y_MOST_PRODUCTS | y_MOST_POWER => exact ⟨_, by k_is⟩)
    (case yo | yt | yn | ym | qI | J1 | J3 | e_NoHead | e_TooGreat | e_TooMany | e_TooLong | e_NoText | e_NoStep | e_NoRule | e_NoReason | e_NoPath | e_NoPaper | e_NoPair | e_NoName | e_NoLine | e_EndError => k_is)
    (case q_NoHead | q_TooGreat => k_exc)
    (case x_EndError_NoHead | x_EndError_TooGreat | i_ValueError_NoHead | i_ValueError_TooGreat => kernel_rfl)
    (case w_NoHead | w_TooGreat => exact ⟨by kernel_rfl, by k_is, by k_is, by k_is, by k_is, by k_is, by k_is, by k_is⟩)
    (case zM | zc | zb | qH | yt_0_NoHead | yt_0_TooGreat => kernel_rfl)

import PyProof.Rows.All
import Wide.All
import OpenK.AllK
import Wide.FinOn
import Lean
import PyProof.TupleKey
import PyProof.IsRules
import PyProof.DictKeyH
import PyProof.EqAt
import PyProof.EqKinds
import PyProof.TupleCall
import PyProof.Cells
import PyProof.NeKinds
import KE.IntBitsLaws
import KE.KDictList
import KE.KRevIter
import KE.KSortTup
import KE.KDictSum
import PyProof.EnumMake
import PyProof.EnumFor
import PyProof.LayNew
import PyProof.Rows.EnumRows
import PyProof.SumAny
import PyProof.ListRange
import PyProof.FString5
import PyProof.CollectIter
import PyProof.TupleOfSeq
import PyProof.Rows.Tup
import OpenK.KRaise
import PyProof.StationsW
import KE.KTryMore
import PyProof.NsDelKeeps
import KE.KEqDict
import PyProof.ExcArgs
import PyProof.Draws
import PyProof.ZipIter
import PyProof.Rows.ZipGen
import PyProof.DictWalks
import PyProof.Conv_int_bool
import PyProof.Rows.SeqMore
import PyProof.Rows.SetFrom
import PyProof.SetRoads
import PyProof.MeetsSeq2
import PyProof.FactsAll.NoneType_1
import PyProof.DictFindH
import PyProof.DictRoadsH
import PyProof.AttrMissHeap
import KE.KDictOf
import PyProof.Rows.StrJoin2
import PySem.Challenge.RW_endwise_k64_chains
open Array renaming length_toList -> o4, getElem?_toList -> Bl, mem_toList_iff -> CP, getD -> sS
open Bool renaming false_ne_true -> eh, and_eq_true -> dD, false_eq_true -> oJ, and_false -> vm, not_true -> Ac
open False renaming elim -> fU
open ForInStep renaming yield -> Bb
open Int renaming toNat_natCast -> lP
open List renaming getElem?_eq_getElem -> cU, length_cons -> bO, size_toArray -> b7, mem_cons -> bJ, length_append -> cP, length_map -> dc, map_cons -> cL, getElem?_append_left -> g9, mem_cons_of_mem -> fM, getElem?_eq_some_iff -> iD, getElem?_append_right -> iL, not_mem_nil -> eE, length_nil -> dY, mem_of_getElem? -> gu, replicate -> eP, append_nil -> fN, mem_cons_self -> iC, append_assoc -> hJ, getElem?_map -> iE, getElem?_eq_none -> mP, lookup_cons -> ln, mem_append -> j0, mem_append_right -> nR, getElem?_replicate -> ox, mem_map -> gO, getD_eq_getElem?_getD -> rN, lookup -> gJ, all_eq_true -> m9, getElem_mem -> nY, replicate_succ -> pd, getElem?_set_self -> su, map_map -> mR, range -> ke, getElem?_cons_succ -> zx, mem_range -> n9, flatten_cons -> qg, length_pos_iff -> tx, zip_cons_cons -> sQ, drop_eq_getElem_cons -> A8, map_append -> rH, any_eq_true -> sX, drop_eq_nil_of_le -> A9, pairwise_cons -> ze, nodup_cons -> sy, find?_cons -> sE, reverse_cons -> y8, pairwise_iff_getElem -> Ee, mem_flatMap -> yr, filterMap_cons -> AG, map_nil -> q7, toArray -> rM, mem_filterMap -> AL, any_cons -> sF, getElem?_cons_zero -> Gi, mem_iff_getElem? -> Eo, eq_nil_of_length_eq_zero -> Ly, mem_append_left -> Ci, getElem?_set_ne -> Ck, all_cons -> v4, of_mem_zip -> AS, map_congr_left -> D7, length_reverse -> Ec, set_cons_zero -> Gs, set_cons_succ -> Gu, nodup_nil -> A0, ext_getElem? -> Ea, nodup_append -> Er, flatMap_cons -> Es, length_take -> C3
open List.Perm renaming refl -> Ei
open Nat renaming le_refl -> br, le_trans -> cY, lt_of_lt_of_le -> fS, ne_of_lt -> eB, zero_le -> gl, lt_irrefl -> lZ, le_succ -> nS, zero_add -> pi, lt_succ_self -> tZ, lt_of_le_of_lt -> Dh, ne_of_gt -> AK, le_of_eq -> AO
open Nat.succ renaming inj -> BP
open Ne renaming symm -> iH
open Option renaming map_eq_some_iff -> Db, getD_none -> AY, isSome_map -> C9
open Option.some renaming inj -> fj
open PyProof.Rows renaming boot_tuple -> gp, callWith_type1 -> oh, slot_tuple_getitem -> p5, envOfC -> fF, seqObj -> gQ, boot_bool -> Fk, boot_all -> Fl, get?_update_seq -> Bn, zipApart_new -> JF, AllBare -> nQ, boot_int -> LV
open PySem renaming wpAny_bind -> az, starEach -> bg, sizeLine -> aS, wpAny_pure -> ba, Shared -> aM, mainGlobals -> bM, boot_len -> ff, Program -> bH, assignEach -> eD, keywordEach -> fW, Around -> bQ, backTo -> dA, compareOp -> eR, wpAny_callSpecial?_slot -> pc, bootBuiltins -> jW, wpAny_call_entry -> m5, wpAny_newObj_type -> nU, attributeBase -> l7, wpAny_truthy_bool -> og, foldedSetIterable -> oi, wpAny_holding -> mI, wpAny_Call_Name_kw -> o9, wpAny_field -> lf, backToKw -> fV, swapsWith -> g8, mem_of_lookup -> p4, wpAny_typeNameOfWhole_keyiter -> Bo, binaryOp -> gI, wpAny_seqItems -> oI, wpAny_mono -> lM, Keyword -> fO, sysModules -> lY, wpAny_setField_rec -> sY, holding -> gq, wpAny_passesOwn -> pS, wpAny_typeNameOf_keyiter -> Bq, FuncData -> lc, tupleKind_room_in1 -> vo, wpAny_pyIter_tuple -> wd, wpAny_execs_nil -> sw, sizeLine_eq -> ol, codeAny_mono -> o8, behindInMarks -> pW, standAt -> iJ, wpAny_isInstance -> yI, wpAny_loadPart' -> wj, intKind -> lK, sliceBounds -> p9, wpAny_pyIter_enum -> Bv, wpAny_isOneOf_keyiter -> Eh, wpAny_pyIter_zip -> BL, assign -> iK, wpAny_updateSeq_pair -> EG, wpAny_rule -> rG, getMethod -> o5, Builtin -> mM, scanBound -> pB, wpAny_fieldsOf -> Bp, wpAny_setField -> Br, Paired -> lJ, PassesOwn -> pR, call_meets -> sD, rawInt -> l6, isTrue -> mH, codeAny -> om, IsPair -> mS
open PySem.Builtin.Dict renaming showsAll -> Iv
open PySem.Builtin.Dict_items renaming ownsTuple -> Iy
open PySem.Builtin.Frozenset renaming isAnySet -> BN, difference -> EY, addrOf -> EZ, slot1 -> Lc
open PySem.Builtin.Int renaming intBits -> rE
open PySem.Builtin.List renaming listTooLong -> va, listLengthHint -> D9, listSameRef -> Io
open PySem.Builtin.Slice renaming slicePlaces -> AV, sliceAdjust -> G3
open PySem.Builtin.SmallTypes renaming nextOf -> pw, ownedTupleIsFree -> BF, ownedTupleHandOut -> JE
open PySem.Builtin.Str renaming strSliceIndices -> mQ, occurrences -> CK
open PySem.Builtin.Tuple renaming tupleItemsOf -> G4
open PySem.Calls renaming spliced_cons -> AR, spliced_nil -> AQ
open PySem.F renaming slot_dict_keyiterator_next -> zd, slot_tuple_iterator_next -> BA, plainAttrs_list -> Ba, args_dict_keyiterator_next_1 -> Ix, entry_dict_keyiterator_next -> Iw, slot_list_append -> C7, slot_dict_get -> Df, slot_list_extend -> C8, slot_dict_setdefault -> Il, slot_zip_next -> BG, excBase_ValueError -> LW
open PySem.Heap renaming get?_push_of_some -> bW, get?_push_size -> dn, lt_size -> b6, get?_update_other -> sC, size_push -> oo, get?_update_self -> AX, get?_push_cases -> Bu, SameBut -> pO
open PySem.Heap.SameBut renaming update -> Bt
open PySem.MeetsSeq2 renaming wpAny_forIn_array -> La
open PySem.NameKind renaming free -> ro, cell -> rp
open PySem.Obj renaming mapSeq -> lg, data_mapFields -> Bs
open PySem.Paired renaming length -> AE
open PySem.PassesOwn renaming never -> gg, leaving -> Fm
open PySem.SeqAt.RcAt renaming lists_lengths -> DU
open PySem.Value renaming ref -> di, none -> kb, type -> n8, bool -> oW, isInt_shape -> Ce
open PySem.W renaming Frag -> aC, nsIn -> cg, keepIn -> gj, mg_none_of -> lU, fnOf -> gK, findIn -> lb, mg_of -> lS, kia_one -> mZ, emptyDict -> o7, codeIn -> nT, kitOne -> op, instObj -> oY, exmOne -> pE, callWith_K -> t4, excIn -> rS, plainGet -> tV, makesIn -> tX, hasDictIn -> AN, methodCall_KW -> C1, plainGet_of -> CQ, isFn -> tW, lookIn -> AM, plainOver -> CS, takerIn -> CU, OpenLaw -> vu
open Sum renaming inl -> jU
open True renaming intro -> lN
noncomputable section
set_option compiler.extract_closed false
set_option bootstrap.genMatcherCode false
set_option genSizeOfSpec false
set_option Elab.async false
set_option linter.all false
set_option maxRecDepth 100000
section
open PySem
abbrev Y6 (x:Str):Prop:=(x==("__debug__" :Str))=false
abbrev Y5 (x:Str):Prop:=(x==("__classdict__" :Str))=false
abbrev W0:=Str->Option Value
abbrev WZ:=Addr->Prop
abbrev Vt:=Value->aM->Prop
theorem T8 {l:List Str} (h:l.Nodup:=by decide+kernel):l.Nodup:=h
end
namespace L2
open PySem PySem.Spec PyProof.Rows
abbrev aQ:=Sum Int Str
def sq:aQ->Value->Bool
 | .inl k,v=>Value.isInt k v
 | .inr x,v=>Value.isStrOf x v
def Cd (w:World):aQ->Int
 | .inl k=>hashInt k
 | .inr x=>hashStr w x
theorem qI: ∀ {k:aQ} {v:Value},sq k v=true->(∃i t,k=jU i/\v=Value.int i t)\/(∃x t,k=Sum.inr x/\v=Value.str x t)
 | .inl i,v,h=>by
  obtain ⟨t,e⟩:=Ce h;exact .inl ⟨i,t,rfl,e⟩
 | .inr x,v,h=>by
  obtain ⟨t,e⟩:=Value.isStrOf_shape h;exact .inr ⟨x,t,rfl,e⟩
def M8 (i:Int) (t:Tok):sq (.inl i) (.int i t)=true:=by simp [sq,Value.isInt]
def M9 (x:Str) (t:Tok):sq (.inr x) (.str x t)=true:=by simp [sq,Value.isStrOf]
def Na (a b:Int):decide ((jU a:aQ)=jU b)=(a==b):=by
 by_cases e:a=b
 . subst e;simp
 . have h: ¬(jU a:aQ)=jU b:=λq=>e (Sum.inl.inj q)
   rw [decide_eq_false h];exact (beq_eq_false_iff_ne.mpr e).symm
def Nb (a b:Str):decide ((Sum.inr a:aQ)=Sum.inr b)=decide (a=b):=by
 by_cases e:a=b
 . subst e;simp
 . have h: ¬(Sum.inr a:aQ)=Sum.inr b:=λq=>e (Sum.inr.inj q)
   rw [decide_eq_false h,decide_eq_false e]
def Nc (a:Int) (b:Str):decide ((jU a:aQ)=Sum.inr b)=false:=decide_eq_false (λq=>nomatch q)
def Nd (a:Str) (b:Int):decide ((Sum.inr a:aQ)=jU b)=false:=decide_eq_false (λq=>nomatch q)
def qw (c:bH) (w:World):PySem.KeyKind c w aQ where
 is:=sq
 hash:=Cd w
 inj:=λv a b m l=>by
  rcases qI m with ⟨i,t,rfl,rfl⟩| ⟨x,t,rfl,rfl⟩
  . rcases qI l with ⟨j,u,rfl,e⟩| ⟨y,u,rfl,e⟩
    . injection e with e1 _;rw [e1]
    . exact nomatch e
  . rcases qI l with ⟨j,u,rfl,e⟩| ⟨y,u,rfl,e⟩
    . exact nomatch e
    . injection e with e1 _;rw [e1]
 byValue:=λk v h=>by
  rcases qI h with ⟨i,t,rfl,rfl⟩| ⟨x,t,rfl,rfl⟩<;>rfl
 pyHash:=λd h=>by
  rcases qI d with ⟨i,t,rfl,rfl⟩| ⟨x,t,rfl,rfl⟩
  . exact wpAny_pyHash_int h
  . exact wpAny_pyHash_str h
 eqBool:=λn d h=>by
  rcases qI n with ⟨i,t,rfl,rfl⟩| ⟨x,t,rfl,rfl⟩
  . rcases qI d with ⟨j,u,rfl,rfl⟩| ⟨y,u,rfl,rfl⟩
    . rw [Na] at h;exact wpAny_eqBool_int h
    . rw [Nc] at h;exact SeqAt.EqAt.int_str i t y u _ _ _ _ h
  . rcases qI d with ⟨j,u,rfl,rfl⟩| ⟨y,u,rfl,rfl⟩
    . rw [Nd] at h;exact SeqAt.EqAt.str_int x t j u _ _ _ _ h
    . rw [Nb] at h;exact wpAny_eqBool_str h
 «strs» :=λk x t v h=>by
  rcases qI h with ⟨i,u,rfl,e⟩| ⟨y,u,rfl,e⟩
  . exact nomatch e
  . injection e with e1 _;subst e1;cases v<;>rfl
def kN (a:bH) (w:World) (i:Int) (t:Tok):(qw a w).is (.inl i) (.int i t)=true:=M8 i t
def kM (a:bH) (w:World) (x:Str) (t:Tok):(qw a w).is (.inr x) (.str x t)=true:=M9 x t
inductive V where
 |aU|bl (b:Bool)|int (i:Int)|str (x:Str)|sr (b:Array UInt8)|mV (b:UInt64)|ref (a:Addr)|ty (n:String)
 deriving DecidableEq
def aK:V->Value->Prop
 | .aU,u=>u=kb
 | .bl b,u=>u=oW b
 | .int i,u=> ∃t,u=Value.int i t
 | .str x,u=> ∃t,u=Value.str x t
 | .sr b,u=> ∃t,u=Value.bytes b t
 | .mV b,u=> ∃t,u=Value.float b t
 | .ref a,u=>u=di a
 | .ty n,u=>u=n8 n
abbrev aI:List V->List Value->Prop:=lJ aK
def aI.length {xs:List V} {us:List Value} (r:aI xs us):xs.length=us.length:=AE r
theorem aI.get: ∀ {xs:List V} {us:List Value} {i:Nat} {x:V},aI xs us->xs[i]?=some x-> ∃u,us[i]?=some u/\aK x u
 |_,_,_,_,.nil,e=>by simp at e
 |_,_,0,_,.cons r _,e=>by simp at e;subst e;exact ⟨_,rfl,r⟩
 |_,_,i+1,x,.cons _ t,e=>by
  obtain ⟨u,h1,h2⟩:=aI.get t (by simpa using e);exact ⟨u,by simpa using h1,h2⟩
theorem aI.set {x:V} {u:Value} (r:aK x u): ∀ {a:List V} {c:List Value} (i:Nat),aI a c->aI (a.set i x) (c.set i u)
 |_,_,_,.nil=> .nil
 |_,_,0,.cons _ t=> .cons r t
 |_,_,i+1,.cons q t=> .cons q (aI.set r i t)
theorem aI.append: ∀ {a c:List V} {d e:List Value},aI a d->aI c e->aI (a++c) (d++e)
 |_,_,_,_,.nil,s=>s
 |_,_,_,_,.cons r t,s=> .cons r (aI.append t s)
theorem aI.take: ∀ {a:List V} {c:List Value} (n:Nat),aI a c->aI (a.take n) (c.take n)
 |_,_,0,_=> .nil
 |_,_,_+1,.nil=> .nil
 |_,_,n+1,.cons r t=> .cons r (aI.take n t)
theorem aI.drop: ∀ {a:List V} {c:List Value} (n:Nat),aI a c->aI (a.drop n) (c.drop n)
 |_,_,0,r=>r
 |_,_,_+1,.nil=> .nil
 |_,_,n+1,.cons _ t=>aI.drop n t
def dr:Option V->Option Value->Prop
 |some v,some u=>aK v u
 |none,none=>True
 |_,_=>False
def KV {a:Type}:List (a×V)->List (a×Value)->Prop:=lJ λ(p:a×V) (q:a×Value)=>p.1=q.1/\aK p.2 q.2
def kV:aQ->V
 | .inl i=> .int i
 | .inr x=> .str x
inductive HO where
 |ai (xs:List V)
 |ak (xs:List V)
 |dK (dN:List (aQ×V))|dT (dN:List (List aQ×V))
 |set (S:Int->Bool) (n:Nat)
 |ins (C dx:Addr) (fs:List (Str×V))
 |aw (x:Addr)
 |xd (fs:List (Str×V))
 |met (f x:Addr)
 |AF (lo hi:Int)
 |cJ (o:Obj) (u:HO)
 |oX (ps:Array Value)
 |ext (φ:Heap->Prop)
 |memo (B:List Int) (Φ:Int->Option Int->Prop)
 |cZ (rs:List (Addr×List V))
abbrev Hp:=Addr->Option HO
def aR (H:Hp) (a:Addr) (o:HO):Hp:=λb=>if b=a then some o else H b
def jD {H:Hp} {a:Addr} {o:HO}:aR H a o a=some o:=by unfold aR;rw [if_pos rfl]
def j3 {H:Hp} {a b:Addr} {o:HO} (h:b≠a):aR H a o b=H b:=by unfold aR;rw [if_neg h]
def Nf {H:Hp} {a b:Addr} {o u:HO} (h:H a=some o) (c:H b=some u) (d:o≠u):a≠b:=by
 intro e;subst e;rw [h] at c;exact d (fj c)
def qS {H:Hp} {a b:Addr} {o:HO} (h:H a=some o) (c:H b=none):a≠b:=by
 intro e;subst e;rw [h] at c;cases c
section
variable (P:bH) (w:World)
def bn (H:Hp) (h:Heap) (a:Addr):HO->Prop
 | .ai e=>e.length<=aS/\ ∃(c:List Value) (n:Nat),aI e c/\h.get? a=some {cls:= .type "list",data:= .seq c.toArray n}
 | .ak e=>e.length<=aS/\ ∃c:List Value,aI e c/\IsTup h a c.toArray
 | .dK d=>d.length<=aS/\(a==lY)=false/\ ∃l,KV d l/\h.DictOf (qw P w) a l
 | .dT d=>d.length<=aS/\(a==lY)=false/\ ∃e:List (List aQ×Addr×Value),
  lJ (λ(p:List aQ×V) (q:List aQ×Addr×Value)=>p.1=q.1/\H q.2.1=some (.ak (p.1.map kV))/\aK p.2 q.2.2) d e/\
  ∃o m z,h.get? a=some o/\o.ExactDict/\o.data= .dict m z/\m.toList=e.map (entryOfKey (tupleKind (qw P w)))/\(e.map (·.1)).Nodup
 | .set S n=>h.SetOf (lK P w) a S n
 | .ins C dx fs=>H dx=some (.aw a)/\fs.length<=1000/\dx≠a/\h.get? a=some (oY C dx)/\
  ∃i,h.Ns1 dx i/\(∀f,dr (fs.lookup f) (i f))/\PySem.Within i (fs.map (·.1))
 | .aw _=> ∃o,h.get? a=some o
 | .xd fs=> ∃i,h.Ns1 a i/\ ∀f,dr (fs.lookup f) (i f)
 | .AF lo B=> ∃t u v,h.get? a=some {cls:= .type "range",data:= .fields #[.int lo t,.int B u,.int 1 v]}
 | .cJ o u=>h.get? a=some o/\bn H h a u
 | .oX E=>h.get? a=some {cls:= .none,data:= .fields E}
 | .met f x=>h.get? a=some (PySem.W.methodObj (.ref f) (.ref x))
 | .ext j=>j h/\(∃o,h.get? a=some o)/\ ∀r y:Heap,j r->(∀o,r.get? a=some o->y.get? a=some o)->j y
 | .memo _ _=>False
 | .cZ _=>False
def dJ (H:Hp) (h:Heap):Prop:= ∀a o,H a=some o->bn P w H h a o
end
section
variable {P:bH} {w:World} {H I:Hp} {h h':Heap} {a:Addr} {o:HO}
def bn.lt (x:bn P w H h a o):a<h.objs.size:=by
 cases o with
 |ai d=>obtain ⟨_,_,_,_,e⟩:=x;exact b6 e
 |ak d=>obtain ⟨_,_,_,p⟩:=x;exact p.lt
 |dK c=>obtain ⟨_,_,_,_,o,_,_,e,_⟩:=x;exact b6 e
 |dT c=>obtain ⟨_,_,_,_,o,_,_,e,_⟩:=x;exact b6 e
 |set S n=>obtain ⟨o,_,_,_,e,_⟩:=x;exact b6 e
 |ins C dx fs=>obtain ⟨_,_,_,e,_⟩:=x;exact b6 e
 |aw y=>obtain ⟨_,e⟩:=x;exact b6 e
 |xd fs=>obtain ⟨_,⟨_,_,_,e,_⟩,_⟩:=x;exact b6 e
 |AF lo i=>obtain ⟨_,_,_,e⟩:=x;exact b6 e
 |cJ ob u=>obtain ⟨e,_⟩:=x;exact b6 e
 |oX j=>exact b6 (x)
 |met f y=>exact b6 (x)
 |ext l=>obtain ⟨_,⟨_,e⟩,_⟩:=x;exact b6 e
 |memo B m=>exact x.elim
 |cZ q=>exact x.elim
theorem lJ.pM {e i:Type} {F G:e->i->Prop}: ∀ {c:List e} {d:List i},lJ F c d->(∀a b,F a b->G a b)->lJ G c d
 |_,_,.nil,_=> .nil
 |_,_,.cons r t,f=> .cons (f _ _ r) (lJ.pM t f)
def bn.a9 (x:bn P w H h a o) (k: ∀b u,(b=a\/H b=some (.aw a))->h.get? b=some u->h'.get? b=some u)
  (N: ∀b,H b=some (.aw a)->I b=some (.aw a)) (O: ∀b m,H b=some (.ak m)->I b=some (.ak m)):bn P w I h' a o:=by
 induction o with
 |ai m=>obtain ⟨z,l,n,r,e⟩:=x;exact ⟨z,l,n,r,k _ _ (.inl rfl) e⟩
 |ak m=>obtain ⟨z,l,r,ob,e,c⟩:=x;exact ⟨z,l,r,ob,k _ _ (.inl rfl) e,c⟩
 |dK E=>obtain ⟨z,y,Q,r,ob,i,j,e,c⟩:=x;exact ⟨z,y,Q,r,ob,i,j,k _ _ (.inl rfl) e,c⟩
 |cZ Y=>exact x.elim
 |dT E=>
  obtain ⟨z,y,m,r,ob,i,j,e,c⟩:=x;exact ⟨z,y,m,lJ.pM r λp q z=>⟨z.1,O _ _ z.2.1,z.2.2⟩,ob,i,j,k _ _ (.inl rfl) e,c⟩
 |set S n=>obtain ⟨ob,i,j,t,e,c⟩:=x;exact ⟨ob,i,j,t,k _ _ (.inl rfl) e,c⟩
 |ins C dx fs=>
  obtain ⟨d,z,ne,e,J,⟨L,i,j,e2,c⟩,r⟩:=x;exact ⟨N _ d,z,ne,k _ _ (.inl rfl) e,J,⟨L,i,j,k _ _ (.inr d) e2,c⟩,r⟩
 |aw y=>obtain ⟨ob,e⟩:=x;exact ⟨ob,k _ _ (.inl rfl) e⟩
 |xd fs=>obtain ⟨J,⟨L,i,j,e,c⟩,r⟩:=x;exact ⟨J,⟨L,i,j,k _ _ (.inl rfl) e,c⟩,r⟩
 |AF lo hi=>obtain ⟨t,u,v,e⟩:=x;exact ⟨t,u,v,k _ _ (.inl rfl) e⟩
 |cJ ob u U=>obtain ⟨e,q⟩:=x;exact ⟨k _ _ (.inl rfl) e,U q⟩
 |oX ps=>
  have e:=x;exact k a _ (.inl rfl) e
 |met f y=>
  have e:=x;exact k a _ (.inl rfl) e
 |ext φ=>obtain ⟨p,⟨o,e⟩,st⟩:=x;exact ⟨st _ _ p λo q=>k _ _ (.inl rfl) q,⟨o,k _ _ (.inl rfl) e⟩,st⟩
 |memo B Φ=>exact x.elim
def dJ.lt (x:dJ P w H h) (e:H a=some o):a<h.objs.size:=(x a o e).lt
def dJ.fresh (x:dJ P w H h) (e:h.objs.size<=a):H a=none:=by
 cases q:H a with
 |none=>rfl
 |some u=>exact absurd (fS (x.lt q) e) (lZ _)
def dJ.kept (x:dJ P w H h) (k: ∀b u,h.get? b=some u->h'.get? b=some u):dJ P w H h':=λa o e=>
 (x a o e).a9 (λb u _ q=>k b u q) (λ_ q=>q) λ_ _ q=>q
def dJ.laid (x:dJ P w H h) (k: ∀b u,h.get? b=some u->h'.get? b=some u) (j:h.objs.size<=a) (new:bn P w (aR H a o) h' a o):dJ P w (aR H a o) h':=λb u e=>by
 have d:=x.fresh j
 by_cases i:b=a
 . subst i;rw [jD] at e;cases e;exact new
 . rw [j3 i] at e;exact (x b u e).a9 (λc v _ q=>k c v q) (λc q=>by rw [j3 (qS q d)];exact q) λc l q=>by rw [j3 (qS q d)];exact q
end
def Rd (H:Hp) (a:Addr) (u:HO):Prop:=H a=some u\/ ∃o,H a=some (.cJ o u)
def Rd.of {H:Hp} {a:Addr} {u:HO} (h:H a=some u):Rd H a u:= .inl h
def Rd.ok {P:bH} {w:World} {H:Hp} {h:Heap} {a:Addr} {u:HO} (r:Rd H a u) (x:dJ P w H h):bn P w H h a u:=by
 rcases r with r| ⟨o,r⟩
 . exact x a u r
 . obtain ⟨_,q⟩:=x a _ r;exact q
def mG:Option HO->Prop
 |some (.ai _)=>True
 |some (.dK _)=>True
 |some (.dT _)=>True
 |some (.set _ _)=>True
 |some (.ins _ _ _)=>True
 |some (.ext _)=>True
 |some (.memo _ _)=>True
 |some (.cZ _)=>True
 |_=>False
section
variable {P:bH} {w:World} {H:Hp} {h h':Heap} {x e:Addr} {o':HO}
def dJ.write (ok:dJ P w H h) (j:mG (H x)) (o:e=x\/H e=some (.aw x)) (k: ∀b u,b≠e->h.get? b=some u->h'.get? b=some u) (n: ∃u,h'.get? e=some u)
   (new:bn P w (aR H x o') h' x o'):dJ P w (aR H x o') h':=λb u q=>by
 have d: ∀c y,H c=some (.aw y)->c≠x:=λc y r z=>by subst z;rw [r] at j;exact j
 have i: ∀c l,H c=some (.ak l)->c≠x:=λc l r z=>by subst z;rw [r] at j;exact j
 by_cases m:b=x
 . subst m;rw [jD] at q;cases q;exact new
 . rw [j3 m] at q
   by_cases a:b=e
   . have p:H b=some (.aw x):=by
       rcases o with z|z
       . exact absurd (a.trans z) m
       . rw [a];exact z
     rw [q] at p;cases p;obtain ⟨v,B⟩:=n;exact ⟨v,by rw [a];exact B⟩
   . refine (ok b u q).a9 (λc v hc r=>k c v ?_ r) (λc r=>by rw [j3 (d c b r)];exact r) λc l r=>by rw [j3 (i c l r)];exact r
     rcases hc with rfl|hc
     . exact a
     . rintro rfl;rcases o with z|z
       . exact d c b hc z
       . rw [hc] at z;cases z;exact m rfl
end
structure Un (fs ex:List Addr) (H H':Hp) (h h':Heap):Prop where
 keep: ∀b o,h.get? b=some o->H b=none->b∉fs->b∉ex->h'.get? b=some o
 slot: ∀b o,h.get? b=some o->H b=none->b∈fs->b∉ex-> ∃sl,h'.get? b=some {o with slots:=sl}
 free: ∀b o,h.get? b=some o->H b=none->b∉ex->H' b=none
 there: ∀b o,h.get? b=some o->b∉ex-> ∃o',h'.get? b=some o'
 eH: ∀b xs,H b=some (.ak xs)->H' b=some (.ak xs)
 fE: ∀b o u,H b=some (.cJ o u)->H' b=some (.cJ o u)
 fT: ∀b ps,H b=some (.oX ps)-> ∃more,H' b=some (.oX (ps++more))
section
variable {fs Ng ex ex':List Addr} {H H1 H2:Hp} {h h1 h2 h':Heap} {a x e:Addr} {o:HO}
def Un.any (u:Un fs ex H H1 h h1) {b:Addr} {ob:Obj} (q:h.get? b=some ob) (n:H b=none) (c:b∉ex): ∃i,h1.get? b=some {ob with slots:=i}:=by
 by_cases d:b∈fs
 . exact u.slot b ob q n d c
 . exact ⟨ob.slots,u.keep b ob q n d c⟩
def Un.kept (k: ∀b u,h.get? b=some u->h'.get? b=some u):Un fs ex H H h h':=
 ⟨λb ob q _ _ _=>k b ob q,λb ob q _ _ _=>⟨ob.slots,k b ob q⟩,λ_ _ _ n _=>n,λb ob q _=>⟨ob,k b ob q⟩,λ_ _ q=>q,λ_ _ _ q=>q,λ_ c q=>⟨#[],by rw [q];simp⟩⟩
def Un.refl:Un fs ex H H h h:=Un.kept λ_ _ q=>q
def Un.laid (k: ∀b u,h.get? b=some u->h'.get? b=some u) (d:h.objs.size<=a) (c:H a=none):Un fs ex H (aR H a o) h h' where
 keep:=λb u q _ _ _=>k b u q
 slot:=λb u q _ _ _=>⟨u.slots,k b u q⟩
 free:=λb u q n _=>by rw [j3 (eB (fS (b6 q) d))];exact n
 there:=λb u q _=>⟨u,k b u q⟩
 eH:=λb i q=>by rw [j3 (qS q c)];exact q
 fE:=λb u i q=>by rw [j3 (qS q c)];exact q
 fT:=λb j q=>⟨#[],by rw [j3 (qS q c),q];simp⟩
def Un.write (d:mG (H x)) (p:e=x\/H e=some (.aw x)) (k: ∀b u,b≠e->h.get? b=some u->h'.get? b=some u) (i: ∃u,h'.get? e=some u):Un fs ex H (aR H x o) h h':=by
 have l: ∀b,H b=none->b≠x:=λb n z=>by subst z;rw [n] at d;exact d
 have m: ∀b,H b=none->b≠e:=λb n z=>by
   subst z;rcases p with r|r
   . exact l b n r
   . rw [n] at r;cases r
 have j: ∀b u,H b=some u-> ¬mG (some u)->b≠x:=λb u q v z=>by subst z;rw [q] at d;exact v d
 refine ⟨λb u q n _ _=>k b u (m b n) q,λb u q n _ _=>⟨u.slots,k b u (m b n) q⟩,λb u q n _=>by rw [j3 (l b n)];exact n,λb u q _=>?_,
   λb w q=>by rw [j3 (j b _ q λz=>z)];exact q,λb u w q=>by rw [j3 (j b _ q λz=>z)];exact q,λb y q=>⟨#[],by rw [j3 (j b _ q λz=>z),q];simp⟩⟩
 by_cases c:b=e
 . subst c;exact i
 . exact ⟨u,k b u c q⟩
end
def ss (h:Heap) (H:Hp):List Addr:=(ke h.objs.size).filter λa=>(H a).isSome
def iG (h:Heap) (H:Hp):Heap:=PySem.W.hideAll h (ss h H)
def Nh (h:Heap) (H:Hp):(iG h H).objs.size=h.objs.size:=PySem.W.hideAll_size _ _
def Ni {h:Heap} {H:Hp} {b:Addr} {o:Obj} (e:h.get? b=some o) (n:H b=none):(iG h H).get? b=some o:=
 PySem.W.hideAll_get _ e λa=>by
  have q:=(List.mem_filter.mp a).2;rw [n] at q;simp at q
def Nj {h:Heap} {H:Hp} {b:Addr} {o:Obj} (e:(iG h H).get? b=some o):h.get? b=some o/\H b=none:=by
 have a:=PySem.W.of_hideAll (ss h H) e;refine ⟨a,?_⟩
 cases q:H b with
 |none=>rfl
 |some x=>
  have z:(iG h H).get? b=none:=PySem.W.hideAll_none (ss h H) (List.mem_filter.mpr ⟨n9.mpr (b6 a),by simp [q]⟩);rw [z] at e;cases e
def Nk (g h:Heap) (L:Addr):List (Addr×Obj):=(ke h.objs.size).filterMap λa=>if a=L\/(g.get? a).isSome=true then none else (h.get? a).map λo=>(a,o)
def rest (g h:Heap) (L d:Addr):List (Addr×Obj):=(Nk g h L).filter λp=>decide (p.1≠d)
structure Mod (K:aC) (mg:W0) (af:Heap):Prop where
 oa:K.In af
 glob:af.Ns bM mg
 blt: ∃mb,af.Ns builtinsNs mb/\ ∀x:Str,x≠ "__name__" ->mb x=jW x
 nolimit:af.NoLimit
structure Cx where
 prog:bH
 w:World
 K:aC
 mg:Str->Option Value
 af:Heap
 A:bQ
 N:List Str
 c9:aM
 mW:Hp
 env:Env
 outer:List Env
 stack:List Env
 ex:List Addr
 fn:Str->Bool
 bT:Bool
 pn:List (Addr×Obj)
 xe:Value->aM->Prop
abbrev Vs (X:Cx) (e:Expr) (a:List Expr):Prop:=bg (e::a) X.env=(false,eval e X.env)::bg a X.env
abbrev Vr (X:Cx) (p:Pos) (a:List Expr):Prop:=(dA p (bg a X.env)).any (·.1)=false
abbrev T9 (X:Cx) (x:Str):Prop:=X.fn x=true\/X.env.scope.names.lookup x=some .local
def dj (l:List Env):List Addr:=l.filterMap (·.frame)
abbrev Cx.fs (X:Cx):List Addr:=dj X.outer
def fL (a:Scope) (x:Str):Prop:=a.names.lookup x=some .local\/a.names.lookup x=some .cell\/a.names.lookup x=some .free
def Loc (a:Scope) (x:Str):Prop:=a.names.lookup x=some .local\/a.names.lookup x=some .cell
def Look (a:Env) (h:Heap) (m:W0) (x:Str) (u:Value):Prop:=
 (a.kindOf x=some .local/\m x=some u)\/((a.kindOf x=some .cell\/a.kindOf x=some .free)/\ ∃c,a.cells.lookup x=some c/\h.IsCell c (some u))
structure Cx.Ok (X:Cx):Prop where
 mod:Mod X.K X.mg X.af
 kind:X.env.scope.kind= .function
 glob:X.env.globals=bM
 blt:X.env.builtins=builtinsNs
 above:X.c9.heap.objs.size<=X.env.locals
 inj: ∀x y c,X.env.cells.lookup x=some c->X.env.cells.lookup y=some c->x=y
 has: ∀x,(X.env.kindOf x=some .cell\/X.env.kindOf x=some .free)-> ∃c,X.env.cells.lookup x=some c
 oe: ∀x c,X.fn x=true->X.env.cells.lookup x=some c->X.c9.heap.objs.size<=c
 hd:X.bT=true->X.A.handled=none
 frames:X.A.frames=some X.stack
 oZ:X.stack=X.outer\/(X.stack=X.env::X.outer/\X.env.frame=some X.env.locals)
 o3: ∀b∈X.ex,b≠X.env.locals/\ ∀x c,X.env.cells.lookup x=some c->c≠b
 bs: ∀b o,X.af.get? b=some o->X.c9.heap.get? b=some o/\X.mW b=none
 l0:X.af.objs.size<=X.c9.heap.objs.size
 gX: ∀b o,X.af.get? b=some o->b∉X.ex
 gY: ∀b∈X.ex,b∉X.fs
 dO:X.c9.heap.FunFrames X.af X.outer
 mX: ∀b∈X.fs,X.mW b=none
structure aA (X:Cx) (pins:List (Addr×Obj)) (σ:List (Option V)) (H:Hp) (s:aM):Prop where
 ok:X.Ok
 os:s.os=X.c9.os
 bare:nQ s.gens
 af:Un X.fs X.ex X.mW H X.c9.heap s.heap
 loc: ∃m,s.heap.Ns X.env.locals m/\ ∀(i:Nat) (x:Str) (v:V),X.N[i]?=some x->σ[i]?=some (some v)->fL X.env.scope x-> ∃u,aK v u/\Look X.env s.heap m x u
 cell: ∀x c,X.env.cells.lookup x=some c-> ∃v,s.heap.IsCell c v
 free:H X.env.locals=none
 cG: ∀x c,X.env.cells.lookup x=some c->H c=none
 pin: ∀p∈X.pn++pins,s.heap.get? p.1=some p.2/\H p.1=none/\p.1≠X.env.locals/\p.1∉X.fs/\ ∀v,p.2.data≠ .cell v
 aY:dJ X.prog X.w H s.heap
 len:σ.length=X.N.length
section
variable {X:Cx} {pins:List (Addr×Obj)} {σ:List (Option V)} {H H':Hp} {s:aM} {h':Heap}
def Cx.Ok.Cf (ok:X.Ok) {b:Addr} {o:Obj} (e:X.af.get? b=some o):b∉X.fs:=λa=>by
 have:=(ok.dO.mem a).1;rw [e] at this;cases this
def aA.bs (I:aA X pins σ H s): ∀b o,X.af.get? b=some o->s.heap.get? b=some o/\H b=none:=λb o e=>
 ⟨I.af.keep b o (I.ok.bs b o e).1 (I.ok.bs b o e).2 (I.ok.Cf e) (I.ok.gX b o e),I.af.free b o (I.ok.bs b o e).1 (I.ok.bs b o e).2 (I.ok.gX b o e)⟩
def aA.bk (I:aA X pins σ H s): ∀b o,X.af.get? b=some o->s.heap.get? b=some o:=λb o e=>(I.bs b o e).1
def aA.mod (I:aA X pins σ H s):Mod X.K X.mg X.af:=I.ok.mod
def aA.dP (I:aA X pins σ H s):X.K.In s.heap:=I.ok.mod.oa.keeps I.bk
def aA.lt (I:aA X pins σ H s):X.env.locals<s.heap.objs.size:=let ⟨_,a,_⟩:=I.loc;a.lt
def aA.sz (I:aA X pins σ H s):X.c9.heap.objs.size<=s.heap.objs.size:=cY I.ok.above (Nat.le_of_lt I.lt)
def aA.Cg (I:aA X pins σ H s) {a:Addr} (h:s.heap.objs.size<=a):a∉X.fs:=λc=>by
 obtain ⟨_,o,d,_⟩:=I.ok.dO.mem c;exact absurd (fS (b6 d) (cY I.sz h)) (lZ _)
def aA.pN (I:aA X pins σ H s): ∀x c,X.env.cells.lookup x=some c->c≠X.env.locals:=λx c e z=>by
 obtain ⟨v,o,h,hd⟩:=I.cell x c e;obtain ⟨m,⟨i,j,l,a,d,_⟩,_⟩:=I.loc;rw [z,a] at h;cases h;rw [d] at hd;cases hd
def aA.dO (I:aA X pins σ H s):s.heap.FunFrames X.af X.outer:=by
 have all: ∀(l:List Env),(∀b∈dj l,b∈X.fs)->X.c9.heap.FunFrames X.af l->s.heap.FunFrames X.af l:=by
  intro l
  induction l with
  |nil=>intro _ _;trivial
  |cons env r i=>
   intro h hl;obtain ⟨j,⟨L,o,a,m,n,hd⟩,hr⟩:=hl;have c:=h L (by unfold dj;rw [AG,a];exact iC);obtain ⟨p,e⟩:=I.af.slot L o n (I.ok.mX L c) c λz=>I.ok.gY L z c
   exact ⟨j,⟨L,_,a,m,e,hd⟩,i (λb d=>h b (by unfold dj;rw [AG,a];exact fM _ d)) hr⟩
 exact all X.outer (λ_ d=>d) I.ok.dO
def aA.stack (I:aA X pins σ H s):s.heap.FunFrames X.af X.stack:=by
 rcases I.ok.oZ with e| ⟨e,a⟩
 . rw [e];exact I.dO
 . rw [e];obtain ⟨m,c,_⟩:=I.loc;refine .cons (by rw [I.ok.kind];decide) a c ?_ I.dO;exact Heap.get?_none_of_le (cY I.ok.l0 I.ok.above)
def aA.gZ (I:aA X pins σ H s): ∀b∈dj X.stack,b∈X.env.locals::X.fs:=λb a=>by
 rcases I.ok.oZ with e| ⟨e,c⟩
 . rw [e] at a;exact fM _ a
 . rw [e] at a;unfold dj at a;rw [AG,c] at a;exact a
def aA.eI (I:aA X pins σ H s): ∀b∈dj X.stack,H b=none:=λb hb=>by
 rcases bJ.mp (I.gZ b hb) with e|hb
 . rw [e];exact I.free
 . obtain ⟨_,o,a,_⟩:=I.ok.dO.mem hb;exact I.af.free b o a (I.ok.mX b hb) λz=>I.ok.gY b z hb
def aA.step {g':Array GenState} {t':Nat} {d':Drawn} {ch:List Addr} (I:aA X pins σ H s)
   (h: ∀b∈ch,(b∈X.ex\/X.c9.heap.objs.size<=b)/\b≠X.env.locals/\(∀x c,X.env.cells.lookup x=some c->c≠b)/\ ∀p∈X.pn++pins,p.1≠b)
   (keep: ∀b o,b≠X.env.locals->b∉X.fs->b∉ch->s.heap.get? b=some o->H b=none->h'.get? b=some o)
   (slot: ∀b o,b≠X.env.locals->b∈X.fs->b∉ch->s.heap.get? b=some o->H b=none-> ∃Q,h'.get? b=some {o with slots:=Q}) (free: ∀b o,b∉ch->s.heap.get? b=some o->H b=none->H' b=none)
   (there: ∀b o,b∉ch->s.heap.get? b=some o-> ∃L,h'.get? b=some L)
   (eH: ∀b B,H b=some (.ak B)->H' b=some (.ak B)) (fE: ∀b o u,H b=some (.cJ o u)->H' b=some (.cJ o u)) (fT: ∀b O,H b=some (.oX O)-> ∃more,H' b=some (.oX (O++more)))
   (ns: ∀m,s.heap.Ns X.env.locals m->h'.Ns X.env.locals m) (aY:dJ X.prog X.w H' h') (hg:nQ g'):
   aA X pins σ H' {s with heap:=h',gens:=g',drawn:=d',toks:=t'}:=by
 have N: ∀b o,X.c9.heap.get? b=some o->b≠X.env.locals:=λb o e=>eB (fS (b6 e) I.ok.above)
 have y: ∀b o,X.c9.heap.get? b=some o->b∉X.ex->b∉ch:=λb o e a E=>by
   rcases (h b E).1 with z|z
   . exact a z
   . exact absurd (fS (b6 e) z) (lZ _)
 have j: ∀x c,X.env.cells.lookup x=some c-> ∀v,s.heap.IsCell c v->h'.IsCell c v:=λx c e v ⟨o,J,hd⟩=>by
   have w:c∉ch:=λz=>(h c z).2.2.1 x c e rfl
   by_cases Y:c∈X.fs
   . obtain ⟨Q,q⟩:=slot c o (I.pN x c e) Y w J (I.cG x c e);exact ⟨_,q,hd⟩
   . exact ⟨o,keep c o (I.pN x c e) Y w J (I.cG x c e),hd⟩
 refine ⟨I.ok,I.os,hg,⟨λb o e n E a=>?_,λb o e n E a=>?_,λb o e n a=>?_,λb o e a=>?_,λb B e=>eH b B (I.af.eH b B e),λb o B e=>fE b o B (I.af.fE b o B e),λb O e=>?_⟩,?_,λx c e=>?_,?_,λx c e=>?_,λp hp=>?_,aY,I.len⟩
 . exact keep b o (N b o e) E (y b o e a) (I.af.keep b o e n E a) (I.af.free b o e n a)
 . obtain ⟨Q,e1⟩:=I.af.slot b o e n E a;obtain ⟨U,e2⟩:=slot b _ (N b o e) E (y b o e a) e1 (I.af.free b o e n a);exact ⟨U,e2⟩
 . obtain ⟨L,e1⟩:=I.af.there b o e a;exact free b L (y b o e a) e1 (I.af.free b o e n a)
 . obtain ⟨L,e1⟩:=I.af.there b o e a;exact there b L (y b o e a) e1
 . obtain ⟨m1,e1⟩:=I.af.fT b O e;obtain ⟨m2,e2⟩:=fT b _ e1;exact ⟨m1++m2,by rw [e2,Array.append_assoc]⟩
 . obtain ⟨m,hn,hl⟩:=I.loc;refine ⟨m,ns m hn,λi x v e1 e2 e3=>?_⟩;obtain ⟨u,r,l⟩:=hl i x v e1 e2 e3;refine ⟨u,r,?_⟩;rcases l with l| ⟨k,c,e,z⟩
   . exact .inl l
   . exact .inr ⟨k,c,e,j x c e _ z⟩
 . obtain ⟨v,z⟩:=I.cell x c e;exact ⟨v,j x c e v z⟩
 . obtain ⟨m,⟨o,_,_,J,_⟩,_⟩:=I.loc;exact free _ o (λz=>(h _ z).2.1 rfl) J I.free
 . obtain ⟨v,o,J,hd⟩:=I.cell x c e;exact free c o (λz=>(h c z).2.2.1 x c e rfl) J (I.cG x c e)
 . obtain ⟨e,n,ne,nf,d⟩:=I.pin p hp;have w:p.1∉ch:=λz=>(h p.1 z).2.2.2 p hp rfl
   exact ⟨keep p.1 p.2 ne nf w e n,free p.1 p.2 w e n,ne,nf,d⟩
def aA.un {j:Nat} (I:aA X pins σ H s) (u:Un X.fs [] H H' s.heap h') (aY:dJ X.prog X.w H' h'):aA X pins σ H' {s with heap:=h',toks:=j}:=by
 obtain ⟨m,⟨o,v,w,i,r⟩,_⟩:=id I.loc;obtain ⟨y,l⟩:=u.any i I.free (by simp)
 exact I.step (ch:=[]) (λ_ z=>nomatch z) (λb o _ c _ e n=>u.keep b o e n c (by simp)) (λb o _ c _ e n=>u.slot b o e n c (by simp)) (λb o _ e n=>u.free b o e n (by simp)) (λb o _ e=>u.there b o e (by simp)) u.eH u.fE u.fT (λB p=>by
  obtain ⟨E,d,h,a,q⟩:=p;rw [i] at a;cases a
  exact ⟨_,d,h,l,q⟩) aY I.bare
def aA.call {q:Array GenState} {y:Nat} {B:Drawn} {v:List Addr} (I:aA X pins σ H s) (u:Un (dj X.stack) v H H' s.heap h') (aY:dJ X.prog X.w H' h') (E:nQ q)
  (d: ∀b∈v,(b∈X.ex\/X.c9.heap.objs.size<=b)/\b≠X.env.locals/\(∀x c,X.env.cells.lookup x=some c->c≠b)/\ ∀p∈X.pn++pins,p.1≠b):
  aA X pins σ H' {s with heap:=h',gens:=q,drawn:=B,toks:=y}:=by
 obtain ⟨m,⟨o,O,Q,w,r⟩,_⟩:=id I.loc;obtain ⟨U,i⟩:=u.any w I.free λz=>(d _ z).2.1 rfl
 exact I.step d (λb o i J a e n=>u.keep b o e n (λz=>(bJ.mp (I.gZ b z)).elim i J) a) (λb o _ _ a e n=>u.any e n a) (λb o a e n=>u.free b o e n a) (λb o a e=>u.there b o e a) u.eH u.fE u.fT (λY L=>by
  obtain ⟨o',j,l,h,N⟩:=L;rw [w] at h;cases h
  exact ⟨_,j,l,i,N⟩) aY E
def aA.turned {t':Nat} {a:Addr} (I:aA X pins σ H s) (k: ∀b o,b≠a->s.heap.get? b=some o->h'.get? b=some o) (j:H a=none) (i:a≠X.env.locals)
   (h1:a∈X.ex\/X.c9.heap.objs.size<=a) (h2: ∀x c,X.env.cells.lookup x=some c->c≠a) (l: ∀p∈X.pn++pins,p.1≠a):aA X pins σ H {s with heap:=h',toks:=t'}:=by
 have h: ∀b u,H b=some u->b≠a:=λb u e z=>by rw [z,j] at e;cases e
 refine I.step (ch:=[a]) (λb w=>?_) (λb o _ _ d e _=>k b o (λz=>d (by simp [z])) e) (λb o _ _ d e _=>⟨o.slots,k b o (λz=>d (by simp [z])) e⟩) (λ_ _ _ _ n=>n)
   (λb o d e=>⟨o,k b o (λz=>d (by simp [z])) e⟩) (λ_ _ e=>e) (λ_ _ _ e=>e) (λb L e=>⟨#[],by rw [e];simp⟩) (λm y=>?_) (λb u e=>?_) I.bare
 . have e:b=a:=by simpa using w
   subst e;exact ⟨h1,i,h2,l⟩
 . obtain ⟨o,B,E,J,r⟩:=y;exact ⟨o,B,E,k _ o (iH i) J,r⟩
 . refine (I.aY b u e).a9 (λc v d q=>k c v ?_ q) (λ_ q=>q) λ_ _ q=>q
   rcases d with z|z
   . rw [z];exact h b u e
   . exact h c _ z
def aA.tok (I:aA X pins σ H s) (t:Nat):aA X pins σ H {s with toks:=t}:=I.un Un.refl I.aY
def aA.kept {t':Nat} (I:aA X pins σ H s) (k: ∀b u,s.heap.get? b=some u->h'.get? b=some u):aA X pins σ H {s with heap:=h',toks:=t'}:=I.un (Un.kept k) (I.aY.kept k)
def aA.laid {a:Addr} {o:HO} {t':Nat} (I:aA X pins σ H s) (k: ∀b u,s.heap.get? b=some u->h'.get? b=some u) (c:s.heap.objs.size<=a) (new:bn X.prog X.w (aR H a o) h' a o):
 aA X pins σ (aR H a o) {s with heap:=h',toks:=t'}:=I.un (Un.laid k c (I.aY.fresh c)) (I.aY.laid k c new)
def aA.write {x e:Addr} {o:HO} {h:Nat} (I:aA X pins σ H s) (c:mG (H x)) (d:e=x\/H e=some (.aw x)) (k: ∀b u,b≠e->s.heap.get? b=some u->h'.get? b=some u) (a: ∃u,h'.get? e=some u)
 (new:bn X.prog X.w (aR H x o) h' x o):aA X pins σ (aR H x o) {s with heap:=h',toks:=h}:=I.un (Un.write c d k a) (I.aY.write c d k a new)
def aA.lL {a:List (Addr×Obj)} (I:aA X pins σ H s) (h: ∀p∈a,s.heap.get? p.1=some p.2/\H p.1=none/\p.1≠X.env.locals/\p.1∉X.fs/\ ∀v,p.2.data≠ .cell v):aA X a σ H s:=
 ⟨I.ok,I.os,I.bare,I.af,I.loc,I.cell,I.free,I.cG,λp c=>(j0.mp c).elim (λz=>I.pin p (Ci _ z)) (h p),I.aY,I.len⟩
def vX {N:List Str} (c:N.Nodup) {i j:Nat} {x:Str} (a:N[i]?=some x) (b:N[j]?=some x):i=j:=by
 obtain ⟨d,e1⟩:=iD.mp a;obtain ⟨e,e2⟩:=iD.mp b;exact (List.getElem_inj c).mp (e1.trans e2.symm)
def Vn {M:Model} {A:bQ} {E:Vt} {i:Nat} {x:Str} {v:V} {u:Value} {Q:Unit->aM->Prop} (I:aA X pins σ H s) (hN:X.N.Nodup) (Y:X.N[i]?=some x) (B:Loc X.env.scope x) (r:aK v u)
   (h: ∀s',aA X pins (σ.set i (some v)) H s'->(∃a,pO a s.heap s'.heap/\(a=X.env.locals\/X.env.cells.lookup x=some a))->Q () s') (hf:T9 X x:=by first|exact .inl rfl|exact .inr rfl|assumption):wpAny M A (storeName X.env x u) Q E s:=by
 obtain ⟨m,hn,hl⟩:=id I.loc;have Cj:(X.env.scope.kind== .class|| (X.env.scope.kind== .module&&X.env.locals !=X.env.globals))=false:=by rw [I.ok.kind];rfl
 have L:i<σ.length:=by rw [I.len];exact (iD.mp Y).1
 have pN:=I.pN
 have w: ∀ {a:Addr} {h':Heap},(∃o,s.heap.get? a=some o/\H a=none)->pO a s.heap h'->dJ X.prog X.w H h':=λ{a h'} ha l b ob e=>by
   obtain ⟨_,_,J⟩:=ha;refine (I.aY b ob e).a9 (λc w' hc q=>(l.2 c ?_).trans q) (λ_ q=>q) λ_ _ q=>q
   rintro rfl;rcases hc with rfl|hc
   . rw [J] at e;cases e
   . rw [J] at hc;cases hc
 rcases B with hk|hk
 . refine wpAny_storeName_local hk hn (λh' Nl l=>?_) Cj;obtain ⟨oL,_,_,Nm,_⟩:=id hn;refine h _ ⟨I.ok,I.os,I.bare,⟨λb o e n N B=>?_,λb o e n N B=>?_,I.af.free,λb o e B=>?_,I.af.eH,I.af.fE,I.af.fT⟩,⟨_,Nl,λj y v' e1 e2 e3=>?_⟩,λy c e=>?_,I.free,I.cG,λp hp=>?_,w ⟨oL,Nm,I.free⟩ l,by simpa using I.len⟩ ⟨_,l,.inl rfl⟩
   . exact (l.2 b (eB (fS (b6 e) I.ok.above))).trans (I.af.keep b o e n N B)
   . obtain ⟨sl,e1⟩:=I.af.slot b o e n N B;exact ⟨sl,(l.2 b (eB (fS (b6 e) I.ok.above))).trans e1⟩
   . obtain ⟨o',e1⟩:=I.af.there b o e B;exact ⟨o',(l.2 b (eB (fS (b6 e) I.ok.above))).trans e1⟩
   . by_cases O:j=i
     . subst O;rw [Y] at e1;cases e1;rw [su L] at e2;cases e2;exact ⟨u,r,.inl ⟨hk,by simp⟩⟩
     . rw [Ck (iH O)] at e2;obtain ⟨u',r',q⟩:=hl j y v' e1 e2 e3;refine ⟨u',r',?_⟩;rcases q with ⟨k,e⟩| ⟨k,c,e,z⟩
       . refine .inl ⟨k,?_⟩;have:y≠x:=λe=>O (vX hN e1 (e▸Y))
         simp [this,e]
       . exact .inr ⟨k,c,e,z.sameBut l (pN y c e)⟩
   . obtain ⟨w',z⟩:=I.cell y c e;exact ⟨w',z.sameBut l (pN y c e)⟩
   . obtain ⟨e,n,ne,nf,d⟩:=I.pin p hp;exact ⟨(l.2 p.1 ne).trans e,n,ne,nf,d⟩
 . have U:X.fn x=true:=by
     rcases hf with z|z
     . exact z
     . rw [z] at hk;cases hk
   obtain ⟨c,hc⟩:=I.ok.has x (.inl hk);obtain ⟨w',z⟩:=I.cell x c hc;refine wpAny_storeName_cell I.ok.kind hk hc z (λh' sv l=>?_);obtain ⟨oc,GI,Cn⟩:=id z;refine h {s with heap:=h'} ⟨I.ok,I.os,I.bare,⟨λb o e n N B=>?_,λb o e n N B=>?_,I.af.free,λb o e B=>?_,I.af.eH,I.af.fE,I.af.fT⟩,⟨m,hn.sameBut l (iH (pN x c hc)),λj y v' e1 e2 e3=>?_⟩,λy c' e=>?_,I.free,I.cG,λp hp=>?_,w ⟨oc,GI,I.cG x c hc⟩ l,by simpa using I.len⟩ ⟨c,l,.inr hc⟩
   . exact (l.2 b (eB (fS (b6 e) (I.ok.oe x c U hc)))).trans (I.af.keep b o e n N B)
   . obtain ⟨sl,e1⟩:=I.af.slot b o e n N B;exact ⟨sl,(l.2 b (eB (fS (b6 e) (I.ok.oe x c U hc)))).trans e1⟩
   . obtain ⟨o',e1⟩:=I.af.there b o e B;exact ⟨o',(l.2 b (eB (fS (b6 e) (I.ok.oe x c U hc)))).trans e1⟩
   . by_cases O:j=i
     . subst O;rw [Y] at e1;cases e1;rw [su L] at e2;cases e2;exact ⟨u,r,.inr ⟨.inl hk,c,hc,sv⟩⟩
     . rw [Ck (iH O)] at e2;obtain ⟨u',r',q⟩:=hl j y v' e1 e2 e3;refine ⟨u',r',?_⟩;rcases q with q| ⟨k,c',e,z'⟩
       . exact .inl q
       . refine .inr ⟨k,c',e,z'.sameBut l ?_⟩;rintro rfl;exact O (vX hN e1 (I.ok.inj _ _ _ e hc▸Y))
   . by_cases GJ:c'=c
     . subst GJ;exact ⟨_,sv⟩
     . obtain ⟨w2,z2⟩:=I.cell y c' e;exact ⟨w2,z2.sameBut l GJ⟩
   . obtain ⟨e,n,ne,nf,d⟩:=I.pin p hp;refine ⟨(l.2 p.1 ?_).trans e,n,ne,nf,d⟩;intro q;rw [q,GI] at e;have q':=fj e;exact d w' (by rw [<-q'];exact Cn)
def Y0 {M:Model} {A:bQ} {E:Vt} {i:Nat} {x:Str} {v:V} {u:Value} {Q:Unit->aM->Prop} (I:aA X pins σ H s) (c:X.N.Nodup) (d:X.N[i]?=some x) (e:Loc X.env.scope x) (r:aK v u)
  (h: ∀a,aA X pins (σ.set i (some v)) H a->Q () a) (j:T9 X x:=by first|exact .inl rfl|exact .inr rfl|assumption):wpAny M A (storeName X.env x u) Q E s:=
 Vn I c d e r (λa l _=>h a l) j
def aA.iI {s':aM} {d:List Addr} (I:aA X pins σ H s) (h:s'.os=s.os) (u:Un (dj X.stack) d H H' s.heap s'.heap) (aY:dJ X.prog X.w H' s'.heap) (i:nQ s'.gens)
  (a: ∀b∈d,(b∈X.ex\/X.c9.heap.objs.size<=b)/\b≠X.env.locals/\(∀x c,X.env.cells.lookup x=some c->c≠b)/\ ∀p∈X.pn++pins,p.1≠b):aA X pins σ H' s':=by
 obtain ⟨h',j,l,m,n⟩:=s';have e:=h;subst e;exact I.call u aY i a
end
abbrev XK:=Value->Option Addr->Hp->Prop
abbrev St:=List (Option V)
abbrev VK:=V->Hp->Prop
abbrev TE:=St->Hp->VK->Prop
abbrev TT:=St->Hp->(Bool->Hp->Prop)->Prop
abbrev TA:=St->Hp->(List V->Hp->Prop)->Prop
structure Ends where
 nx:St->Hp->Prop
 rt:VK
 bk:St->Hp->Prop:=λ_ _=>False
 ct:St->Hp->Prop:=λ_ _=>False
abbrev TS:=Ends->St->Hp->Prop
def EP (X:Cx) (a:List (Addr×Obj)) (d:St) (Q:VK) (u:Value) (e:aM):Prop:= ∃v c,aA X a d c e/\aK v u/\Q v c
def TP (X:Cx) (a:List (Addr×Obj)) (d:St) (Q:Bool->Hp->Prop) (b:Bool) (e:aM):Prop:= ∃c,aA X a d c e/\Q b c
def AP (X:Cx) (a:List (Addr×Obj)) (e:St) (Q:List V->Hp->Prop) (h:List Value) (i:aM):Prop:= ∃c d,aA X a e d i/\aI c h/\Q c d
def SP (X:Cx) (c:List (Addr×Obj)) (D:Ends) (f:Flow) (e:aM):Prop:=
 match f with
 | .next=> ∃a d,aA X c a d e/\D.nx a d
 | .brk=> ∃a d,aA X c a d e/\D.bk a d
 | .cont=> ∃a d,aA X c a d e/\D.ct a d
 | .ret u=> ∃v a d,aA X c a d e/\aK v u/\D.rt v d
def PE (X:Cx) (e:Expr) (t:TE):Prop:=
 ∀(a:List (Addr×Obj)) (s:aM) (c:St) (H:Hp) (Q:VK),aA X a c H s->t c H Q->wpAny (model X.prog X.w) X.A (eval e X.env) (EP X a c Q) X.xe s
def PT (X:Cx) (e:Expr) (t:TT):Prop:=
 ∀(a:List (Addr×Obj)) (s:aM) (c:St) (H:Hp) (Q:Bool->Hp->Prop),aA X a c H s->t c H Q->wpAny (model X.prog X.w) X.A (mH e X.env (eval e X.env)) (TP X a c Q) X.xe s
def PW (X:Cx) (e:Expr) (t:TT):Prop:=
 ∀(whole:Sem Value) (a:List (Addr×Obj)) (s:aM) (c:St) (H:Hp) (Q:Bool->Hp->Prop),aA X a c H s->t c H Q->wpAny (model X.prog X.w) X.A (mH e X.env whole) (TP X a c Q) X.xe s
def PW.pt {X:Cx} {e:Expr} {t:TT} (h:PW X e t):PT X e t:=h _
def PA (X:Cx) (e:List Expr) (t:TA):Prop:=
 ∀(c:Pos) (a:List (Addr×Obj)) (s:aM) (d:St) (H:Hp) (Q:List V->Hp->Prop),aA X a d H s->t d H Q->wpAny (model X.prog X.w) X.A (spliced (dA c (bg e X.env))) (AP X a d Q) X.xe s
def PS (X:Cx) (st:Stmt) (t:TS):Prop:=
 ∀(a:List (Addr×Obj)) (s:aM) (c:St) (H:Hp) (D:Ends),aA X a c H s->t D c H->wpAny (model X.prog X.w) X.A (exec st X.env) (SP X a D) X.xe s
def dk (X:Cx) (st:List Stmt) (t:TS):Prop:=
 ∀(a:List (Addr×Obj)) (s:aM) (c:St) (H:Hp) (D:Ends),aA X a c H s->t D c H->wpAny (model X.prog X.w) X.A (execs st X.env) (SP X a D) X.xe s
def bc {c:Type} {t:Sem c} {Q d:c->aM->Prop} {M:Model} {A:bQ} {E:Vt} {s:aM} (h:wpAny M A t Q E s) (e: ∀a s,Q a s->d a s):wpAny M A t d E s:=lM h e λ_ _ x=>x
section
variable {X:Cx}
def Co (i:Nat):TE:=λa H Q=> ∃v,a[i]?=some (some v)/\Q v H
def tC (v:V):TE:=λ_ H Q=>Q v H
def wE {i:Nat} {x:Str} {L:Pos} (q:X.N[i]?=some x) (w:fL X.env.scope x) (n:Y6 x:=by decide) (o:Y5 x:=by decide):PE X (.Name x L) (Co i):=by
 intro j s y H Q I h;obtain ⟨v,e,h⟩:=h;obtain ⟨m,z,B⟩:=I.loc;obtain ⟨u,r,l⟩:=B i x v q e w;have d:EP X j y Q u s:=⟨v,H,I,r,h⟩
 rcases l with ⟨hk,E⟩| ⟨hk,c,p,a⟩
 . exact wpAny_Name (wpAny_loadName_local I.ok.kind hk z E d) n
 . rcases hk with hk|hk
   . exact wpAny_Name (wpAny_loadName_cell I.ok.kind hk p a d) n
   . exact wpAny_Name (wpAny_loadName_free I.ok.kind hk p a d o) n
def vR {i j L}:PE X (.Constant (.int i) j L) (tC (.int i)):=λ_ _ _ H _ I h=>wpAny_Constant_int ⟨.int i,H,I.tok _,⟨_,rfl⟩,h⟩
def Nn {b j L}:PE X (.Constant (.bool b) j L) (tC (.bl b)):=λ_ _ _ H _ I h=>Constant_bool ⟨.bl b,H,I,rfl,h⟩
def GK {j L}:PE X (.Constant .none j L) (tC .aU):=λ_ _ _ H _ I h=>Constant_none ⟨.aU,H,I,rfl,h⟩
def No {x j L}:PE X (.Constant (.str x) j L) (tC (.str x)):=λ_ _ _ H _ I h=>Calls.Constant_str ⟨.str x,H,I.tok _,⟨_,rfl⟩,h⟩
def Gl (X:Cx) (x:Str):Prop:=X.env.kindOf x=some .globalImplicit
def Jt {E:Vt} {a:List (Addr×Obj)} {s:aM} {c:St} {H:Hp} {x:Str} {u:Value} {L:Pos} {Q:Vt} (I:aA X a c H s) (d:Gl X x) (e:X.mg x=some u) (h:Q u s)
  (i:Y6 x:=by decide):wpAny (model X.prog X.w) X.A (eval (.Name x L) X.env) Q E s:=
 Calls.Name_function_global I.ok.kind d (Calls.loadGlobal_global (by rw [I.ok.glob];exact I.mod.glob.keeps I.bk) e h) i
def Ju {E:Vt} {a:List (Addr×Obj)} {s:aM} {c:St} {H:Hp} {x:Str} {u:Value} {L:Pos} {Q:Vt} (I:aA X a c H s) (d:Gl X x) (e:X.mg x=none) (i:jW x=some u) (h:Q u s)
  (j:x≠ "__name__" :=by decide) (l:Y6 x:=by decide):wpAny (model X.prog X.w) X.A (eval (.Name x L) X.env) Q E s:=by
 obtain ⟨o,m,n⟩:=I.mod.blt;exact Calls.Name_function_global I.ok.kind d (Calls.loadGlobal_builtin (by rw [I.ok.glob];exact I.mod.glob.keeps I.bk) e (by rw [I.ok.blt];exact m.keeps I.bk) ((n x j).trans i) h) l
def GL {x:Str} {v:V} {u:Value} {L:Pos} (a:Gl X x) (c:X.mg x=some u) (r:aK v u) (d:Y6 x:=by decide):PE X (.Name x L) (tC v):=
 λ_ _ _ H _ I h=>Jt I a c ⟨v,H,I,r,h⟩ d
def Np {x:Str} {v:V} {u:Value} {L:Pos} (a:Gl X x) (c:X.mg x=none) (d:jW x=some u) (r:aK v u) (e:x≠ "__name__" :=by decide) (i:Y6 x:=by decide):PE X (.Name x L) (tC v):=
 λ_ _ _ H _ I h=>Ju I a c d ⟨v,H,I,r,h⟩ e i
variable {a b:Expr} {J z:TE} {L:Pos}
def tB (t:TE):TT:=λd H Q=>t d H λx e=> ∃c,x= .bl c/\Q c e
def vM {e:Expr} {t:TE} (h:PE X e t) (j: ∀whole,mH e X.env whole=(do let v<-whole;iJ e.pos;gq [v] (truthy v)):=by intro _;rfl):PT X e (tB t):=by
 intro c s l H Q I hw;refine isTrue_plain (bc (h c s l H _ I hw) λv r i=>?_) (j _);obtain ⟨x,m,n,o,p⟩:=i;obtain ⟨d,rfl,q⟩:=p;cases o;exact og ⟨m,n,q⟩
variable {tA B:TT} {rest:List Expr}
def Cp (t u:TT):TT:=λd H Q=>t d H λc e=>if c=true then u d e Q else Q false e
def Nq (t u:TT):TT:=λd H Q=>t d H λc e=>if c=true then Q true e else u d e Q
def tF (t:TT):TT:=λd H Q=>t d H λc e=>Q (!c) e
def Nr (i:PT X a tA):PW X (.BoolOp .And [a] L) tA:=by
 intro l d s j H Q I h;refine isTrue_and (bc (i d s j H Q I h) λc m e=>?_)
 cases c with
 |true=>exact isTrue_and_nil e
 |false=>exact e
def Nt (i:PT X a tA):PW X (.BoolOp .Or [a] L) tA:=by
 intro l d s j H Q I h;refine isTrue_or (bc (i d s j H Q I h) λc m e=>?_)
 cases c with
 |false=>exact isTrue_or_nil e
 |true=>exact e
def Nu (n:PT X a tA) (o:PW X (.BoolOp .And (b::rest) L) B):PW X (.BoolOp .And (a::b::rest) L) (Cp tA B):=by
 intro p d s i H Q I h;refine isTrue_and (bc (n d s i H _ I h) λc q e=>?_);obtain ⟨j,l,m⟩:=e
 cases c with
 |true=>exact o p d q i j Q l m
 |false=>exact ⟨j,l,m⟩
def Nv (n:PT X a tA) (o:PW X (.BoolOp .Or (b::rest) L) B):PW X (.BoolOp .Or (a::b::rest) L) (Nq tA B):=by
 intro p d s i H Q I h;refine isTrue_or (bc (n d s i H _ I h) λc q e=>?_);obtain ⟨j,l,m⟩:=e
 cases c with
 |true=>exact ⟨j,l,m⟩
 |false=>exact o p d q i j Q l m
def GN (e:PT X a tA):PT X (.UnaryOp .Not a L) (tF tA):=by
 intro d s i H Q I h;exact isTrue_not (e d s i H (λc j=>Q (!c) j) I h)
def Nw (J z:TE):TE:=λd H Q=>J d H λx e=> ∃c,x= .bl c/\if c=true then z d e Q else Q (.bl false) e
def Nx (J:TE):TE:=λd H Q=>J d H λx e=> ∃c,x= .bl c/\Q (.bl (!c)) e
def Ny {d} {t:TE} (h:PE X a t):PE X (.BoolOp d [a] L) t:=λc s e H Q I hw=>BoolOp_one (h c s e H Q I hw)
def Nz (n:PE X a J) (o:PE X (.BoolOp .And (b::rest) L) z):PE X (.BoolOp .And (a::b::rest) L) (Nw J z):=by
 intro d s j H Q I h;refine BoolOp_and (bc (n d s j H _ I h) λv p i=>?_);obtain ⟨x,l,m,q,e⟩:=i;obtain ⟨c,rfl,e⟩:=e;cases q;refine og ?_
 cases c with
 |true=>exact o d p j l Q m e
 |false=>exact ⟨.bl false,l,m,rfl,e⟩
def NA (j:PE X a J):PE X (.UnaryOp .Not a L) (Nx J):=by
 intro d s l H Q I h;refine UnaryOp_ (bc (j d s l H _ I h) λv p e=>?_);obtain ⟨x,m,n,o,i⟩:=e;obtain ⟨c,rfl,i⟩:=i;cases o;exact not_of (og ⟨.bl (!c),m,n,rfl,i⟩)
def NB (t:TT) (J z:TE):TE:=λd H Q=>t d H λc e=>if c=true then J d e Q else z d e Q
def vS {c:Expr} (p:PT X c tA) (q:PE X a J) (r:PE X b z):PE X (.IfExp c a b L) (NB tA J z):=by
 intro e s i H Q I h;refine wpAny_IfExp (bc (p e s i H _ I h) λd l j=>?_);obtain ⟨m,n,o⟩:=j
 cases d with
 |true=>exact q e l i m Q n o
 |false=>exact r e l i m Q n o
end
def da (K:aC) (H:Hp) (a:Addr) (d:List V):Prop:=
 Rd H a (.ai d)\/
  ∃(o:Obj) (c:Array Value) (n:Nat),K.lookup a=some o/\o.cls= .type "list" /\o.dict=none/\o.data= .seq c n/\c.size<=aS/\aI d c.toList
def ee (K:aC) (H:Hp) (a:Addr) (d:List V):Prop:=
 Rd H a (.ak d)\/
  ∃(o:Obj) (c:Array Value) (n:Nat),K.lookup a=some o/\o.cls= .type "tuple" /\o.data= .seq c n/\c.size<=aS/\aI d c.toList
def Cq:Value->Option V
 | .none=>some .aU
 | .bool b=>some (.bl b)
 | .int i _=>some (.int i)
 | .str x _=>some (.str x)
 | .bytes b _=>some (.sr b)
 | .float b _=>some (.mV b)
 | .ref a=>some (.ref a)
 | .type n=>some (.ty n)
 |_=>none
def aK.abs {x:V} {u:Value} (r:aK x u):Cq u=some x:=by
 cases x with
 |aU=>cases r;rfl
 |bl _=>cases r;rfl
 |int _=>obtain ⟨t,rfl⟩:=r;rfl
 |str _=>obtain ⟨t,rfl⟩:=r;rfl
 |sr _=>obtain ⟨t,rfl⟩:=r;rfl
 |mV _=>obtain ⟨t,rfl⟩:=r;rfl
 |ref _=>cases r;rfl
 |ty _=>cases r;rfl
def aK.inj {x y:V} {u:Value} (r:aK x u) (q:aK y u):x=y:=fj (r.abs.symm.trans q.abs)
theorem aI.inj: ∀ {a c:List V} {d:List Value},aI a d->aI c d->a=c
 |_,_,_,.nil,.nil=>rfl
 |_,_,_,.cons r t,.cons e h=>by rw [r.inj e,aI.inj t h]
section
variable {X:Cx} {pins:List (Addr×Obj)} {σ:St} {H:Hp} {s:aM} {a:Addr} {q ys:List V}
def da.of {K:aC} (h:H a=some (.ai q)):da K H a q:= .inl (.inl h)
def ee.of {K:aC} (h:H a=some (.ak q)):ee K H a q:= .inl (.inl h)
def aA.list (I:aA X pins σ H s) (h:da X.K H a q): ∃c:List Value,aI q c/\PlainL s.heap a c.toArray/\q.length<=aS:=by
 rcases h with h| ⟨o,c,n,d,i,hd,j,hz,r⟩
 . obtain ⟨z,c,n,r,e⟩:=h.ok I.aY;exact ⟨c,r,⟨_,n,e,rfl,rfl,rfl⟩,z⟩
 . refine ⟨c.toList,r,⟨o,n,I.dP a o d,i,hd,by simpa using j⟩,?_⟩;have e:=r.length;simp only [o4] at e;omega
def aA.tuple (I:aA X pins σ H s) (h:ee X.K H a q): ∃c:List Value,aI q c/\IsTup s.heap a c.toArray/\q.length<=aS:=by
 rcases h with h| ⟨o,c,n,d,i,j,hz,r⟩
 . obtain ⟨z,c,r,p⟩:=h.ok I.aY;exact ⟨c,r,p,z⟩
 . refine ⟨c.toList,r,⟨o,I.dP a o d,i,n,by simpa using j⟩,?_⟩;have e:=r.length;simp only [o4] at e;omega
def aA.mY (I:aA X pins σ H s) (h:da X.K H a q) (m:da X.K H a ys):q=ys:=by
 obtain ⟨i,r,⟨o,n,e,_,_,d⟩,_⟩:=I.list h;obtain ⟨c,p,⟨v,w,j,_,_,l⟩,_⟩:=I.list m;rw [e] at j;cases j;rw [d] at l;injection l with u _;have:i=c:=by simpa using congrArg Array.toList u
 subst this;exact r.inj p
def aA.l5 (I:aA X pins σ H s) (h:ee X.K H a q) (m:ee X.K H a ys):q=ys:=by
 obtain ⟨i,r,⟨o,e,_,n,d⟩,_⟩:=I.tuple h;obtain ⟨c,p,⟨v,j,_,w,l⟩,_⟩:=I.tuple m;rw [e] at j;cases j;rw [d] at l;injection l with u _;have:i=c:=by simpa using congrArg Array.toList u
 subst this;exact r.inj p
end
abbrev Cx.gr (X:Cx) (E:Vt):Cx:={X with xe:=E}
abbrev Cx.kf (X:Cx):Cx:=X.gr λ_ _=>False
def Cx.Ok.gr {X:Cx} (ok:X.Ok) (E:Vt):(X.gr E).Ok:=
 ⟨ok.mod,ok.kind,ok.glob,ok.blt,ok.above,ok.inj,ok.has,ok.oe,ok.hd,ok.frames,ok.oZ,ok.o3,ok.bs,ok.l0,ok.gX,ok.gY,ok.dO,ok.mX⟩
def Cx.Ok.dB {X:Cx} {E:Vt} (ok:(X.gr E).Ok):X.Ok:=
 ⟨ok.mod,ok.kind,ok.glob,ok.blt,ok.above,ok.inj,ok.has,ok.oe,ok.hd,ok.frames,ok.oZ,ok.o3,ok.bs,ok.l0,ok.gX,ok.gY,ok.dO,ok.mX⟩
section
variable {X:Cx} {pins:List (Addr×Obj)} {σ:St} {H:Hp} {s:aM} {E:Vt}
def aA.gr (I:aA X pins σ H s) (E:Vt):aA (X.gr E) pins σ H s:=⟨I.ok.gr E,I.os,I.bare,I.af,I.loc,I.cell,I.free,I.cG,I.pin,I.aY,I.len⟩
def aA.dB (I:aA (X.gr E) pins σ H s):aA X pins σ H s:=⟨I.ok.dB,I.os,I.bare,I.af,I.loc,I.cell,I.free,I.cG,I.pin,I.aY,I.len⟩
def SP.dB {D:Ends} {f:Flow} {d:aM} (h:SP (X.gr E) pins D f d):SP X pins D f d:=by
 cases f with
 |next=>obtain ⟨a,c,I,q⟩:=h;exact ⟨a,c,I.dB,q⟩
 |brk=>obtain ⟨a,c,I,q⟩:=h;exact ⟨a,c,I.dB,q⟩
 |cont=>obtain ⟨a,c,I,q⟩:=h;exact ⟨a,c,I.dB,q⟩
 |ret u=>obtain ⟨v,a,c,I,r,q⟩:=h;exact ⟨v,a,c,I.dB,r,q⟩
def dk.kf {st:List Stmt} {t:TS} (h:dk X.kf st t):dk X st t:=λpins s σ H D I hw=>
 lM (h pins s σ H D (I.gr _) hw) (λ_ _ q=>q.dB) λ_ _ z=>fU z
end
section
variable {X:Cx} {st:Stmt} {rest:List Stmt} {t u:TS} {e:Expr} {n:TE} {y:Pos}
def NC:TS:=λD a H=>D.nx a H
def Cr (t u:TS):TS:=λD a H=>t {D with nx:=u D} a H
def Xf:dk X [] NC:=λ_ _ a H _ I h=>sw ⟨a,H,I,h⟩
def Q8 (d:PS X st t) (i:dk X rest u):dk X (st::rest) (Cr t u):=by
 intro a s j H D I h;refine wpAny_execs_cons (bc (d a s j H {D with nx:=u D} I h) λf l q=>?_)
 cases f with
 |next=>
  obtain ⟨c,m,o,q⟩:=q;exact i a l c m D o q
 |ret v=>exact q
 |brk=>exact q
 |cont=>exact q
def Xe (c:PS X st t):dk X [st] t:=by
 intro a s d H D I h;refine wpAny_execs_cons (bc (c a s d H D I h) λf i q=>?_)
 cases f with
 |next=>exact sw q
 |ret v=>exact q
 |brk=>exact q
 |cont=>exact q
def aA.quiet {a:List (Addr×Obj)} {c:St} {H:Hp} {s:aM} (I:aA X a c H s):interactive X.env=false:=by simp [interactive,I.ok.kind]
def ND (n:TE):TS:=λD a H=>n a H λ_ c=>D.nx a c
def Kc (d:PE X e n) (i:g8 e none y.line X.env=pure false:=by rfl):PS X (.Expr e y) (ND n):=by
 intro a s c H D I h;exact wpAny_Expr_any (bc (d a s c H _ I h) λv o ⟨x,j,l,p,m⟩=>⟨c,j,l,m⟩) I.quiet i
def Cs (n:TE):TS:=λD a H=>n a H D.rt
def Wl (d:PE X e n):PS X (.Return (some e) y) (Cs n):=by
 intro a s c H D I h;exact wpAny_Return_some (bc (d a s c H _ I h) λv o ⟨x,i,j,l,m⟩=>⟨x,c,i,j,l,m⟩)
def Ct (c:TT) (t u:TS):TS:=λD a H=>c a H λb d=>if b=true then t D a d else u D a d
def Vy {c:Expr} {a b:List Stmt} {m:TT} (v:PT X c m) (w:dk X a t) (z:dk X b u):PS X (.If c a b y) (Ct m t u):=by
 intro i s j H D I h;refine wpAny_If (bc (v i s j H _ I h) λd o l=>?_);obtain ⟨p,q,r⟩:=l
 cases d with
 |true=>exact w i o j p D q r
 |false=>exact z i o j p D q r
def NE:TS:=λ_ _ _=>False
def NF {a:List Stmt}:dk X a NE:=λ_ _ _ _ _ _ h=>h.elim
end
abbrev TG:=V->St->Hp->(St->Hp->Prop)->Prop
abbrev pP:=List V->St->Hp->(St->Hp->Prop)->Prop
def PG (X:Cx) (a:Expr) (t:TG):Prop:=
 ∀(c:List (Addr×Obj)) (s:aM) (e:St) (H:Hp) (v:V) (u:Value) (Q:St->Hp->Prop),aA X c e H s->aK v u->t v e H Q->
  wpAny (model X.prog X.w) X.A (iK a X.env u) (λ_ i=> ∃d h,aA X c d h i/\Q d h) X.xe s
def AH (X:Cx) (j:List Expr) (t:pP):Prop:=
 ∀(a:List (Addr×Obj)) (s:aM) (d:St) (H:Hp) (e:List V) (h:List Value) (Q:St->Hp->Prop),aA X a d H s->aI e h->t e d H Q->
  wpAny (model X.prog X.w) X.A (assignInOrder ((eD j X.env).map (·.2)) h) (λ_ l=> ∃c i,aA X a c i l/\Q c i) X.xe s
abbrev pQ:=V->V->V->Hp->(Hp->Prop)->Prop
def tH (X:Cx) (t:pQ):Prop:=
 ∀(a:List (Addr×Obj)) (s:aM) (c:St) (H:Hp) (o i v:V) (d e u:Value) (Q:Hp->Prop),aA X a c H s->aK o d->aK i e->aK v u->t o i v H Q->
  wpAny (model X.prog X.w) X.A (setItem d e u) (λ_ j=> ∃h,aA X a c h j/\Q h) X.xe s
abbrev AI:=V->V->Hp->VK->Prop
def Cu (X:Cx) (d:Operator) (t:AI):Prop:=
 ∀(a:List (Addr×Obj)) (s:aM) (c:St) (H:Hp) (x y:V) (v u:Value) (Q:VK),aA X a c H s->aK x v->aK y u->t x y H Q->
  wpAny (model X.prog X.w) X.A (inplaceOp d v u) (EP X a c Q) X.xe s
section
variable {X:Cx} {d:Pos}
def GO (i:Nat):TG:=λv a H Q=>Q (a.set i (some v)) H
def GP {i:Nat} {x:Str} (c:X.N.Nodup) (e:X.N[i]?=some x) (j:Loc X.env.scope x) (l:T9 X x:=by first|exact .inl rfl|exact .inr rfl|assumption):PG X (.Name x d) (GO i):=by
 intro a s n H v u Q I r h;exact wpAny_assign_Name (Y0 I c e j r (λo m=>⟨_,H,m,h⟩) l)
def Cv:pP:=λa c H Q=>a=[]/\Q c H
def NG (t:TG) (u:pP):pP:=λc e H Q=> ∃v r,c=v::r/\t v e H λa h=>u r a h Q
def kq:AH X [] Cv:=by
 intro a s c H i j Q I r h;obtain ⟨e,h⟩:=h;subst e;cases r;exact assignInOrder_nil ⟨c,H,I,h⟩
def xK {e:Expr} {c:List Expr} {t:TG} {u:pP} (l:PG X e t) (m:AH X c u)
  (n:(eD (e::c) X.env).map (·.2)=iK e X.env::(eD c X.env).map (·.2):=by rfl):AH X (e::c) (NG t u):=by
 intro a s o H B E Q I r h;obtain ⟨v,J,e1,h⟩:=h;subst e1
 cases r with
 |cons r p=>
  rw [n];refine assignInOrder_cons (bc (l a s o H _ _ _ I r h) λ_ q i=>?_);obtain ⟨j,w,y,z⟩:=i;exact m a q j w _ _ Q y p z
def Cw (K:aC) (n:Nat) (t:pP):TG:=λv e H Q=> ∃a c,v= .ref a/\ee K H a c/\c.length=n/\t c e H Q
def Cy {i:List Expr} {k:Nat} {t:pP} {n:Nat} (m:X.bT=true) (h:AH X i t)
  (p:(eD i X.env).length=n:=by rfl) (j:(eD i X.env).findIdx? (·.1)=none:=by rfl):PG X (.Tuple i k d) (Cw X.K n t):=by
 intro c s q H v u Q I r hw;obtain ⟨a,w,e1,y,z,hw⟩:=hw;subst e1;cases r;obtain ⟨B,l,E,L⟩:=I.tuple y;refine assign_Tuple_tuple (I.ok.hd m) E (by simp [p,<-z,l.length]) j λN J=>?_
 exact h c _ q H w _ Q (I.kept (t':=s.toks) λb o e=>J b o (eB (b6 e)) e) (by simpa using l) hw
def Cz (c e:TE) (t:pQ):TG:=λv a H Q=>c a H λo h=>e a h λi j=>t o i v j λl=>Q a l
def NH {o i:Expr} {m n:TE} {t:pQ} (p:PE X o m) (q:PE X i n) (w:tH X t)
  (z: ∀v,iK (.Subscript o i d) X.env v=(do
   let e<-gq [v] (eval o X.env)
   let j<-gq [v,e] (eval i X.env)
   iJ d
   gq [v,e,j] (setItem e j v)
   release [v,e,j] []):=by intro _;rfl):PG X (.Subscript o i d) (Cz m n t):=by
 intro a s l H v u Q I r h;rw [z];refine az (mI (bc (p a s l H _ I h) λe B c=>?_));obtain ⟨x,E,J,L,N⟩:=c;refine az (mI (bc (q a B l E _ J N) λj O c=>?_));obtain ⟨y,U,Y,r2,q2⟩:=c;refine az (wpAny_standAt (az (mI (bc (w a O l U x y v e j u _ Y L r2 r q2) λ_ s3 c=>?_))));obtain ⟨H3,I3,q3⟩:=c;exact wpAny_release ⟨l,H3,I3,q3⟩
def tJ (c:TE) (g:TG):TS:=λD a H=>c a H λx e=>g x a e D.nx
def GQ {c e:Expr} {j:TE} {g:TG} (m:PE X e j) (n:PG X c g) (o:swapsWithSole [c] e d.line X.env=pure false:=by rfl) (hw:swappedStores [c] e X.env=pure none:=by rfl)
  (p:(eD [c] X.env).map (·.2)=[iK c X.env]:=by rfl):PS X (.Assign [c] e d) (tJ j g):=by
 intro a s l H D I h;refine wpAny_Assign_stores (bc (m a s l H _ I h) λv r i=>?_) o hw;obtain ⟨x,u,w,y,z⟩:=i;rw [p];exact bc (n a r l u x v _ w y z) λ_ B q=>q
def vO {i:Nat} {x:Str} {e:Expr} {l:TE} {a:Pos} (m:X.N.Nodup) (n:X.N[i]?=some x) (o:Loc X.env.scope x) (p:PE X e l) (q:g8 e (some (.Name x a)) d.line X.env=pure false:=by rfl) (r:T9 X x:=by first|exact .inl rfl|exact .inr rfl|assumption):
  PS X (.Assign [.Name x a] e d) (tJ l (GO i)):=by
 intro c s u H D I h;refine wpAny_Assign_Name (bc (p c s u H _ I h) λv L j=>?_) q;obtain ⟨y,w,z,B,E⟩:=j;exact Y0 z m n o B (λN J=>⟨_,w,J,E⟩) r
def CA (i:Nat) (c:TE) (e:AI):TS:=λD a H=> ∃x,a[i]?=some (some x)/\c a H λy h=>e x y h λz j=>D.nx (a.set i (some z)) j
def NI {i:Nat} {x:Str} {e:Expr} {L:TE} {B:Operator} {N:AI} {o:Pos} (U:X.N.Nodup) (O:X.N[i]?=some x) (E:Loc X.env.scope x) (Y:PE X e L) (ho:Cu X B N) (hf:T9 X x:=by first|exact .inl rfl|exact .inr rfl|assumption):
   PS X (.AugAssign (.Name x o) B e d) (CA i L N):=by
 intro a s Q H D I h;obtain ⟨v,e1,h⟩:=h;obtain ⟨m,hn,hl⟩:=I.loc;have J:fL X.env.scope x:=by rcases E with k|k;exact .inl k;exact .inr (.inl k)
 obtain ⟨u,r,l⟩:=hl i x v O e1 J;refine wpAny_AugAssign_Name ?_
 have go:wpAny (model X.prog X.w) X.A (eval e X.env) (λw p=>wpAny (model X.prog X.w) X.A (inplaceOp B u w) (λr q=>wpAny (model X.prog X.w) X.A (storeName X.env x r) (λ_=>SP X a D .next) X.xe q) X.xe p) X.xe s:=by
   refine bc (Y a s Q H _ I h) λw s1 j=>?_;obtain ⟨y,H1,I1,r1,q1⟩:=j
   refine bc (ho a s1 Q H1 v y u w _ I1 r r1 q1) λz s2 j=>?_;obtain ⟨zv,H2,I2,r2,q2⟩:=j
   exact Y0 I2 U O E r2 (λs3 I3=>⟨_,H2,I3,q2⟩) hf
 rcases l with ⟨hk,hm⟩| ⟨hk,c,hc,n⟩
 . exact wpAny_loadName_local I.ok.kind hk hn hm go
 . rcases hk with hk|hk
   . exact wpAny_loadName_cell I.ok.kind hk hc n go
   . rcases E with k|k
     . have:X.env.scope.names.lookup x=some .free:=hk;rw [k] at this;cases this
     . have:X.env.scope.names.lookup x=some .free:=hk;rw [k] at this;cases this
def GR (f:Int->Int->Int):AI:=λx y H Q=> ∃i j,x= .int i/\y= .int j/\Q (.int (f i j)) H
def GS:Cu X .Add (GR λi j=>i+j):=by
 intro a s e H x y v u Q I c r2 h;obtain ⟨i,j,e1,e2,q⟩:=h;subst e1;subst e2;obtain ⟨t,rfl⟩:=c;obtain ⟨l,rfl⟩:=r2;exact iadd_int ⟨.int _,H,I.tok _,⟨_,rfl⟩,q⟩
def NJ (c:TT) (l:TS):TS:=λD a H=> ∃W:Nat->St->Hp->Prop,(∃m,W m a H)/\ ∀m a H,W m a H->
 c a H λb h=>if b=true then∃N:St->Hp->Prop,(∀e i,N e i-> ∃j,j<m/\W j e i)/\l {D with nx:=N,ct:=N,bk:=D.nx} a h else D.nx a h
def vN {c:Expr} {j:List Stmt} {E:TT} {J:TS} (L:pR (model X.prog X.w) X.A X.env X.xe) (hc:PT X c E) (hb:dk X j J):PS X (.While c j [] d) (NJ E J):=by
 intro a s σ H D I h;obtain ⟨W,⟨m0,w0⟩,l⟩:=h;refine wpAny_While (codeAny_whileLoop (λn s'=> ∃m O,aA X a m O s'/\W n m O) ?_ m0 ⟨σ,H,I,w0⟩);rintro n s1 ⟨i,Q,I1,w1⟩;refine pS L (bc (hc a s1 i Q _ I1 (l n i Q w1)) λb s2 r=>?_);obtain ⟨U,Y,p⟩:=r
 cases b with
 |true=>
  obtain ⟨N,hN,p⟩:=p;refine pS L (bc (hb a s2 i U _ Y p) λf s3 q=>?_)
  cases f with
  |next=>
   obtain ⟨e,o,u,w⟩:=q;obtain ⟨y,z,B⟩:=hN e o w;exact ⟨y,z,e,o,u,B⟩
  |cont=>
   obtain ⟨e,o,u,w⟩:=q;obtain ⟨y,z,B⟩:=hN e o w;exact ⟨y,z,e,o,u,B⟩
  |brk=>exact q
  |ret v=>exact q
 |false=>
  exact sw ⟨i,U,Y,p⟩
end
structure It where
 go:Nat->Hp->Prop
 AJ:Nat->Hp->V->Hp->Prop
 stop:Nat->Hp->Prop
def cQ (X:Cx) (a:List (Addr×Obj)) (H:Hp) (b:Addr):Prop:=
 H b=none/\b≠X.env.locals/\b∉X.fs/\(b∈X.ex\/X.c9.heap.objs.size<=b)/\(∀x c,X.env.cells.lookup x=some c->c≠b)/\ ∀p∈X.pn++a,p.1≠b
def aA.eQ {X:Cx} {a:List (Addr×Obj)} {i:St} {H h:Hp} {s:aM} {b:Addr} (I:aA X a i H s) (d:s.heap.objs.size<=b) (j:h b=none):cQ X a h b:=by
 refine ⟨j,AK (fS I.lt d),I.Cg d,.inr (cY I.sz d),λx c e z=>?_,λp l z=>?_⟩
 . obtain ⟨v,q⟩:=I.cell x c e;exact absurd (fS q.lt (by rw [z];exact d)) (lZ _)
 . exact absurd (fS (b6 (I.pin p l).1) (by rw [z];exact d)) (lZ _)
structure Turn (P:bH) (w:World) (K:aC) (tg:Expr) (J:It) (fp:List Addr) (it:Addr) (tn:Nat->Heap->Prop):Prop where
 mem:it∈fp
 obj: ∀i h,tn i h-> ∀b∈fp,∃o,h.get? b=some o/\ ∀v,o.data≠ .cell v
 keep: ∀i h h',tn i h->(∀b∈fp,∀o,h.get? b=some o->h'.get? b=some o)->tn i h'
 item: ∀(X:Cx),X.prog=P->X.w=w->X.K=K->X.bT=true-> ∀(i:Nat) (pins:List (Addr×Obj)) (s:aM) (σ:St) (H:Hp) (E:Vt),aA X pins σ H s->(∀b∈fp,cQ X pins H b)->tn i s.heap->J.go i H->
  wpAny (model P w) X.A (pyNext (.ref it)) (λr s1=> ∃u,r=some u/\
   wpAny (model P w) X.A (letOwnedTupleGo tg (.ref it) u) (λ_ s2=> ∃x H',aA X pins σ H' s2/\aK x u/\J.AJ i H x H'/\tn (i+1) s2.heap/\ ∀b∈fp,H' b=none) E s1) E s
 done: ∀(X:Cx),X.prog=P->X.w=w->X.K=K->X.bT=true-> ∀(i:Nat) (pins:List (Addr×Obj)) (s:aM) (σ:St) (H:Hp) (E:Vt),aA X pins σ H s->(∀b∈fp,cQ X pins H b)->tn i s.heap->J.stop i H->
  wpAny (model P w) X.A (pyNext (.ref it)) (λr s1=>r=none/\aA X pins σ H s1) E s
 self: ∀(A:bQ) (i:Nat) (s:aM) (Q:Vt) (E:Vt),tn i s.heap->Q (.ref it) s->wpAny (model P w) A (pyIter (.ref it)) Q E s
abbrev TI:=St->Hp->(It->Hp->Prop)->Prop
def CB (X:Cx) (a:List (Addr×Obj)) (l:St) (m:Expr) (R:It->Hp->Prop) (c:Value) (e:aM):Prop:=
 ∃(h:Addr) (i:List Addr) (j:Nat->Heap->Prop) (J:It) (d:Hp),c= .ref h/\aA X a l d e/\Turn X.prog X.w X.K m J i h j/\j 0 e.heap/\(∀b∈i,cQ X a d b)/\R J d
def PI (X:Cx) (d iter:Expr) (e:TI):Prop:=
 ∀(a:List (Addr×Obj)) (s:aM) (c:St) (H:Hp) (R:It->Hp->Prop),aA X a c H s->e c H R->
  wpAny (model X.prog X.w) X.A (eval iter X.env) (λv h=>wpAny (model X.prog X.w) X.A (pyIter v) (CB X a c d R) X.xe h) X.xe s
def tK {M : Model} {A : bQ} {E : Value -> aM -> Prop} {s : aM} {c : Expr} {d : Addr} {u : Value} {o : Obj} {n : String} {e : Array Value} {Q : Unit -> aM -> Prop} (i : s.heap.get? d = some o) (j : o.cls = .type n) (l : o.data = .fields e)
    (m : ["enumerate", "zip", "dict_itemiterator", "dict_reverseitemiterator", "odict_iterator", "itertools.zip_longest", "itertools.pairwise"].contains n = false) (a : Q () s) : wpAny M A (letOwnedTupleGo c (.ref d) u) Q E s := by
  cases c <;> first
    | exact ba a
    | (cases u <;> first
        | exact ba a
        | (
          refine az (wpAny_load i ?_)
          rw [j, l]
          show wpAny M A (if (["enumerate", "zip", "dict_itemiterator", "dict_reverseitemiterator", "odict_iterator", "itertools.zip_longest", "itertools.pairwise"].contains n && e[0]? == some (l6 _)) = true then _ else _) Q E s
          rw [if_neg (by intro h; rw [m, Bool.false_and] at h; cases h)]
          exact ba a))
def NK (K:aC) (a:Addr):It:=
 ⟨λi H=> ∃c x,da K H a c/\c[i]?=some x,λi H x d=>d=H/\ ∀c,da K H a c->c[i]?=some x,λi H=> ∃c,da K H a c/\c.length<=i⟩
def NL (K:aC) (a:Addr):It:=
 ⟨λi H=> ∃c x,ee K H a c/\c[i]?=some x,λi H x d=>d=H/\ ∀c,ee K H a c->c[i]?=some x,λi H=> ∃c,ee K H a c/\c.length<=i⟩
def tL (lo:Int) (n:Nat):It:=⟨λi _=>i<n,λi H x a=>a=H/\x= .int (lo+i),λi _=>n<=i⟩
def Vm {P:bH} {w:World} {K:aC} {tg:Expr} (a j:Addr):Turn P w K tg (NK K a) [j] j (λi h=>h.IsListIter j a i) where
 mem:=by simp
 obj:=λi h st b l=>by
  have e:b=j:=by simpa using l
  subst e;obtain ⟨o,e,c,d⟩:=st;exact ⟨o,e,λv z=>by rw [d] at z;cases z⟩
 keep:=λi h h' st k=>st.at λo e=>k j (by simp) o e
 item:=by
  intro X y hw B hc i m s σ H E I q st J;subst y hw B;obtain ⟨xs,x,r,L⟩:=J;obtain ⟨N,O,p,hz⟩:=I.list r;obtain ⟨u,hu,ru⟩:=O.get L;obtain ⟨Q,U,f2,Y,f4,f5⟩:=q j (by simp);refine wpAny_pyNext_list_item st p.isList (by simpa using hu) λh' n sb=>?_
  obtain ⟨o,e,c,d⟩:=id n;exact ⟨u,rfl,tK e c d (by decide) ⟨x,H,(I.turned (t':=s.toks) (λb o l e=>(sb.2 b l).trans e) Q U Y f4 f5),ru,⟨rfl,λys hy=>by rw [I.mY hy r];exact L⟩,n,λb l=>(q b l).1⟩⟩
 done:=by
  intro X y hw B hc i m s σ H E I q st J;subst y hw B;obtain ⟨xs,r,L⟩:=J;obtain ⟨N,O,p,hz⟩:=I.list r;obtain ⟨Q,U,f2,Y,f4,f5⟩:=q j (by simp);have hl:=O.length;exact wpAny_pyNext_list_end (I.ok.hd hc) st p.isList (by simp;omega) λh' eb=>⟨rfl,I.turned (λb o l e=>eb b o l e) Q U Y f4 f5⟩
 self:=λ_ _ _ _ _ st h=>wpAny_pyIter_listiter st h
def uW {P:bH} {w:World} {K:aC} {tg:Expr} (a j:Addr):Turn P w K tg (NL K a) [j] j (λi h=>h.IsTupleIter j a i) where
 mem:=by simp
 obj:=λi h st b l=>by
  have e:b=j:=by simpa using l
  subst e;obtain ⟨o,e,c,d⟩:=st;exact ⟨o,e,λv z=>by rw [d] at z;cases z⟩
 keep:=λi h h' st k=>st.at λo e=>k j (by simp) o e
 item:=by
  intro X y hw B hc i m s σ H E I q st J;subst y hw B;obtain ⟨xs,x,r,L⟩:=J;obtain ⟨N,O,p,hz⟩:=I.tuple r;obtain ⟨u,hu,ru⟩:=O.get L;obtain ⟨Q,U,f2,Y,f4,f5⟩:=q j (by simp);refine wpAny_pyNext_tuple_item st (p) (by simpa using hu) λh' n sb=>?_
  obtain ⟨o,e,c,d⟩:=id n;exact ⟨u,rfl,tK e c d (by decide) ⟨x,H,(I.turned (t':=s.toks) (λb o l e=>(sb.2 b l).trans e) Q U Y f4 f5),ru,⟨rfl,λys hy=>by rw [I.l5 hy r];exact L⟩,n,λb l=>(q b l).1⟩⟩
 done:=by
  intro X y hw B hc i m s σ H E I q st J;subst y hw B;obtain ⟨xs,r,L⟩:=J;obtain ⟨N,O,p,hz⟩:=I.tuple r;obtain ⟨Q,U,f2,Y,f4,f5⟩:=q j (by simp);have hl:=O.length;exact wpAny_pyNext_tuple_end (I.ok.hd hc) st (p) (by simp;omega) λh' eb=>⟨rfl,I.turned (λb o l e=>eb b o l e) Q U Y f4 f5⟩
 self:=λ_ _ _ _ _ st h=>wpAny_pyIter_tupleiter st h
def uX {P:bH} {w:World} {K:aC} {O:Expr} (a:Addr) (lo:Int) (n:Nat):Turn P w K O (tL lo n) [a] a (λi h=>IsRangeIter h a (lo+(i:Nat)*1) ((n:Int)-(i:Nat)) 1) where
 mem:=by simp
 obj:=λi h st b c=>by
  have e:b=a:=by simpa using c
  subst e
  exact ⟨_,st,λv z=>by
   have Q:=z
   cases Q⟩
 keep:=λi h J st k=>k a (by simp) _ st
 item:=by
  intro X L hw N m i d s U H E I l st p;subst L hw N;obtain ⟨q,r,Y,u,y,B⟩:=l a (by simp);refine (Walks.range (prog:=X.prog) (w:=X.w) (I.ok.hd m) a lo 1 n).item i s _ _ p st λv J tk hv j kk=>?_
  obtain ⟨t,rfl⟩:=hv;refine ⟨_,rfl,tK j rfl rfl (by decide) ⟨.int (lo+i),H,(I.turned (λb o c e=>kk b o (by simpa using c) e) q r u y B),⟨t,?_⟩,⟨rfl,rfl⟩,j,λb c=>(l b c).1⟩⟩;rw [Int.mul_one]
 done:=by
  intro X L hw N m i d s U H E I l st p;obtain ⟨q,r,Y,u,y,B⟩:=l a (by simp);exact wpAny_pyNext_range_end (I.ok.hd m) st (by have:n<=i:=p;omega) λJ eb=>⟨rfl,I.turned (λb o c e=>eb b o c e) q r u y B⟩
 self:=λ_ _ _ _ _ st h=>wpAny_pyIter_rangeiter st h
section
variable {X:Cx} {l:Expr}
def vH {c:List (Addr×Obj)} {d:St} {H:Hp} {s:aM} {R:It->Hp->Prop} {E:Vt} {lo a:Int} {t u v:Tok} {tk:Nat} (I:aA X c d H s) (i: -(2^62)<=lo) (j:lo<2^62) (m: -(2^62)<=a) (n:a<2^62)
   (q:R (tL lo (a-lo).toNat) H):wpAny (model X.prog X.w) X.A (pyIter (.ref s.heap.objs.size)) (CB X c d l R) E {s with heap:=s.heap.push {cls:= .type "range",data:= .fields #[.int lo t,.int a u,.int 1 v]},toks:=tk}:=by
 refine wpAny_pyIter_range (IsRange.new ..) (small_one i j m n) ?_;have h:aA X c d H {s with heap:=s.heap.push {cls:= .type "range",data:= .fields #[.int lo t,.int a u,.int 1 v]},toks:=tk}:=I.kept λb o e=>bW _ e
 refine ⟨(s.heap.push {cls:= .type "range",data:= .fields #[.int lo t,.int a u,.int 1 v]}).objs.size,[(s.heap.push {cls:= .type "range",data:= .fields #[.int lo t,.int a u,.int 1 v]}).objs.size],_,_,H,rfl,
   h.kept λb o e=>bW _ e,uX _ lo (a-lo).toNat,?_,λb p=>?_,q⟩
 . have e1:lo+((0):Int)*1=lo:=by simp
   have e2:(((a-lo).toNat:Nat):Int)-((0):Int)=Builtin.Range.rangeSize lo a 1:=by rw [rangeSize_one];split<;>omega
   show IsRangeIter _ _ (lo+((0):Int)*1) ((((a-lo).toNat:Nat):Int)-((0):Int)) 1;rw [e1,e2];exact dn _ rfl
 . have e:b=(s.heap.push {cls:= .type "range",data:= .fields #[.int lo t,.int a u,.int 1 v]}).objs.size:=by simpa using p
   subst e;exact h.eQ (br _) (h.aY.fresh (br _))
def NM (a:TA):TI:=λc H R=>a c H λd e=> ∃j:Int,d=[.int j]/\ -(2^62)<=j/\j<2^62/\R (tL 0 j.toNat) e
def NN (a:TA):TI:=λc H R=>a c H λd e=> ∃i j:Int,d=[.int i,.int j]/\(-(2^62)<=i/\i<2^62/\ -(2^62)<=j/\j<2^62)/\R (tL i (j-i).toNat) e
def NO {a:Expr} {n:TA} {p c:Pos} (o:Gl X "range") (u:X.mg "range" =none) (v:PA X [a] n) (w:bg [a] X.env=[(false,eval a X.env)]:=by rfl):PI X l (.Call (.Name "range" p) [a] [] c) (NM n):=by
 intro d s y H R I h;refine Call_ (Ju I o u boot_range (oh (bc (v c d s y H _ I h) λL N i=>?_) w rfl));obtain ⟨O,Q,z,B,m⟩:=i;obtain ⟨j,e,m,E,q⟩:=m;subst e
 cases B with
 |cons r J=>
  cases J;obtain ⟨t,rfl⟩:=r;exact call_range_1 (vH z (by omega) (by omega) m E (by simpa using q))
def NP {a b:Expr} {u:TA} {p c:Pos} (v:Gl X "range") (w:X.mg "range" =none) (y:PA X [a,b] u) (z:bg [a,b] X.env=[(false,eval a X.env),(false,eval b X.env)]:=by rfl) (d:bg [b] X.env=[(false,eval b X.env)]:=by rfl):
  PI X l (.Call (.Name "range" p) [a,b] [] c) (NN u):=by
 intro m s B H R I h;refine Call_ (Ju I v w boot_range (oh (bc (y c m s B H _ I h) λU Y ⟨vs,H1,E,J,n⟩=>?_) (by rw [z,d]) (by rw [d];rfl)));obtain ⟨i,j,e,⟨n,L,N,O⟩,q⟩:=n;subst e
 cases J with
 |cons r o=>
  cases o with
  |cons Q o=>
   cases o;obtain ⟨t,rfl⟩:=r;obtain ⟨t',rfl⟩:=Q;exact call_range_2 (vH E n L N O q)
def CC (j:TI) (g:TG) (n:TS):TS:=λD a H=>j a H λJ o=> ∃W:Nat->Nat->St->Hp->Prop,(∃m,W 0 m a o)/\ ∀i m a H,W i m a H->
 (J.stop i H/\D.nx a H)\/(J.go i H/\ ∃N:St->Hp->Prop,(∀c d,N c d-> ∃h,h<m/\W (i+1) h c d)/\ ∀x d,J.AJ i H x d->g x a d λe p=>n {D with nx:=N,ct:=N,bk:=D.nx} e p)
def Vz (a:List Addr) (h:Heap):List (Addr×Obj):=a.filterMap λb=>(h.get? b).map λo=>(b,o)
def Qc {a:List Addr} {h:Heap} {b:Addr} {o:Obj} (c:b∈a) (e:h.get? b=some o):(b,o)∈Vz a h:=AL.mpr ⟨b,c,by rw [e];rfl⟩
def NQ {a:List Addr} {h:Heap} {p:Addr×Obj} (c:p∈Vz a h):p.1∈a/\h.get? p.1=some p.2:=by
 obtain ⟨b,d,e⟩:=AL.mp c
 cases q:h.get? b with
 |none=>rw [q] at e;cases e
 |some o=>
  rw [q] at e;have i:=fj e;subst i;exact ⟨d,q⟩
def aA.pinned {a:List (Addr×Obj)} {h:St} {H:Hp} {s:aM} {c:List Addr} (I:aA X a h H s) (m: ∀b∈c,cQ X a H b) (n: ∀b∈c,∃o,s.heap.get? b=some o/\ ∀v,o.data≠ .cell v):aA X (a++Vz c s.heap) h H s:=
 I.lL λp q=>(j0.mp q).elim (λz=>I.pin p (nR _ z)) λz=>by
  obtain ⟨i,e⟩:=NQ z;obtain ⟨r,u,w,_⟩:=m p.1 i;obtain ⟨o,j,d⟩:=n p.1 i;rw [e] at j;cases j;exact ⟨e,r,u,w,d⟩
def aA.eJ {a d:List (Addr×Obj)} {c:St} {H:Hp} {s:aM} (I:aA X (a++d) c H s):aA X a c H s:=I.lL λp e=>I.pin p (nR _ (Ci _ e))
def CD {iter:Expr} {L:List Stmt} {wi:TI} {g:TG} {tb:TS} {pos:Pos} (U:pR (model X.prog X.w) X.A X.env X.xe) (hc:X.bT=true) (hi:PI X l iter wi) (hg:PG X l g) (p:dk X L tb)
   (hs: ∀x,oi iter X.env x=pure x:=by intro _;rfl):PS X (.For l iter L [] pos) (CC wi g tb):=by
 intro a s σ H D I h;refine wpAny_For (bc (hi a s σ H _ I h) λv s1 h1=>bc h1 λNR s2 h2=>?_) hs;obtain ⟨it,Y,tn,J,H2,e,I2,T,tM,f2,W,⟨m0,w0⟩,turn⟩:=h2;subst e;have q: ∀ {E:Hp},(∀b∈Y,E b=none)-> ∀b∈Y,cQ X a E b:=λhn b p=>⟨hn b p,(f2 b p).2⟩
 refine codeAny_forLoop_any (λn s'=> ∃i w E,aA X a w E s'/\tn i s'.heap/\(∀b∈Y,E b=none)/\W i n w E) ?_ m0 ⟨0,σ,H2,I2,tM,λb p=>(f2 b p).1,w0⟩;rintro n s3 ⟨i,y,H3,I3,GU,GV,w3⟩;rcases turn i n y H3 w3 with ⟨stop,qn⟩| ⟨go,N,hN,step⟩
 . refine pS U (bc (T.done X rfl rfl rfl hc i a s3 y H3 X.xe I3 (q GV) GU stop) λr s4 j=>?_);obtain ⟨hr,I4⟩:=j;subst hr;exact sw ⟨y,H3,I4,qn⟩
 . refine pS U (bc (T.item X rfl rfl rfl hc i a s3 y H3 X.xe I3 (q GV) GU go) λr s4 j=>?_);obtain ⟨u,hr,h4⟩:=j;subst hr;refine pS U (bc h4 λ_ s5 j=>?_);obtain ⟨x,H5,I5,r5,y5,Q,CF⟩:=j;refine pS U (bc (hg _ s5 y H5 x u _ (I5.pinned (q CF) (T.obj _ _ Q)) r5 (step x H5 y5)) λ_ s6 j=>?_);obtain ⟨pT,H6,I6,q6⟩:=j;refine pS U (bc (p _ s6 pT H6 _ I6 q6) λf s7 O=>?_)
   have again: ∀ {c:St} {z:Hp},aA X (a++Vz Y s5.heap) c z s7->N c z-> ∃m,m<n/\ ∃i w E,aA X a w E s7/\tn i s7.heap/\(∀b∈Y,E b=none)/\W i m w E:=λ{c z} B n7=>by
    obtain ⟨m',hm,w7⟩:=hN c z n7;refine ⟨m',hm,i+1,c,z,B.eJ,T.keep _ _ _ Q λb p o e=>(B.pin (b,o) (nR _ (nR _ (Qc p e)))).1,λb p=>?_,w7⟩;obtain ⟨o,e,d⟩:=T.obj _ _ Q b p;exact (B.pin (b,o) (nR _ (nR _ (Qc p e)))).2.1
   cases f with
   |next=>obtain ⟨c,z,B,n7⟩:=O;exact again B n7
   |cont=>obtain ⟨c,z,B,n7⟩:=O;exact again B n7
   |brk=>obtain ⟨c,z,B,O⟩:=O;exact ⟨c,z,B.eJ,O⟩
   |ret v=>obtain ⟨x7,c,z,B,r7,O⟩:=O;exact ⟨x7,c,z,B.eJ,r7,O⟩
end
abbrev R2:=V->V->Hp->VK->Prop
def cp (X:Cx) (f:Value->Value->Sem Value) (r:R2):Prop:=
 ∀(a:List (Addr×Obj)) (s:aM) (c:St) (H:Hp) (x y:V) (v u:Value) (Q:VK),aA X a c H s->aK x v->aK y u->r x y H Q->
  wpAny (model X.prog X.w) X.A (f v u) (EP X a c Q) X.xe s
def CG (X:Cx) (f:Value->Sem Value) (r:V->Hp->VK->Prop):Prop:=
 ∀(a:List (Addr×Obj)) (s:aM) (c:St) (H:Hp) (x:V) (v:Value) (Q:VK),aA X a c H s->aK x v->r x H Q->
  wpAny (model X.prog X.w) X.A (f v) (EP X a c Q) X.xe s
def bK (X:Cx) (f:Value) (r:List V->Hp->VK->Prop):Prop:=
 ∀(a:List (Addr×Obj)) (s:aM) (c:St) (H:Hp) (d:List V) (e:List Value) (Q:VK),aA X a c H s->aI d e->r d H Q->
  wpAny (model X.prog X.w) X.A (call f e) (EP X a c Q) X.xe s
def CH (X:Cx) (r:V->Hp->(Bool->Hp->Prop)->Prop):Prop:=
 ∀(a:List (Addr×Obj)) (s:aM) (c:St) (H:Hp) (x:V) (v:Value) (Q:Bool->Hp->Prop),aA X a c H s->aK x v->r x H Q->
  wpAny (model X.prog X.w) X.A (truthy v) (TP X a c Q) X.xe s
def sx (r:R2) (c d:TE):TE:=λa H Q=>c a H λx e=>d a e λy h=>r x y h Q
def NS (r:V->Hp->VK->Prop) (a:TE):TE:=λc H Q=>a c H λx d=>r x d Q
def rI (C:Int->Int->Prop) (g:Int->Int->V):R2:=λx y H Q=> ∃i j,x= .int i/\y= .int j/\C i j/\Q (g i j) H
def j1 (g:Int->Int->V):R2:=λx y H Q=> ∃i j,x= .int i/\y= .int j/\Q (g i j) H
def rU (g:Int->V):V->Hp->VK->Prop:=λx H Q=> ∃i,x= .int i/\Q (g i) H
section
variable {X:Cx} {a b c:Expr} {Y U N:TE} {O:Pos}
def pU (p:PE X a Y) (q:PE X b U) {d:List (Addr×Obj)} {s:aM} {i:St} {H:Hp} {R:V->V->Hp->Prop} (I:aA X d i H s)
  (h:Y i H λx o=>U i o λy j=>R x y j) {Q:Vt} {f:Value->Value->Sem Value}
  (r: ∀v u n x y j,aA X d i j n->aK x v->aK y u->R x y j->wpAny (model X.prog X.w) X.A (f v u) Q X.xe n):
  wpAny (model X.prog X.w) X.A (eval a X.env) (λv l=>wpAny (model X.prog X.w) X.A (eval b X.env) (λu m=>wpAny (model X.prog X.w) X.A (f v u) Q X.xe m) X.xe l) X.xe s:=by
 refine bc (p d s i H _ I h) λv w e=>?_;obtain ⟨x,o,z,B,E⟩:=e
 refine bc (q d w i o _ z E) λu n e=>?_;obtain ⟨y,j,J,r2,L⟩:=e
 exact r v u n x y j J B r2 L
def CI {e:Operator} {r:R2} (i:cp X (gI e) r) (j:PE X a Y) (l:PE X b U):PE X (.BinOp a e b O) (sx r Y U):=by
 intro d s m H Q I h;exact wpAny_BinOp (pU j l I h λv u n x y o p w z q=>i d n m o x y v u Q p w z q)
def NT {e:UnaryOp} {r:V->Hp->VK->Prop} (j:CG X (unaryOp e) r) (l:PE X a Y):PE X (.UnaryOp e a O) (NS r Y):=by
 intro d s i H Q I h;exact UnaryOp_ (bc (l d s i H _ I h) λv m ⟨x,n,o,p,q⟩=>j d m i n x v Q o p q)
def tN {f:Value->Value->Sem Value} {C:Int->Int->Prop} {g:Int->Int->Int}
  (rule: ∀(i j:Int) (t u:Tok) (s:aM) (Q:Vt) (E:Vt),C i j->Q (.int (g i j) s.toks) {s with toks:=s.toks+1}->wpAny (model X.prog X.w) X.A (f (.int i t) (.int j u)) Q E s):
  cp X f (rI C λi j=> .int (g i j)):=by
 intro d s o H x y v u Q I e l h;obtain ⟨i,j,rfl,rfl,m,q⟩:=h;obtain ⟨t,rfl⟩:=e;obtain ⟨n,rfl⟩:=l;exact rule i j t n s _ _ m ⟨.int (g i j),H,I.tok _,⟨_,rfl⟩,q⟩
def tP {f:Value->Value->Sem Value} {g:Int->Int->Int}
  (rule: ∀(i j:Int) (t u:Tok) (s:aM) (Q:Vt) (E:Vt),Q (.int (g i j) s.toks) {s with toks:=s.toks+1}->wpAny (model X.prog X.w) X.A (f (.int i t) (.int j u)) Q E s):
  cp X f (j1 λi j=> .int (g i j)):=by
 intro d s n H x y v u Q I e l h;obtain ⟨i,j,rfl,rfl,q⟩:=h;obtain ⟨t,rfl⟩:=e;obtain ⟨m,rfl⟩:=l;exact rule i j t m s _ _ ⟨.int (g i j),H,I.tok _,⟨_,rfl⟩,q⟩
def oj {f:Value->Value->Sem Value} {g:Int->Int->Bool}
  (rule: ∀(i j:Int) (t u:Tok) (s:aM) (Q:Vt) (E:Vt),Q (.bool (g i j)) s->wpAny (model X.prog X.w) X.A (f (.int i t) (.int j u)) Q E s):
  cp X f (j1 λi j=> .bl (g i j)):=by
 intro d s n H x y v u Q I e l h;obtain ⟨i,j,rfl,rfl,q⟩:=h;obtain ⟨t,rfl⟩:=e;obtain ⟨m,rfl⟩:=l;exact rule i j t m s _ _ ⟨.bl (g i j),H,I,rfl,q⟩
def tQ (i j:Int):Prop:=0<j/\j<1073741824
def tR (i j:Int):Prop:=0<=j/\j<=1000000/\i.natAbs<2^64
def pV:cp X (gI .Add) (j1 λi j=> .int (i+j)):=tP λ_ _ _ _ _ _ _ q=>add_int q
def VE:cp X (gI .Sub) (j1 λi j=> .int (i-j)):=tP λ_ _ _ _ _ _ _ q=>sub_int q
def Xn:cp X (gI .FloorDiv) (rI tQ λi j=> .int (i/j)):=tN λi j _ _ _ _ _ d q=>by
 have e:=d.1;have h:=d.2;exact floordiv_int (by omega) (by rw [Int.fdiv_eq_ediv_of_nonneg i (by omega)];exact q) (.inl (PyProof.noPylong_small (by omega)))
def Zf:cp X (gI .Mod) (rI (λ_ j=>0<j) λi j=> .int (i%j)):=tN λi j _ _ _ _ _ d q=>by
 exact mod_int' (by omega) (by rw [Int.fmod_eq_emod_of_nonneg i (by omega)];exact q)
def NU:cp X (gI .Pow) (rI tR λi j=> .int (i^j.toNat)):=tN λ_ _ _ _ _ _ _ d q=>pow_int_small d.1 d.2.1 d.2.2 q
def NV {f:Value->Sem Value} {g:Int->Int}
  (rule: ∀(i:Int) (t:Tok) (s:aM) (Q:Vt) (E:Vt),Q (.int (g i) s.toks) {s with toks:=s.toks+1}->wpAny (model X.prog X.w) X.A (f (.int i t)) Q E s):
  CG X f (rU λi=> .int (g i)):=by
 intro d s j H x v Q I e h;obtain ⟨i,rfl,q⟩:=h;obtain ⟨t,rfl⟩:=e;exact rule i t s _ _ ⟨.int (g i),H,I.tok _,⟨_,rfl⟩,q⟩
def NW:CG X (unaryOp .USub) (rU λi=> .int (-i)):=NV λ_ _ _ _ _ q=>neg_int q
def CJ {d:List (Addr×Obj)} {h:St} {H:Hp} {s:aM} {Q:VK} {k i:Bool} (I:aA X d h H s) (q:Q (.bl k) H) (e:k=i):EP X d h Q (.bool i) s:=by
 subst e;exact ⟨.bl k,H,I,rfl,q⟩
def tU:cp X (eR .Lt) (j1 λi j=> .bl (decide (i<j))):=oj λ_ _ _ _ _ _ _ q=>lt_int q
def VF:cp X (eR .LtE) (j1 λi j=> .bl (decide (i<=j))):=oj λ_ _ _ _ _ _ _ q=>le_int q
def VG:cp X (eR .Gt) (j1 λi j=> .bl (decide (j<i))):=oj λ_ _ _ _ _ _ _ q=>gt_int q
def NX:cp X (eR .GtE) (j1 λi j=> .bl (decide (j<=i))):=oj λ_ _ _ _ _ _ _ q=>ge_int q
def NY:cp X (eR .In) (λx y H Q=> ∃i j,x= .str i/\y= .str j/\Q (.bl (!(CK j i 0 j.length 1).isEmpty)) H):=by
 intro d s m H x y v u Q I e l h;obtain ⟨i,j,rfl,rfl,q⟩:=h;obtain ⟨t,rfl⟩:=e;obtain ⟨n,rfl⟩:=l;exact in_str (CJ I q rfl)
def NZ:cp X (eR .Is) (λx y H Q=>y= .aU/\Q (.bl (decide (x= .aU))) H):=by
 intro d s j H x y v u Q I e i h;obtain ⟨rfl,q⟩:=h;cases i;refine is_none_gen (CJ I q ?_)
 cases x<;>first
  | (cases e;rfl)
  | (obtain ⟨t,rfl⟩:=e;rfl)
def N0:cp X (eR .IsNot) (λx y H Q=>y= .aU/\Q (.bl (!decide (x= .aU))) H):=by
 intro d s j H x y v u Q I e i h;obtain ⟨rfl,q⟩:=h;cases i;refine isnot_none_gen (CJ I q ?_)
 cases x<;>first
  | (cases e;rfl)
  | (obtain ⟨t,rfl⟩:=e;rfl)
def cp.or {f:Value->Value->Sem Value} {r e:R2} (h:cp X f r) (m:cp X f e):cp X f (λx y H Q=>r x y H Q\/e x y H Q):=by
 intro d s i H x y v u Q I j l q;rcases q with q|q
 . exact h d s i H x y v u Q I j l q
 . exact m d s i H x y v u Q I j l q
def CL (b:Expr) {d:CmpOp} (h:d≠ .In:=by decide) (e:d≠ .NotIn:=by decide):pW d b=false:=by
 have e1:(d==CmpOp.In)=false:=by cases d<;>first|rfl|exact absurd rfl h
 have e2:(d==CmpOp.NotIn)=false:=by cases d<;>first|rfl|exact absurd rfl e
 cases b<;>simp [pW,e1,e2]
def GW {e:CmpOp} {r:R2} (i:cp X (eR e) r) (j:PE X a Y) (l:PE X b U) (m:pW e b=false):PE X (.Compare a [e] [b] O) (sx r Y U):=by
 intro d s n H Q I h;exact wpAny_Compare1 (pU j l I h λv u o x y p w z B q=>i d o n p x y v u Q w z B q) m
def CM (t:TE):TT:=λd H Q=>t d H λx e=> ∃k,x= .bl k/\Q k e
def N1 {i:CmpOp} {r:R2} (l:cp X (eR i) r) (m:PE X a Y) (n:PE X b U) (o:pW i b=false):PT X (.Compare a [i] [b] O) (CM (sx r Y U)):=by
 intro d s j H Q I h
 refine wpAny_isTrue_Compare1 (bc (m d s j H _ I h) λv p ⟨x,q,w,B,E⟩=>bc (n d p j q _ w E) λu J ⟨y,L,I2,r2,q2⟩=>
  bc (l d J j L x y v u _ I2 B r2 q2) λc s3 ⟨z,H3,I3,r3,k,e,q3⟩=>?_) o
 subst e;cases r3;exact og ⟨H3,I3,q3⟩
def CN (r h:R2) (Y U N:TE):TE:=λd H Q=>Y d H λx i=>U d i λy j=>r x y j λz e=> ∃k,z= .bl k/\
 (if k=true then N d e λl m=>h y l m Q else Q (.bl false) e)
def N2 {m j:CmpOp} {r o:R2} (B:cp X (eR m) r) (n:cp X (eR j) o) (E:PE X a Y) (J:PE X b U) (L:PE X c N)
  (hm:lastMarks [m,j] [b,c]=false:=by with_unfolding_all rfl):PE X (.Compare a [m,j] [b,c] O) (CN r o Y U N):=by
 intro i s l H Q I h
 refine Compare_chain (bc (E i s l H _ I h) λv s1 ⟨x,H1,I1,r1,q1⟩=>chain_link (bc (J i s1 l H1 _ I1 q1) λu s2 ⟨y,H2,I2,r2,q2⟩=>
  bc (B i s2 l H2 x y v u _ I2 r1 r2 q2) λd s3 ⟨z,p,q,r3,k,e,w⟩=>?_)) hm
 subst e;cases r3;refine og ?_
 cases k with
 |false=>exact ite_ff ⟨.bl false,p,q,rfl,w⟩
 |true=>exact ite_tt (chain_last (bc (L i s3 l p _ q w) λw' s4 ⟨z',H4,I4,r4,q4⟩=>n i s4 l H4 y z' u w' Q I4 r2 r4 q4))
def N3 {m j:CmpOp} {r p:R2} (E:cp X (eR m) r) (n:cp X (eR j) p) (J:PE X a Y) (L:PE X b U) (hc:PE X c N)
  (hm:lastMarks [m,j] [b,c]=false:=by with_unfolding_all rfl):PT X (.Compare a [m,j] [b,c] O) (CM (CN r p Y U N)):=by
 intro i s l H Q I h
 refine isTrue_chain (bc (J i s l H _ I h) λv s1 ⟨x,H1,I1,r1,q1⟩=>test_link (bc (L i s1 l H1 _ I1 q1) λu s2 ⟨y,H2,I2,r2,q2⟩=>
  bc (E i s2 l H2 x y v u _ I2 r1 r2 q2) λd s3 ⟨z,q,w,r3,k,e,B⟩=>?_)) hm
 subst e;cases r3;refine og ?_
 cases k with
 |false=>
  obtain ⟨k',e',q'⟩:=B;cases e';exact ite_ff ⟨q,w,q'⟩
 |true=>
  refine ite_tt (test_last (bc (hc i s3 l q _ w B) λw' s4 ⟨z',H4,I4,r4,q4⟩=>bc (n i s4 l H4 y z' u w' _ I4 r2 r4 q4) λd' s5 o=>?_));obtain ⟨z2,H5,I5,r5,k2,e2,q5⟩:=o;subst e2;cases r5;exact og ⟨H5,I5,q5⟩
def pX (K:aC) (x:V) (H:Hp) (k:Bool):Prop:=
 match x with
 | .aU=>k=false
 | .bl b=>k=b
 | .int i=>k=(i !=0)
 | .str y=>y.length<=aS/\k=((y.length:Int) !=0)
 | .sr y=>y.size<=aS/\k=((y.size:Int) !=0)
 | .ref p=>(∃d,da K H p d/\k=!d.isEmpty)\/(∃d,ee K H p d/\k=!d.isEmpty)\/ ∃e,H p=some (.dK e)/\k=!e.isEmpty
 |_=>False
def N4 {e:Type} {d:List (e×V)} {h:List (e×Value)} (r:KV d h):(!h.isEmpty)=!d.isEmpty:=by
 cases r<;>rfl
def YG {e:List V} {d:List Value} (r:aI e d):(!d.toArray.isEmpty)=!e.isEmpty:=by
 cases r<;>simp
def YC:(aS:Nat)<2^63:=by rw [ol];decide
def N5:CH X (λx H Q=> ∃k,pX X.K x H k/\Q k H):=by
 intro B s σ H x v Q I l h;obtain ⟨k,e,q⟩:=h;have hs:=ol
 cases x with
 |aU=>
  cases l;have d:=e;subst d;exact truthy_none ⟨H,I,q⟩
 |bl b=>
  cases l;have d:=e;subst d;exact og ⟨H,I,q⟩
 |int i=>
  obtain ⟨t,rfl⟩:=l;have d:=e;subst d;exact PySem.P.truthy_int ⟨H,I,q⟩
 |str y=>
  obtain ⟨t,rfl⟩:=l;obtain ⟨J,d⟩:y.length<=aS/\k=((y.length:Int) !=0):=e;subst d;exact PySem.P.truthy_str (by omega) ⟨H,I.tok _,q⟩
 |sr y=>
  obtain ⟨t,rfl⟩:=l;obtain ⟨J,d⟩:y.size<=aS/\k=((y.size:Int) !=0):=e;subst d;exact PySem.W.truthy_bytes (by omega) ⟨H,I.tok _,q⟩
 |ref p=>
  cases l;have d:=e;rcases d with ⟨L,n,d⟩| ⟨L,n,d⟩| ⟨o,n,d⟩
  . subst d;obtain ⟨u,r,w,E⟩:=I.list n;have j:=r.length;exact wpAny_truthy_list w.isList (by simp only [b7];omega) ⟨H,I.tok _,by rw [YG r];exact q⟩
  . subst d;obtain ⟨u,r,w,E⟩:=I.tuple n;have j:=r.length;exact truthy_tuple w (by simp only [b7];omega) ⟨H,I.tok _,by rw [YG r];exact q⟩
  . subst d;obtain ⟨E,hS,z,r,m⟩:o.length<=aS/\(p==lY)=false/\ ∃z,KV o z/\s.heap.DictOf (qw X.prog X.w) p z:=I.aY p _ n;have j:=AE r;exact wpAny_truthy_dict hS m (by omega) ⟨H,I.tok _,by rw [N4 r];exact q⟩
 |_=>exact (e).elim
def N6 (j:PE X a Y) (l: ∀whole,mH a X.env whole=(do let v<-whole;iJ a.pos;gq [v] (truthy v))):
  PT X a (λe H Q=>Y e H λx i=> ∃k,pX X.K x i k/\Q k i):=by
 intro d s e H Q I h;exact isTrue_plain (bc (j d s e H _ I h) λv m ⟨x,n,o,p,q⟩=>N5 d m e n x v Q o p q) (l _)
def kv:cp X (gI .Add) (λx y H Q=> ∃i j,x= .str i/\y= .str j/\i.length+j.length<=aS/\Q (.str (i++j)) H):=by
 intro d s o H x y v u Q I e l h;obtain ⟨i,j,rfl,rfl,m,q⟩:=h;obtain ⟨t,rfl⟩:=e;obtain ⟨n,rfl⟩:=l;exact add_str (λn tk=>⟨.str (i++j),H,I.tok _,⟨_,rfl⟩,q⟩) m
def ZK {x:V} {d:List Value} (r:aI [x] d): ∃u,d=[u]/\aK x u:=by
 cases r with
 |cons e r2=>cases r2;exact ⟨_,rfl,e⟩
def CO {x y:V} {d:List Value} (r:aI [x,y] d): ∃u e,d=[u,e]/\aK x u/\aK y e:=by
 cases r with
 |cons h r2=>
  cases r2 with
  |cons r3 i=>cases i;exact ⟨_,_,rfl,h,r3⟩
end
structure la (h:Heap) (x dx C:Addr) (mA:W0):Prop where
 obj:h.get? x=some (oY C dx)
 ns:h.Ns1 dx mA
 ne:dx≠x
def N7 {h:Heap} {dx:Addr} {d:W0} (n:h.Ns1 dx d): ∃i,h.get? dx=some i/\ ∀name,AM name i=some (d name):=by
 obtain ⟨o,j,w,l,m,p,_,r⟩:=n;refine ⟨o,l,λname=>?_⟩;have e:=r name;unfold nsFind findBy at e;rw [<-Array.find?_toList] at e;unfold AM;rw [m];dsimp only
 split
 . rename_i y q;rw [q] at e;exact congrArg some e
 . rename_i q;rw [q] at e
   have a:j.toList.any (·.refKey)=false:=by
    rw [List.any_eq_false];intro y u;obtain ⟨z,t,c⟩:=p y (CP.mp u);simp [DictEntry.refKey,c]
   have v: ¬j.toList.any (·.refKey)=true:=by rw [a];exact eh
   rw [if_neg v];exact congrArg some e
def la.look {h:Heap} {x dx C:Addr} {c:W0} (I:la h x dx C c): ∃a,PySem.W.InstAt h x (oY C dx) C (some a)/\ ∀name,AM name a=some (c name):=
 let ⟨a,d,hl⟩:=N7 I.ns
 ⟨a,⟨I.obj,rfl,rfl,d⟩,hl⟩
section
variable {prog:bH} {w:World} {A:bQ} {E:Vt} {s:aM} {K:aC} {x dx C f:Addr} {mA:W0} {name:Str} {v:Value}
def N8 {a:Bool} {Q:Vt} (X:K.In s.heap) (I:la s.heap x dx C mA) (d:tV K C name=true) (e:AN K C=true)
  (i:lb K (.ref C) name=some none) (j:mA name=some v) (c:PySem.W.handedIn v=true) (h:Q v {s with toks:=s.toks+1}):
  wpAny (model prog w) A (getAttr (.ref x) name a) Q E s:=by
 obtain ⟨m,J,l⟩:=I.look;exact PySem.W.get_value X J (CQ d).1 (PySem.W.findObj_own e i rfl (by rw [l,j])) c h
def N9 {c:Sem Bool} {Q:Value×List Value->aM->Prop} (X:K.In s.heap) (I:la s.heap x dx C mA) (a:tV K C name=true)
  (d:lb K (.ref C) name=some (some (.ref f))) (e:tW K (.ref f)=true) (i:mA name=none) (h:Q (.ref f,[.ref x]) s):
  wpAny (model prog w) A (o5 (.ref x) name c) Q E s:=by
 obtain ⟨j,J,l⟩:=I.look;exact PySem.W.method_fn X J (CQ a).1 (CQ a).2 d (beq_iff_eq.mp e) (by show (AM name j).map (·.isSome)=some false;rw [l,i];rfl) h
def Oa {l:List Str} {Q:Unit->aM->Prop} (X:K.In s.heap) (I:la s.heap x dx C mA)
  (m:lb K (.ref C) "__setattr__" =some (some (.builtin "object.__setattr__"))) (n:CS K C=true) (o:CU K C name=some none) (p:AN K C=true)
  (hw:PySem.Within mA l) (q:l.length<=aS)
  (h: ∀d,la d x dx C (λy=>if y=name then some v else mA y)->pO dx s.heap d->Q () {s with heap:=d,toks:=s.toks+2}):
  wpAny (model prog w) A (setAttr (.ref x) name v) Q E s:=by
 obtain ⟨B,J,H⟩:=I.look;refine PySem.W.set_plain X J m (PySem.W.osa_open X J n o λb=>?_);obtain ⟨L,r,e⟩:=PySem.W.any_some p;refine az (ba (az (az (wpAny_loadPart (I.obj) (az (PySem.W.Looks.here (PySem.W.looks_clsIn X r) ?_))))));rw [e];refine ba (az (ba (az ?_)));refine wpAny_nsSet1 I.ns λd a c=>?_
 obtain ⟨N,u,z,i,o6,j⟩:=a.count (PySem.Within.cons name v hw);refine az (wpAny_lookBehind i (by rw [o6];exact pastItsLine_dict (cY j (by rw [bO];omega))) ?_);exact ba (h _ ⟨(c.2 _ (iH I.ne)).trans I.obj,a,I.ne⟩ c)
def Ob {R:Result->aM->Prop} {a:List Value} {c:List (Str×Value)} (X:K.In s.heap) (e:tX K C=true)
  (i:lb K (.ref C) "__init__" =some (some (.ref f))) (j:PySem.W.typeIn K (.ref f)=some (.type "function"))
  (h:om (model prog w) (A.under (.builtin "type.__call__" ⟨.ref C::a,c⟩)) (.call (.ref f) ⟨.ref (s.heap.objs.size+1)::a,c⟩) (PySem.W.InitBack (s.heap.objs.size+1) R)
   {s with heap:=(s.heap.push o7).push (oY C s.heap.objs.size)}):
  om (model prog w) A (.call (.ref C) ⟨a,c⟩) R s:=by
 obtain ⟨l,g,d,t,os⟩:=s;exact PySem.W.make_core (PySem.W.makes_of X e) (PySem.W.looks_findIn X i) (λself=>PySem.W.bind_fn X self j) (.inl rfl) h
end
def cK (f:Str) (v:V):List (Str×V)->List (Str×V)
 | []=>[(f,v)]
 | (g,x)::r=>if g=f then (g,v)::r else (g,x)::cK f v r
theorem Xu (f g:Str) (v:V): ∀fs:List (Str×V),(cK f v fs).lookup g=if g=f then some v else fs.lookup g
 | []=>by
  show gJ g [(f,v)]=_
  by_cases h:g=f
  . have a:=beq_iff_eq.mpr h;simp only [gJ,a,if_pos h]
  . have a:=beq_eq_false_iff_ne.mpr h;simp only [gJ,a,if_neg h]
 | (k,x)::r=>by
  rw [show cK f v ((k,x)::r)=(if k=f then (k,v)::r else (k,x)::cK f v r) from rfl]
  by_cases c:k=f
  . rw [if_pos c]
    by_cases h:g=k
    . have a:=beq_iff_eq.mpr h;simp only [gJ,a,if_pos (h.trans c)]
    . have a:=beq_eq_false_iff_ne.mpr h;simp only [gJ,a,if_neg (λe:g=f=>h (e.trans c.symm))]
  . rw [if_neg c]
    by_cases h:g=k
    . have a:=beq_iff_eq.mpr h;simp only [gJ,a,if_neg (λe:g=f=>c (h.symm.trans e))]
    . have a:=beq_eq_false_iff_ne.mpr h;simp only [gJ,a];exact (Xu f g v r)
theorem Xw (f:Str) (v:V): ∀fs:List (Str×V),f∈(cK f v fs).map (·.1)/\ ∀g,g∈fs.map (·.1)->g∈(cK f v fs).map (·.1)
 | []=>⟨by simp [cK],λg h=>by simp at h⟩
 | (k,x)::r=>by
  obtain ⟨c,d⟩:=Xw f v r;rw [show cK f v ((k,x)::r)=(if k=f then (k,v)::r else (k,x)::cK f v r) from rfl]
  by_cases a:k=f
  . rw [if_pos a];subst a;exact ⟨by simp,λg h=>by simpa using h⟩
  . rw [if_neg a];refine ⟨?_,λg h=>?_⟩
    . rw [cL];exact fM _ c
    . rw [cL] at h ⊢;rcases bJ.mp h with e|e
      . exact bJ.mpr (.inl e)
      . exact fM _ (d g e)
theorem Xv (f:Str) (v:V): ∀fs:List (Str×V),(cK f v fs).length<=fs.length+1
 | []=>by simp [cK]
 | (k,x)::r=>by
  have c:=Xv f v r;rw [show cK f v ((k,x)::r)=(if k=f then (k,v)::r else (k,x)::cK f v r) from rfl]
  by_cases a:k=f
  . rw [if_pos a,bO,bO];omega
  . rw [if_neg a,bO,bO];omega
def dr.some_of {v:V} {o:Option Value} (r:dr (some v) o): ∃u,o=some u/\aK v u:=by
 cases o with
 |none=>exact (r).elim
 |some u=>exact ⟨u,rfl,r⟩
def dr.none_of {o:Option Value} (r:dr none o):o=none:=by
 cases o with
 |none=>rfl
 |some u=>exact (r).elim
def Oc {v:V} {u:Value} (r:aK v u):PySem.W.handedIn u=true:=by
 cases v with
 |aU=>cases (r);rfl
 |bl b=>cases (r);rfl
 |int i=>obtain ⟨t,e⟩:=(r);cases e;rfl
 |str x=>obtain ⟨t,e⟩:=(r);cases e;rfl
 |sr b=>obtain ⟨t,e⟩:=(r);cases e;rfl
 |mV b=>obtain ⟨t,e⟩:=(r);cases e;rfl
 |ref a=>cases (r);rfl
 |ty n=>cases (r);rfl
section
variable {P:bH} {w:World} {H H':Hp} {h h':Heap} {a C dx:Addr} {fs Ng:List (Str×V)}
def KI (i:dJ P w H h) (e:H a=some (.ins C dx fs)): ∃c,la h a dx C c/\(∀f,dr (fs.lookup f) (c f))/\PySem.Within c (fs.map (·.1))/\fs.length<=1000/\H dx=some (.aw a):=by
 obtain ⟨d,z,ne,ob,c,n,r,q⟩:=(i a _ e)
 exact ⟨c,⟨ob,n,ne⟩,r,q,z,d⟩
end
structure fm (K:aC) (C:Addr):Prop where
 pg:tV K C Str.empty=true
 hd:AN K C=true
 po:CS K C=true
 sa:lb K (.ref C) "__setattr__" =some (some (.builtin "object.__setattr__"))
def fm.get {K:aC} {C:Addr} (c:fm K C) (f:Str):tV K C f=true:=c.pg
def dC (K:aC) (C:Addr) (f:Str):Prop:=lb K (.ref C) f=some none
def dC.tY {K:aC} {C:Addr} {f:Str} (n:dC K C f):CU K C f=some none:=by
 unfold CU;rw [show lb K (.ref C) f=some none from n];rfl
structure Meth (K:aC) (C:Addr) (m:Str) (f:Addr):Prop where
 at_:lb K (.ref C) m=some (some (.ref f))
 fn:tW K (.ref f)=true
 kp:gj K (.ref f)=true
section
variable {X:Cx} {pins:List (Addr×Obj)} {σ:St} {H:Hp} {s:aM} {a C dx:Addr} {fs:List (Str×V)} {f:Str} {v:V} {A:bQ} {E:Vt}
def Od {b:Bool} {Q:Vt} (I:aA X pins σ H s) (e:H a=some (.ins C dx fs)) (c:fm X.K C) (n:dC X.K C f) (l:fs.lookup f=some v)
  (h: ∀u d,aA X pins σ H d->aK v u->Q u d):wpAny (model X.prog X.w) A (getAttr (.ref a) f b) Q E s:=by
 obtain ⟨m,O,r,_,_,_⟩:=KI I.aY e;obtain ⟨u,j,i⟩:=dr.some_of (by rw [<-l];exact r f);exact N8 I.dP O (c.get f) c.hd n j (Oc i) (h u _ (I.tok _) i)
def Wb {m:Str} {g:Addr} {d:Sem Bool} {Q:Value×List Value->aM->Prop} (I:aA X pins σ H s) (e:H a=some (.ins C dx fs)) (c:fm X.K C) (k:Meth X.K C m g) (l:fs.lookup m=none)
  (h:Q (.ref g,[.ref a]) s):wpAny (model X.prog X.w) A (o5 (.ref a) m d) Q E s:=by
 obtain ⟨i,O,r,_,_,_⟩:=KI I.aY e;exact N9 I.dP O (c.get m) k.at_ k.fn (dr.none_of (by rw [<-l];exact r m)) h
def u6 {y:V} {u:Value} {Q:Unit->aM->Prop} (I:aA X pins σ H s) (e:H a=some (.ins C dx fs)) (c:fm X.K C) (n:dC X.K C f) (hl:fs.length<1000) (p:aK y u)
   (h: ∀i,aA X pins σ (aR H a (.ins C dx (cK f y fs))) i->Q () i):wpAny (model X.prog X.w) A (setAttr (.ref a) f u) Q E s:=by
 obtain ⟨j,O,r,l,_,m⟩:=KI I.aY e;have w:(fs.map (·.1)).length<=aS:=by rw [dc,ol];omega
 refine Oa I.dP O c.sa c.po n.tY c.hd l w λB d J=>h _ ?_
 have L: ∃o,B.get? dx=some o:=let ⟨o,_,_,N,_⟩:=d.ns;⟨o,N⟩
 refine I.write (by rw [e];exact lN) (.inr m) (λb q U z=>(J.2 b U).trans z) L ?_;refine ⟨by rw [j3 O.ne];exact m,?_,O.ne,d.obj,_,d.ns,λg=>?_,λg Y=>?_⟩
 . have:=Xv f y fs;omega
 . show dr ((cK f y fs).lookup g) (if g=f then some u else j g);rw [Xu]
   by_cases q:g=f
   . rw [if_pos q,if_pos q];exact p
   . rw [if_neg q,if_neg q];exact r g
 . by_cases q:g=f
   . rw [q];exact (Xw f y fs).1
   . refine (Xw f y fs).2 g (l g λz=>Y ?_);show (if g=f then some u else j g)=none;rw [if_neg q];exact z
def aA.made (I:aA X pins σ H s):aA X pins σ (aR (aR H s.heap.objs.size (.aw (s.heap.objs.size+1))) (s.heap.objs.size+1) (.ins C s.heap.objs.size []))
  {s with heap:=(s.heap.push o7).push (oY C s.heap.objs.size)}:=by
 have e1:(s.heap.push o7).get? s.heap.objs.size=some o7:=dn s.heap rfl
 have e2:((s.heap.push o7).push (oY C s.heap.objs.size)).get? (s.heap.objs.size+1)=some (oY C s.heap.objs.size):=by
  have:=dn (s.heap.push o7) (o:=oY C s.heap.objs.size) rfl
  rwa [oo] at this
 have c:(s.heap.push o7).Ns s.heap.objs.size (λ_=>none):=⟨o7, #[],_,e1,rfl,(λe d=>absurd d (by simp)),λ_=>rfl⟩
 refine (I.laid (o:= .aw (s.heap.objs.size+1)) (t':=s.toks) (λb u q=>bW _ q) (br _) ⟨_,e1⟩).laid (λb u q=>bW _ q) (AO (oo _ _)) ?_;have ne:s.heap.objs.size≠s.heap.objs.size+1:=eB (tZ _);refine ⟨by rw [j3 ne,jD],gl _,ne,e2,λ_=>none,(Heap.Ns1.of_empty c).at λo q=>bW _ q,λ_=>lN,λy h=>absurd rfl h⟩
def Oe {c:bH} {w:World} {d:Env} {e:Expr} {f:Str} {j:Pos} {s:aM} {Q:Vt} (l:l7 e f d (eval e d)=eval e d)
  (h:wpAny (model c w) A (eval e d) (λo i=>wpAny (model c w) A (getAttr o f true) Q E i) E s):wpAny (model c w) A (eval (.Attribute e f j) d) Q E s:=
 Attribute_any_ h (by rw [arm_eval_Attribute,l])
end
def CV (K:aC) (d:TE) (f:Str):TE:=λe H Q=>d e H λx c=> ∃a C dx fs v,x= .ref a/\c a=some (.ins C dx fs)/\fm K C/\dC K C f/\fs.lookup f=some v/\Q v c
def CW (K:aC) (e h:TE) (f:Str):TS:=λD c H=>h c H λy i=>e c i λx d=> ∃a C dx fs,x= .ref a/\d a=some (.ins C dx fs)/\fm K C/\dC K C f/\fs.length<1000/\
 D.nx c (aR d a (.ins C dx (cK f y fs)))
section
variable {X:Cx} {o e value:Expr} {f:Str} {pos pos' gt:Pos} {ta tv:TE}
def Of (j:PE X e ta) (m:l7 e f X.env (eval e X.env)=eval e X.env):PE X (.Attribute e f pos) (CV X.K ta f):=by
 intro d s p H Q I h;refine Oe m (bc (j d s p H _ I h) λu L i=>?_);obtain ⟨x,r,w,y,a,C,dx,fs,v,z,B,c,n,l,q⟩:=i;subst z;obtain rfl:u=di a:=y;exact Od w B c n l λN O E J=>⟨v,r,E,J,q⟩
def Og (m:PE X o ta) (p:PE X value tv) (r:g8 value (some (.Attribute o f pos')) pos.line X.env=pure false):PS X (.Assign [.Attribute o f pos'] value pos) (CW X.K ta tv f):=by
 intro d s i H D I h;refine plainObj_wpAny_Assign_Attribute (bc (p d s i H _ I h) λu v ⟨y,w,z,B,q⟩=>bc (m d v i w _ z q) λE Y j=>?_) r;obtain ⟨x,H2,J,L,a,C,dx,fs,N,O,c,n,l,Q⟩:=j;subst N;obtain rfl:E=di a:=L;exact u6 J O c n l B λs3 U=>⟨i,_,U,Q⟩
end
section
variable {X:Cx} {pins:List (Addr×Obj)} {σ:St} {H:Hp} {s:aM} {A:bQ} {E:Vt} {Q:Vt} {c:Value} {b:Bool}
inductive eS (K:aC) (H:Hp):V->Value->Prop where
 |aU:eS K H .aU (.type "NoneType")
 |bl (x:Bool):eS K H (.bl x) (.type "bool")
 |int (i:Int):eS K H (.int i) (.type "int")
 |str (x:Str):eS K H (.str x) (.type "str")
 |mV (x:UInt64):eS K H (.mV x) (.type "float")
 |ai {a:Addr} {xs:List V} (e:H a=some (.ai xs)):eS K H (.ref a) (.type "list")
 |cJ {a:Addr} {o:Obj} {xs:List V} (e:H a=some (.cJ o (.ai xs))):eS K H (.ref a) (.type "list")
 |ak {a:Addr} {xs:List V} (e:H a=some (.ak xs)):eS K H (.ref a) (.type "tuple")
 |dK {a:Addr} {dN:List (aQ×V)} (e:H a=some (.dK dN)):eS K H (.ref a) (.type "dict")
 |dT {a:Addr} {dN:List (List aQ×V)} (e:H a=some (.dT dN)):eS K H (.ref a) (.type "dict")
 |ins {a C dx:Addr} {fs:List (Str×V)} (e:H a=some (.ins C dx fs)) (cl:fm K C) (ha:lb K (.ref C) "__class__" =some (some (.builtin "object.__class__")))
  (hn:PySem.W.specialIn K (.builtin "object.__class__") "__get__" =some (some (.builtin "getset_descriptor.__get__"))) (htk:PySem.W.takesIn K (.builtin "object.__class__")=some true)
  (hm:PySem.W.mroIn K C (.type "object")=some true):eS K H (.ref a) (.ref C)
def Oh {x:V} {u t:Value} (I:aA X pins σ H s) (d:aK x u) (L:eS X.K H x t) (e:op X.K t c=some b) (h: ∀tk,Q (.bool b) {s with toks:=tk}):
  wpAny (model X.prog X.w) A (call (.builtin "isinstance") [u,c]) Q E s:=by
 cases L with
 |aU=>cases (d);exact mZ PySem.W.kitx_none I.dP lN e (λz=>nomatch z) h
 |bl y=>cases (d);exact mZ PySem.W.kitx_bool I.dP lN e (λz=>nomatch z) h
 |int i=>obtain ⟨t,q⟩:=(d);cases q;exact mZ PySem.W.kitx_int I.dP lN e (λz=>nomatch z) h
 |str y=>obtain ⟨t,q⟩:=(d);cases q;exact mZ PySem.W.kitx_str I.dP lN e (λz=>nomatch z) h
 |mV y=>obtain ⟨t,q⟩:=(d);cases q;exact mZ PySem.W.kitx_float I.dP lN e (λz=>nomatch z) h
 | @ai a r j=>
  cases (d);obtain ⟨_,_,n,_,l⟩:=(I.aY a _ j)
  exact mZ PySem.W.kitx_list I.dP ⟨_,l,rfl⟩ e (λz=>nomatch z) h
 | @cJ a ob r j=>
  cases (d);obtain ⟨_,_,_,n,_,l⟩:=(I.aY a _ j)
  exact mZ PySem.W.kitx_list I.dP ⟨_,l,rfl⟩ e (λz=>nomatch z) h
 | @ak a r j=>
  cases (d);obtain ⟨_,_,_,p⟩:=(I.aY a _ j)
  obtain ⟨o,l,m,_⟩:=p;exact mZ PySem.W.kitx_tuple I.dP ⟨o,l,m⟩ e (λz=>nomatch z) h
 | @dK a v j=>
  cases (d);obtain ⟨_,_,vs,_,p⟩:=(I.aY a _ j)
  obtain ⟨o,N,U,l,m,_⟩:=p;exact mZ PySem.W.kitx_dict I.dP ⟨o,l,m.1⟩ e (λz=>nomatch z) h
 | @dT a v j=>
  cases (d);obtain ⟨_,_,r,_,o,N,U,l,m,_⟩:=(I.aY a _ j)
  exact mZ PySem.W.kitx_dict I.dP ⟨o,l,m.1⟩ e (λz=>nomatch z) h
 | @ins a C dx fs j B Y hn w hm=>
  cases (d);obtain ⟨mA,O,_⟩:=KI I.aY j;obtain ⟨od,J,_⟩:=O.look;exact mZ (PySem.W.kitx_own (B.get _) B.hd Y hn w hm) I.dP J e (λz=>nomatch z) h
end
structure aE (k:Nat) (A:bQ):Prop where
 hd:A.handled=none
 dp:A.depth+3*k+5<recursionLimit
 un:A.units+16*k+200<cLine
def aE.mono {j k:Nat} {A:bQ} (r:aE k A) (h:j<=k):aE j A:=⟨r.hd,by have:=r.dp;omega,by have:=r.un;omega⟩
def aE.deeper {k:Nat} {A:bQ} (r:aE (k+1) A) (env:Env):aE k (A.deeper env):=
 ⟨r.hd,by have:=r.dp;show A.depth+1+3*k+5<_;omega,by have:=r.un;show A.units+3+16*k+200<_;omega⟩
def Oi {A:bQ} {C:Addr} {a:List Value} {c:List (Str×Value)}:(A.under (.builtin "type.__call__" ⟨.ref C::a,c⟩)).depth=A.depth+1:=by
 first|rfl|simp [Around.under,Code.weight,Code.isCreation,Code.isGuard,Code.isCaller,Code.frames,Code.isFrame,guardIds]
def Oj {A:bQ} {C:Addr} {a:List Value} {c:List (Str×Value)}:(A.under (.builtin "type.__call__" ⟨.ref C::a,c⟩)).units=A.units+1:=by
 first|rfl|simp [Around.under,Code.cUnits,Code.frames,Code.isFrame]
def aE.make {k:Nat} {A:bQ} (r:aE (k+1) A) (C:Addr) (a:List Value) (c:List (Str×Value)):aE k (A.under (.builtin "type.__call__" ⟨.ref C::a,c⟩)):=
 ⟨r.hd,by have:=r.dp;rw [Oi];omega,by have:=r.un;rw [Oj];omega⟩
def aE.depth {k:Nat} {A:bQ} (r:aE k A):A.depth<recursionLimit:=by have:=r.dp;omega
def aE.units {k:Nat} {A:bQ} (r:aE k A):A.units+64<cLine:=by have:=r.un;omega
def pY:TA:=λ_ H Q=>Q [] H
def GX (c:TE) (d:TA):TA:=λa H Q=>c a H λx e=>d a e λh i=>Q (x::h) i
section
variable {X:Cx} {e:Expr} {es:List Expr} {te:TE} {t:TA} {pos:Pos}
def wF:PA X [] pY:=λ_ _ _ _ H Q I h=>AQ ⟨[],H,I,.nil,h⟩
def j8 (i:PE X e te) (j:PA X es t) (l:Vs X e es:=by rfl):PA X (e::es) (GX te t):=by
 intro pos a s d H Q I h;rw [l];refine AR (bc (i a s d H _ I h) λu m c=>?_);obtain ⟨x,n,o,p,q⟩:=c;exact bc (j pos a m d n _ o q) λz B ⟨r,v,w,r2,y⟩=>⟨x::r,v,w,.cons p r2,y⟩
def CY (t:TA):TE:=λd H Q=>t d H λa c=>a.length<=aS/\ ∀p,c p=none->Q (.ref p) (aR c p (.ak a))
def CZ (t:TA):TE:=λd H Q=>t d H λa c=>a.length<=aS/\ ∀p,c p=none->Q (.ref p) (aR c p (.ai a))
def GY {i} (h:PA X es t):PE X (.Tuple es i pos) (CY t):=by
 intro a s j H Q I l;refine wpAny_Tuple_spliced (bc (h pos a s j H _ I l) λm c ⟨n,o,d,r,z,q⟩=>⟨by rw [<-r.length];exact z,?_⟩);refine ⟨.ref c.heap.objs.size,aR o c.heap.objs.size (.ak n),d.laid (λb u e=>bW _ e) (br _) ?_,rfl,q _ (d.aY.fresh (br _))⟩;exact ⟨z,m,r,⟨_,dn _ rfl,rfl,_,rfl⟩⟩
def Ol (h:PA X es t):PE X (.List es pos) (CZ t):=by
 intro a s i H Q I j;refine wpAny_List_spliced (bc (h pos a s i H _ I j) λl c ⟨m,n,d,r,z,q⟩=>⟨by rw [<-r.length];exact z,?_⟩);refine ⟨.ref c.heap.objs.size,aR n c.heap.objs.size (.ai m),d.laid (λb u e=>bW _ e) (br _) ?_,rfl,q _ (d.aY.fresh (br _))⟩;exact ⟨z,l,0,r,dn _ rfl⟩
end
abbrev Sp:=List V->Hp->VK->XK->Prop
abbrev l8:=List Env->Hp->aM->XK->Value->aM->Prop
structure l9 (P:bH) (w:World) (K:aC) (mg:W0) (af:Heap) (A:bQ) (outer:List Env) (s:aM) (H:Hp):Prop where
 frames:A.frames=some outer
 mod:Mod K mg af
 bs: ∀b o,af.get? b=some o->s.heap.get? b=some o/\H b=none
 l0:af.objs.size<=s.heap.objs.size
 dO:s.heap.FunFrames af outer
 mX: ∀b∈dj outer,H b=none
 aY:dJ P w H s.heap
 bare:nQ s.gens
def CE (a:List Env) (P:bH) (w:World) (H:Hp) (s:aM) (Q:VK) (u:Value) (c:aM):Prop:=
 ∃v d,c.os=s.os/\nQ c.gens/\Un (dj a) [] H d s.heap c.heap/\dJ P w d c.heap/\aK v u/\Q v d
def CR (d:l8) (a:List Env) (P:bH) (w:World) (H:Hp) (s:aM) (Q:VK) (E:XK) (r:Result) (c:aM):Prop:=
 match r with
 | .ok (.ret u)=>CE a P w H s Q u c
 | .ok _=>False
 | .error e=>d a H s E e c
structure bR (P:bH) (w:World) (K:aC) (mg:W0) (af:Heap) (CX:l8) (k:Nat) (f:Addr) (fd:lc) (ps:List Str) (sp:Sp):Prop where
 len: ∀vs H Q E,sp vs H Q E->vs.length=ps.length
 run: ∀(A:bQ) (outer:List Env) (s:aM) (H:Hp) (args:Args) (us:List Value) (vs:List V) (Q:VK) (E:XK),aE k A->l9 P w K mg af A outer s H->BindsTo s fd args (ps.zip us)->aI vs us->sp vs H Q E->
  om (model P w) A (.call (.ref f) args) (CR CX outer P w H s Q E) s
def bR.mono {P:bH} {w:World} {K:aC} {mg:W0} {af:Heap} {a:l8} {j k:Nat} {f:Addr} {c:lc} {d:List Str} {e:Sp} (F:bR P w K mg af a j f c d e) (h:j<=k):
 bR P w K mg af a k f c d e:=⟨F.len,λA outer s H args i l Q E hr=>F.run A outer s H args i l Q E (hr.mono h)⟩
def l9.make {P:bH} {w:World} {K:aC} {mg:W0} {af:Heap} {A:bQ} {outer:List Env} {s:aM} {H:Hp} (e:l9 P w K mg af A outer s H) (C:Addr) (a:List Value) (c:List (Str×Value)):
 l9 P w K mg af (A.under (.builtin "type.__call__" ⟨.ref C::a,c⟩)) outer s H:=⟨by first|exact e.frames| (simpa [Around.under,Code.envs,Code.isFrame,pushEnvs] using e.frames),e.mod,e.bs,e.l0,e.dO,e.mX,e.aY,e.bare⟩
section
variable {X:Cx} {pins:List (Addr×Obj)} {σ:St} {H:Hp} {s s':aM}
def aA.m4 (I:aA X pins σ H s):l9 X.prog X.w X.K X.mg X.af X.A X.stack s H:=
 ⟨I.ok.frames,I.ok.mod,I.bs,cY I.ok.l0 I.sz,I.stack,I.eI,I.aY,I.bare⟩
def aA.after {Q:VK} {u:Value} (I:aA X pins σ H s) (h:CE X.stack X.prog X.w H s Q u s'):EP X pins σ Q u s':=by
 obtain ⟨v,c,os,bare,un,aY,r,q⟩:=h;obtain ⟨e,g,d,t,a⟩:=s';obtain rfl:a=s.os:=os;exact ⟨v,c,I.call un aY bare (λb z=>absurd z (by simp)),r,q⟩
end
def Om (a:Sp) (dX:List V) (E:XK) (t:TA):TE:=λc H Q=>t c H λd e=>a (d++dX) e Q E
def GZ (C:Addr) (m:Str) (e:Sp) (dX:List V) (E:XK) (h:TE) (t:TA):TE:=λc H Q=>h c H λx d=> ∃a dx fs,x= .ref a/\d a=some (.ins C dx fs)/\fs.lookup m=none/\
 t c d λi j=>e (x::(i++dX)) j Q E
def On (C:Addr) (c:Sp) (dX:List V) (E:XK) (t:TA):TE:=λd H Q=>t d H λe a=> ∀x dx,a x=none->a dx=none->dx≠x->
 c (.ref x::(e++dX)) (aR (aR a dx (.aw x)) x (.ins C dx [])) (λv h=>v= .aU/\Q (.ref x) h) E
def Binds (K:aC) (e:lc) (c:List Str) (d:List Value):Prop:=
 ∀(s:aM) (a:List Value),K.In s.heap->(a++d).length=c.length->BindsTo s e ⟨a,[]⟩ (c.zip (a++d))
def Binds.all {K:aC} {d:lc} {c:List Str} (h: ∀a:List Value,a.length=c.length->bindArgs d ⟨a,[]⟩=pure (c.zip a)):Binds K d c []:=λs a _ hl=>by
 rw [fN] at hl ⊢;exact .of_eq (h a hl)
def Qq (d:l8) (X:Cx) (E:XK):Prop:= ∀(a:List (Addr×Obj)) (h:St) (H:Hp) (s:aM) (e:Value) (c:aM),aA X a h H s->d X.stack H s E e c->X.xe e c
section
variable {X:Cx} {CX:l8} {k:Nat} {f C:Addr} {fd:lc} {ps:List Str} {sp:Sp} {dX:List V} {ds:List Value} {E:XK} {x m:Str} {p j i:Pos} {e o:Expr} {es:List Expr} {ta:TE} {t:TA}
def C0 {a:List (Addr×Obj)} {l:St} {H:Hp} {s:aM} {Q:VK} {c:List Value} {vs:List V} (F:bR X.prog X.w X.K X.mg X.af CX k f fd ps sp) (n:aE k X.A) (q:Binds X.K fd ps ds) (v:aI dX ds) (w:Qq CX X E)
  (I:aA X a l H s) (r:aI vs c) (h:sp (vs++dX) H Q E):wpAny (model X.prog X.w) X.A (call (.ref f) c) (EP X a l Q) X.xe s:=by
 have r2:=r.append v;have y:(c++ds).length=ps.length:=by rw [<-r2.length];exact F.len _ _ _ _ h
 refine wpAny_call (o8 (F.run X.A X.stack s H ⟨c,[]⟩ (c++ds) (vs++dX) Q E n I.m4 (q s c I.dP y) r2 h) λr z d=>?_)
 cases r with
 |error e=>exact w a l H s e z I d
 |ok B=>
  cases B with
  |ret u=>exact I.after d
  |next=>exact fU d
  |brk=>exact fU d
  |cont=>exact fU d
def Ke (F:bR X.prog X.w X.K X.mg X.af CX k f fd ps sp) (n:aE k X.A) (u:Gl X x) (v:X.mg x=some (.ref f)) (w:gj X.K (.ref f)=true) (y:Binds X.K fd ps ds) (z:aI dX ds) (B:Qq CX X E)
  (J:PA X (e::es) t) (c:Y6 x:=by decide) (L:Vs X e es:=by rfl) (d:Vr X j es:=by rfl):
  PE X (.Call (.Name x p) (e::es) [] j) (Om sp dX E t):=by
 intro a s N H Q I h;refine o9 (Jt I u v ?_ c);refine t4 I.ok.mod.oa w (bc (J j a s N H _ I h) λO U ⟨Y,H1,l,r,q⟩=>⟨l.dP,?_⟩) L d;exact C0 F n y z B l r q
def G0 {N:Sem Bool} (O:PE X o ta) (c:fm X.K C) (y:Meth X.K C m f) (F:bR X.prog X.w X.K X.mg X.af CX k f fd ps sp) (U:aE k X.A) (Y:Binds X.K fd ps ds) (hd:aI dX ds) (hx:Qq CX X E) (ha:PA X (e::es) t)
  (n:Vs X e es:=by rfl) (v:Vr X j es:=by rfl)
  (ht:eval (.Call (.Attribute o m i) (e::es) [] j) X.env=(do
   let z<-eval o X.env
   iJ i.atName
   let (f,first)<-gq [z] (o5 z m N)
   callWith j f first (dA j (bg (e::es) X.env)) (fV j (fW [] X.env))):=by rfl):
  PE X (.Call (.Attribute o m i) (e::es) [] j) (GZ C m sp dX E ta t):=by
 intro d s B H Q I h;refine C1 (bc (O d s B H _ I h) λu s1 w=>?_) ht;obtain ⟨x,H1,J,rx,a,dx,fs,ex,ea,l,q⟩:=w;subst ex;obtain rfl:u=di a:=rx;refine Wb J ea c y l ?_;refine t4 I.ok.mod.oa y.kp (bc (ha j d s1 B H1 _ J q) λus s2 ⟨vs,H2,L,r,q2⟩=>⟨L.dP,?_⟩) n v;exact C0 (vs:= .ref a::vs) F U Y hd hx L (.cons rfl r) q2
def Oo {y:Sem Bool} (z:PE X o ta) (c:fm X.K C) (v:Meth X.K C m f) (F:bR X.prog X.w X.K X.mg X.af CX k f fd ps sp) (B:aE k X.A) (J:Binds X.K fd ps ds) (L:aI dX ds) (N:Qq CX X E)
  (O:eval (.Call (.Attribute o m i) [] [] j) X.env=(do
   let w<-eval o X.env
   iJ i.atName
   let (f,first)<-gq [w] (o5 w m y)
   callWith j f first (dA j (bg [] X.env)) (fV j (fW [] X.env))):=by rfl):
  PE X (.Call (.Attribute o m i) [] [] j) (GZ C m sp dX E ta pY):=by
 intro d s U H Q I h;refine C1 (bc (z d s U H _ I h) λu s1 n=>?_) O;obtain ⟨x,H1,r,Y,a,dx,fs,ex,ea,l,q⟩:=n;subst ex;obtain rfl:u=di a:=Y;refine Wb r ea c v l ?_;exact PySem.W.callWith_K0 r.dP v.kp (C0 (vs:=[.ref a]) F B J L N r (.cons rfl .nil) q)
structure Mk (K:aC) (C f:Addr):Prop where
 makes:tX K C=true
 init:lb K (.ref C) "__init__" =some (some (.ref f))
 fn:tW K (.ref f)=true
 kp:gj K (.ref C)=true
def Op {a:List (Addr×Obj)} {n:St} {H:Hp} {s:aM} {Q:VK} {d:List Value} {q:List V} (M:Mk X.K C f) (F:bR X.prog X.w X.K X.mg X.af CX k f fd ps sp) (y:aE (k+1) X.A) (z:Binds X.K fd ps ds) (B:aI dX ds)
  (J:Qq CX X E) (I:aA X a n H s) (r:aI q d)
  (h: ∀x dx,H x=none->H dx=none->dx≠x->sp (.ref x::(q++dX)) (aR (aR H dx (.aw x)) x (.ins C dx [])) (λv L=>v= .aU/\Q (.ref x) L) E):
  wpAny (model X.prog X.w) X.A (call (.ref C) d) (EP X a n Q) X.xe s:=by
 have w:=h (s.heap.objs.size+1) s.heap.objs.size (I.aY.fresh (nS _)) (I.aY.fresh (br _)) (eB (tZ _));have l:=aA.made (C:=C) I;have r2:aI (V.ref (s.heap.objs.size+1)::(q++dX)) (di (s.heap.objs.size+1)::(d++ds)):= .cons rfl (r.append B)
 have N:(di (s.heap.objs.size+1)::d++ds).length=ps.length:=by
  have e:=r2.length;rw [F.len _ _ _ _ w] at e;exact e.symm
 refine wpAny_call (Ob I.dP M.makes M.init (beq_iff_eq.mp M.fn) (o8 (F.run _ X.stack _ _ ⟨di (s.heap.objs.size+1)::d,[]⟩ (di (s.heap.objs.size+1)::(d++ds)) _ _ E (y.make C d [])
  (l.m4.make C d []) (z _ (di (s.heap.objs.size+1)::d) l.dP N) r2 w) λr O c=>?_))
 cases r with
 |error e=>exact J a n _ _ e O l c
 |ok U=>
  cases U with
  |ret u=>
   obtain ⟨v,Y,I3,rv,ev,q3⟩:=l.after c;subst ev;exact ⟨rv,⟨V.ref (s.heap.objs.size+1),Y,I3,rfl,q3⟩⟩
  |next=>exact fU c
  |brk=>exact fU c
  |cont=>exact fU c
def Oq (M:Mk X.K C f) (F:bR X.prog X.w X.K X.mg X.af CX k f fd ps sp) (n:aE (k+1) X.A) (u:Gl X x) (v:X.mg x=some (.ref C)) (w:Binds X.K fd ps ds) (y:aI dX ds) (z:Qq CX X E)
  (B:PA X (e::es) t) (c:Y6 x:=by decide) (J:Vs X e es:=by rfl) (d:Vr X j es:=by rfl):
  PE X (.Call (.Name x p) (e::es) [] j) (On C sp dX E t):=by
 intro a s L H Q I h;refine o9 (Jt I u v ?_ c);refine t4 I.ok.mod.oa M.kp (bc (B j a s L H _ I h) λN O ⟨U,Y,l,r,q⟩=>⟨l.dP,?_⟩) J d;exact Op M F n w y z l r q
end
def PK (X:Cx) (c:List fO) (t:TA):Prop:=
 ∀(d:Pos) (a:List (Addr×Obj)) (s:aM) (e:St) (H:Hp) (Q:List V->Hp->Prop),aA X a e H s->t e H Q->wpAny (model X.prog X.w) X.A (evalAll ((fV d (fW c X.env)).map (·.2))) (AP X a e Q) X.xe s
section
variable {X:Cx} {CX:l8} {k:Nat} {f C:Addr} {fd:lc} {ps ks:List Str} {sp:Sp} {E:XK} {x m:Str} {p pos apos t5:Pos} {e o:Expr} {es:List Expr} {C2:List fO} {te ta:TE} {t tk:TA} {nm:Option Str}
def G1:PK X [] pY:=λ_ _ _ _ H Q I h=>wpAny_evalAll_nil ⟨[],H,I,.nil,h⟩
def Ot (d:PE X e te) (i:PK X C2 t):PK X (⟨nm,e,t5⟩::C2) (GX te t):=by
 intro pos a s c H Q I h;show wpAny _ _ (evalAll ((do let v<-eval e X.env;iJ pos;pure v)::(fV pos (fW C2 X.env)).map (·.2))) _ _ s;refine wpAny_evalAll_cons (az (bc (d a s c H _ I h) λu j ⟨x,l,n,q,r⟩=>az (wpAny_standAt (ba ?_))));exact bc (i pos a j c l _ n r) λJ L ⟨w,y,z,r2,B⟩=>⟨x::w,y,z,.cons q r2,B⟩
variable {g:List Value->List Value->List Value} {gV:List V->List V->List V}
end
structure ar (N P:List Str) (sc:Scope):Prop where
 kind:sc.kind= .function
 co:sc.isCoroutine=false
 gen:sc.isGenerator=false
 nd:N.Nodup
 pre:N.take P.length=P
 par: ∀x∈P,sc.names.lookup x=some .local\/sc.names.lookup x=some .cell
 pZ: ∀y∈sc.names,y.2≠ .free
theorem US {kindOf:Str->Option NameKind} {x:Str}: ∀ {binds:List (Str×Value)} {m:W0},(∀v,(x,v)∉binds)->bindL kindOf binds m x=m x
 | [],_,_=>rfl
 | (n,v)::r,m,h=>by
  unfold bindL;rw [US λw hw=>h w (fM _ hw)]
  split
  . have:x≠n:=by rintro rfl;exact h v iC
    simp [this]
  . rfl
theorem UU {kindOf:Str->Option NameKind} {x:Str}: ∀ {binds:List (Str×Value)} {m:W0},(∀v,(x,v)∉binds)->bindC kindOf binds m x=m x
 | [],_,_=>rfl
 | (n,v)::r,m,h=>by
  unfold bindC;rw [UU λw hw=>h w (fM _ hw)]
  split
  . rfl
  . have:x≠n:=by rintro rfl;exact h v iC
    simp [this]
theorem UT {kindOf:Str->Option NameKind} {x:Str} {v:Value}: ∀ {P:List Str} {a:List Value} {i:Nat} {m:W0},P.Nodup->P[i]?=some x->a[i]?=some v->kindOf x=some .local->
  bindL kindOf (P.zip a) m x=some v
 | [],_,_,_,_,h,_,_=>by simp at h
 |_::_,[],_,_,_,_,h,_=>by simp at h
 |p::P,w::a,0,m,e,c,d,j=>by
  simp at c d;subst c;subst d;show bindL kindOf ((p,w)::P.zip a) m p=_;unfold bindL;rw [US λv l=>(sy.mp e).1 (AS l).1,if_pos j];simp
 |p::P,w::a,i+1,m,e,c,d,j=>by
  unfold bindL;exact UT (sy.mp e).2 (by simpa using c) (by simpa using d) j
theorem UV {kindOf:Str->Option NameKind} {x:Str} {v:Value}: ∀ {P:List Str} {a:List Value} {i:Nat} {m:W0},P.Nodup->P[i]?=some x->a[i]?=some v->kindOf x≠some .local->
  bindC kindOf (P.zip a) m x=some v
 | [],_,_,_,_,h,_,_=>by simp at h
 |_::_,[],_,_,_,_,h,_=>by simp at h
 |p::P,w::a,0,m,e,c,d,j=>by
  simp at c d;subst c;subst d;show bindC kindOf ((p,w)::P.zip a) m p=_;unfold bindC;rw [UU λv l=>(sy.mp e).1 (AS l).1,if_neg j];simp
 |p::P,w::a,i+1,m,e,c,d,j=>by
  unfold bindC;exact UV (sy.mp e).2 (by simpa using c) (by simpa using d) j
def start (N:List Str) (a:List V):St:=a.map some++eP (N.length-a.length) none
def bA (i:l8) (P:bH) (w:World) (K:aC) (mg:W0) (af:Heap) (N:List Str) (c:Str) (a:Scope) (f:Addr) (h:Value) (A:bQ) (outer:List Env) (s:aM) (H:Hp) (E:XK):Cx where
 prog:=P
 w:=w
 K:=K
 mg:=mg
 af:=af
 A:=A.deeper (fF c a s.heap.objs.size f h)
 N:=N
 c9:=s
 mW:=H
 env:=fF c a s.heap.objs.size f h
 outer:=outer
 stack:=fF c a s.heap.objs.size f h::outer
 ex:=[]
 bT:=true
 fn:=λ_=>true
 pn:=[]
 xe:=λe j=>wpAny (model P w) (A.deeper (fF c a s.heap.objs.size f h)) (leaving (fF c a s.heap.objs.size f h) e) (λ_ d=>i outer H s E e d) (λl d=>i outer H s E l d) j
def uK {a:Scope} {n:Nat} {x:Str} (h:a.names.lookup x=some .cell): ∃c,(cellsFrom n a.names []).lookup x=some c:=by
 exact Option.isSome_iff_exists.mp (PySem.W.cellsFrom_some a.names n [] (.inl h))
def Ou {CX:l8} {P:bH} {w:World} {K:aC} {Y:W0} {n:Heap} {N B:List Str} {l:Str} {d:Scope} {f:Addr} {O:Value} {A:bQ} {j:List Env} {s s1:aM} {H:Hp} {E:XK} {us:List Value} {I:List V}
   (S:ar N B d) (hd:A.handled=none) (o:l9 P w K Y n A j s H) (hl:I.length=B.length) (r:aI I us)
   (x:InCallC s s.heap.objs.size (bindL (fF l d s.heap.objs.size f O).kindOf (B.zip us) λ_=>none) (cellsFrom (s.heap.objs.size+1) d.names []) (bindC (fF l d s.heap.objs.size f O).kindOf (B.zip us) λ_=>none) s1):
   aA (bA CX P w K Y n N l d f O A j s H E) [] (start N I) H s1:=by
 have pb:B.length<=N.length:=by have:=congrArg List.length S.pre;rw [C3] at this;omega
 obtain ⟨Q,tk,rfl,hk⟩:=x.done;have oq: ∀b:Addr,b∉(bA CX P w K Y n N l d f O A j s H E).ex:=λb z=>absurd (show b∈([]:List Addr) from z) (by simp)
 refine ⟨⟨o.mod,S.kind,rfl,rfl,br _,λy z c Q m=>?_,λy hy=>?_,λy c _ h=>?_,λ_=>hd,Around.frames_deeper o.frames,.inr ⟨rfl,rfl⟩,λb z=>absurd z (oq b),o.bs,o.l0,λb _ _=>oq b,λb z=>absurd z (oq b),o.dO,o.mX⟩,
   rfl,o.bare,Un.kept hk,⟨_,x.toInCall.ns,λi y v Q m h3=>?_⟩,λy c h=>⟨_,x.cell y c h⟩,o.aY.fresh (br _),λy c h=>?_,λp J=>absurd (show p∈([]:List (Addr×Obj)) from J) (by simp),o.aY.kept hk,?_⟩
 . exact name_of_addr x.apart (p4 Q) (p4 m)
 . have hy:=hy;rcases hy with hy|hy
   . exact uK hy
   . exact absurd rfl (S.pZ _ (p4 hy))
 . exact Nat.le_of_lt (x.above y c (p4 h))
 . have U:i<I.length:=by
     unfold start at m
     by_cases U:i<I.length
     . exact U
     . rw [iL (by simpa using U)] at m;rw [ox] at m
       split at m<;>cases m
   have ha:I[i]?=some v:=by
     unfold start at m;rw [g9 (by simpa using U),iE] at m
     cases e:I[i]? with
     |none=>rw [e] at m;cases m
     |some a=>rw [e] at m;cases m;rfl
   obtain ⟨u,hu,rv⟩:=r.get ha
   have J:B[i]?=some y:=by
     rw [<-S.pre,List.getElem?_take_of_lt (by omega)];exact Q
   have L:B.Nodup:=by rw [<-S.pre];exact S.nd.sublist (List.take_sublist _ _)
   refine ⟨u,rv,?_⟩;rcases S.par y (gu J) with k|k
   . exact .inl ⟨k,UT L J hu k⟩
   . obtain ⟨c,e⟩:=uK k;refine .inr ⟨.inl k,c,e,?_⟩;have q:=x.cell y c e;rw [UV L J hu (by show d.names.lookup y≠_;rw [k];decide)] at q;exact q
 . exact o.aY.fresh (Nat.le_of_lt (x.above y c (p4 h)))
 . unfold start;show _=N.length;rw [cP,dc,List.length_replicate];omega
def AT {CX:l8} {P:bH} {w:World} {K:aC} {mg:W0} {i:Heap} {k:Nat} {f:Addr} {name d:Str} {j:Arguments} {l:List Stmt} {a:Scope} {dV kV U pm h ct oc:Value} {an od:Option Addr}
  {sA:Array (Option Value)} {N ps:List Str} {sp:Sp} (lk:K.lookup f=some ⟨oc,od,.func (gK name d j l a dV kV U pm an h ct),sA⟩) (AU:nT K h d=true) (S:ar N ps a)
  (len: ∀m H Q E,sp m H Q E->m.length=ps.length)
  (B: ∀(A:bQ) (c:List Env) (s:aM) (H:Hp) (m:List V) (Q:VK) (E:XK),aE k (A.deeper (fF d a s.heap.objs.size f h))->sp m H Q E->
    ∃t,dk (bA CX P w K mg i N d a f h A c s H E) l t/\t {nx:=λ_ z=>Q .aU z,rt:=Q} (start N m) H):
  bR P w K mg i CX (k+1) f (gK name d j l a dV kV U pm an h ct) ps sp:=by
 refine ⟨len,λA c s H args us m Q E hr Y hb r sB=>?_⟩;have KX:=Y.mod.oa.keeps λb o e=>(Y.bs b o e).1
 have L: ∀y∈ps.zip us,a.names.lookup y.1=some .local\/(a.names.lookup y.1=some .cell/\((cellsFrom (s.heap.objs.size+1) a.names []).lookup y.1).isSome=true):=λ⟨n,v⟩ hy=>by
  rcases S.par n (AS hy).1 with q|q
  . exact .inl q
  . exact .inr ⟨q,PySem.W.cellsFrom_some _ _ _ (.inl q)⟩
 refine codeAny_call_function hr.depth (KX _ _ lk) rfl S.co S.gen rfl (PySem.W.codeRec_of KX AU) (hb _ _ _ _ ?_);refine wpAny_newFunctionEnv_cells S.kind L λenv he s1 x=>?_
 subst he;refine ⟨(Y.mod.nolimit.keeps λb o e=>(Y.bs b o e).1).keeps x.toInCall.keep,codeAny_func ?_⟩;obtain ⟨t,ht,hq⟩:=B A c s H m Q E (hr.deeper _) sB;have I:aA (bA CX P w K mg i N d a f h A c s H E) [] (start N m) H s1:=Ou S hr.hd Y (len _ _ _ _ sB) r x;refine lM (ht [] s1 (start N m) H _ I hq) (λfl s' O=>?_) λe s' O=>O
 have fin: ∀ {p:St} {z:Hp} {v:V} {u:Value},aA (bA CX P w K mg i N d a f h A c s H E) [] p z s'->aK v u->Q v z->CE c P w H s Q u s':=
  λ{p z v u} J rv q=>⟨v,z,J.os,J.bare,J.af,J.aY,rv,q⟩
 cases fl with
 |ret u=>
  obtain ⟨v,p,z,J,rv,q⟩:=O;exact fin J rv q
 |next=>
  obtain ⟨p,z,J,q⟩:=O;exact fin (v:=V.aU) J rfl q
 |brk=>
  obtain ⟨_,_,_,q⟩:=O;exact fU q
 |cont=>
  obtain ⟨_,_,_,q⟩:=O;exact fU q
section
variable {X:Cx} {x:Str} {p pos:Pos} {e:Expr} {es:List Expr} {t:TA} {id T:String} {r:List V->Hp->VK->Prop}
def t6 (r:List V->Hp->VK->Prop) (t:TA):TE:=λa H Q=>t a H λc d=>r c d Q
def WJ (j:bK X (.builtin id) r) (l:Gl X x) (m:X.mg x=none) (n:jW x=some (.builtin id)) (o:PA X (e::es) t) (q:x≠ "__name__" :=by decide) (c:Y6 x:=by decide)
  (u:Vs X e es:=by rfl) (d:Vr X pos es:=by rfl):PE X (.Call (.Name x p) (e::es) [] pos) (t6 r t):=by
 intro a s i H Q I h;refine o9 (Ju I l m n ?_ q c);exact PyProof.Rows.callWith_builtin1 (bc (o pos a s i H _ I h) λv w ⟨y,z,B,E,J⟩=>j a w i z y v Q B E J) u d
def Zd (j:bK X (.type T) r) (l:Gl X x) (m:X.mg x=none) (n:jW x=some (.type T)) (o:PA X (e::es) t) (q:x≠ "__name__" :=by decide) (c:Y6 x:=by decide)
  (u:Vs X e es:=by rfl) (d:Vr X pos es:=by rfl):PE X (.Call (.Name x p) (e::es) [] pos) (t6 r t):=by
 intro a s i H Q I h;refine o9 (Ju I l m n ?_ q c);exact oh (bc (o pos a s i H _ I h) λv w ⟨y,z,B,E,J⟩=>j a w i z y v Q B E J) u d
end
end L2
namespace HT
open PySem PyProof.Rows
section
variable {prog:bH} {w:World} {A:bQ} {E:Vt} {s:aM}
def oy {t b:Addr} {d a:List Value} {Q:Vt} (v:IsTup s.heap t d.toArray) (y:IsTup s.heap b a.toArray) (p:d≠[])
   (z:a=[]->Q (.ref t) s) (B:a≠[]->Q (.ref s.heap.objs.size) {s with heap:=s.heap.push {cls:= .type "tuple",data:= .seq (d++a).toArray}})
   (l:d.length+a.length<=aS):wpAny (model prog w) A (gI .Add (.ref t) (.ref b)) Q E s:=by
 obtain ⟨⟨cls,dd,data,q⟩,j,H,n,I⟩:=id v;obtain ⟨⟨r,h,data2,i⟩,c,m,u,o⟩:=id y;subst H I m o;have e:d.toArray++a.toArray=(d++a).toArray:=by simp
 by_cases hw:a=[]
 . exact concat_meets ⟨_,j,rfl⟩ ⟨_,c,rfl⟩ noFill_tuple_add seq_tuple_add PySem.F.slot_tuple_add PySem.F.entry_tuple_add (PySem.F.args_tuple_add_2 _ _)
    (tuple_addW1 t b d.toArray a.toArray n u dd h q i (by simpa using p) (by simp [hw])) ⟨j,c,z hw⟩
 . refine concat_meets ⟨_,j,rfl⟩ ⟨_,c,rfl⟩ noFill_tuple_add seq_tuple_add PySem.F.slot_tuple_add PySem.F.entry_tuple_add (PySem.F.args_tuple_add_2 _ _)
    (tuple_addW2 t b d.toArray a.toArray n u dd h q i (by simpa using p) (by simpa using hw) (by rw [b7,b7];exact l)) ⟨j,c,?_⟩
   rw [e];exact B hw
def bI (n d:Nat):Option Int->Nat
 |none=>d
 |some v=>if v<0 then (v+(n:Int)).toNat else min v.toNat n
def eK (n d:Nat):bI n d none=d:=rfl
def fP (n d k:Nat):bI n d (some (k:Int))=min k n:=by
 show (if k<0 then (k+(n:Int)).toNat else min (k:Int).toNat n)=min k n;rw [if_neg (by omega),lP]
def jln (n d:Nat) (c:d<=n) (o:Option Int):bI n d o<=n:=by
 cases o with
 |none=>exact c
 |some v=>
  show (if v<0 then (v+n).toNat else min v.toNat n)<=n
  by_cases a:v<0
  . rw [if_pos a];omega
  . rw [if_neg a];exact Nat.min_le_right _ _
def G2 (v:Int) (n d:Nat):(if v<0 then max (v+(n:Int)) 0 else min v (n:Int))=((bI n d (some v):Nat):Int):=by
 show (if v<0 then max (v+n) 0 else min v n)=(((if v<0 then (v+n).toNat else min v.toNat n):Nat):Int)
 by_cases a:v<0
 . simp only [if_pos a];omega
 . simp only [if_neg a];omega
def Ov (lo a:Option Int) (n:Nat):G3 lo a 1 (n:Int)=(((bI n 0 lo:Nat):Int),((bI n n a:Nat):Int)):=by
 refine Prod.ext ?_ ?_
 . cases lo with
   |none=>rfl
   |some v=>exact G2 v n 0
 . cases a with
   |none=>rfl
   |some v=>exact G2 v n n
def Ow (i j:Nat):AV (i:Int) (j:Int) 1=j-i:=by
 unfold AV
 split<;>omega
def Yr {v:Value} {o:Option Int} {Q:Option Int->aM->Prop} (p:IsPart v o) (h:Q o s):wpAny (model prog w) A (Builtin.Slice.slicePartIndex v) Q E s:=by
 cases p with
 |none=>exact slicePart_none h
 |int i t=>exact slicePart_int h
def cR {e:Addr} {vl i:Value} {lo a:Option Int} {n:Nat} {Q:Int×Int×Nat->aM->Prop} (j:s.heap.IsSliceOf e vl i .none) (l:IsPart vl lo) (m:IsPart i a)
  (h:Q (((bI n 0 lo:Nat):Int),1,bI n n a-bI n 0 lo) s):wpAny (model prog w) A (Builtin.Slice.sliceApplied (.ref e) (pure (n:Int))) Q E s:=by
 obtain ⟨os,c,o,d⟩:=id j;refine az (az (lf c d rfl (az (lf c d rfl (az (lf c d rfl (ba ?_)))))));refine az (slicePart_none ?_);refine az (Yr l (az (Yr m (az (ba ?_)))));show wpAny _ _ (match G3 lo a 1 n with| (lo,a)=>pure (lo,(1:Int),AV lo a 1)) _ _ s;rw [Ov lo a n];show wpAny _ _ (pure (((bI n 0 lo):Int),(1),AV ((bI n 0 lo):Int) ((bI n n a):Int) 1)) _ _ s;rw [Ow];exact ba h
def Ox (a:Array Value) (i k:Nat):((ke k).filterMap λ(m:Nat)=>a[((i:Int)+(m:Int)*1).toNat]?).toArray=((a.toList.drop i).take k).toArray:=by
 have e:(λ(m:Nat)=>a[(i+(m:Int)*1).toNat]?)=λm=>a[i+m]?:=by
  funext m;have:(i+(m:Int)*1).toNat=i+m:=by omega
  rw [this]
 rw [e];have:=pick_run a i k;rw [List.filterMap_map] at this;have e2:((λx=>a[x]?) ∘ λx=>i+x)=λm=>a[i+m]?:=rfl
 rw [e2] at this;rw [this]
def eL {t m:Addr} {a:Array Value} {vl n:Value} {lo d:Option Int} {Q:Vt} (e:IsTup s.heap t a) (o:s.heap.IsSliceOf m vl n .none) (p:IsPart vl lo) (r:IsPart n d)
  (hw: ¬(bI a.size 0 lo=0/\bI a.size a.size d=a.size))
  (h:Q (.ref s.heap.objs.size) {s with heap:=s.heap.push {cls:= .type "tuple",data:= .seq ((a.toList.drop (bI a.size 0 lo)).take (bI a.size a.size d-bI a.size 0 lo)).toArray}})
  (u:a.size<=aS):wpAny (model prog w) A (getItem (.ref t) (.ref m)) Q E s:=by
 have c:sizeOk (.seq ((a.toList.drop (bI a.size 0 lo)).take (bI a.size a.size d-bI a.size 0 lo)).toArray):=by
  show ((a.toList.drop (bI a.size 0 lo)).take (bI a.size a.size d-bI a.size 0 lo)).toArray.size<=aS;rw [b7,C3,List.length_drop,o4];omega
 obtain ⟨os,i,j,v⟩:=id o;unfold getItem
 try with_reducible refine mI ?_
 first|refine az (ba ?_)|skip
 refine az (wpAny_sequenceKey e.typeIs (by decide) ?_)
 refine az (pc e.typeIs p5
  (m5 p5 e.typeIs entry_tuple_getitem ?_ (args_tuple_getitem _ _)))
 show wpAny _ _ (G4 (.ref t)>>=_) _ _ s;refine az (tupleItemsOf_ e ?_);refine az (wpAny_typeOf (⟨os,i,j⟩) ?_);refine az (cR o p r ?_)
 have l: ¬((((bI a.size 0 lo):Int)==0&&(1:Int)==1&&(bI a.size a.size d-bI a.size 0 lo)==a.size)=true):=by
  intro q;rw [dD,dD] at q;have y:=eq_of_beq q.1.1;have z:=eq_of_beq q.2;exact hw ⟨by omega,by omega⟩
 show wpAny _ _ (if (((bI a.size 0 lo):Int)==0&&(1)==1&&(bI a.size a.size d-bI a.size 0 lo)==a.size)=true then _ else _) _ _ s;rw [if_neg l,Ox]
 first
  |exact az (nU (ba ⟨_,rfl,ba h⟩) c)
  |exact az (nU (az (ba (ba ⟨_,rfl,ba h⟩))) c)
  |exact az (az (nU (ba (ba ⟨_,rfl,ba h⟩)) c))
  |exact az (az (nU (ba ⟨_,rfl,ba h⟩) c))
end
end HT
namespace L2
open PySem PySem.Spec PyProof.Rows
abbrev TO:=St->Hp->(Option Int->Hp->Prop)->Prop
def PO (X:Cx) (e:Option Expr) (t:TO):Prop:=
 ∀(a:List (Addr×Obj)) (s:aM) (c:St) (H:Hp) (Q:Option Int->Hp->Prop),aA X a c H s->t c H Q->
  wpAny (model X.prog X.w) X.A (evalPart e X.env) (λu h=> ∃o d,aA X a c d h/\IsPart u o/\Q o d) X.xe s
def Oy:TO:=λ_ H Q=>Q none H
def Oz (t:TE):TO:=λa H Q=>t a H λx c=> ∃i,x= .int i/\Q (some i) c
section
variable {X:Cx} {e:Expr} {n:TE} {lo B:Option Expr} {tl m:TO} {c j:Pos}
def OA:PO X none Oy:=by
 intro a s d H Q I h;exact ba ⟨none,H,I,.none,h⟩
def OB (h:PE X e n):PO X (some e) (Oz n):=by
 intro a s l H Q I hw;refine bc (h a s l H _ I hw) λu w d=>?_;obtain ⟨x,o,p,r,v⟩:=d
 obtain ⟨i,rfl,q⟩:=v;obtain ⟨t,rfl⟩:=r;exact ⟨some i,o,p,.int i t,q⟩
def oz (X:Cx) (r:V->Option Int->Option Int->Hp->VK->Prop):Prop:=
 ∀(a:List (Addr×Obj)) (s:aM) (d:St) (H:Hp) (x:V) (v vl h:Value) (lo B:Option Int) (i:Addr) (Q:VK),aA X a d H s->aK x v->s.heap.IsSliceOf i vl h .none->IsPart vl lo->IsPart h B->r x lo B H Q->
  ∃T id,typeLookup (.type T) "__getitem__" =pure (some (.builtin id))/\s.TypeIs v T/\wpAny (model X.prog X.w) X.A (getItem v (.ref i)) (EP X a d Q) X.xe s
def oz.or {r d:V->Option Int->Option Int->Hp->VK->Prop} (h:oz X r) (z:oz X d):oz X (λx lo B H Q=>r x lo B H Q\/d x lo B H Q):=by
 intro a s i H x v vl l lo B o Q I p u w y q;rcases q with q|q
 . exact h a s i H x v vl l lo B o Q I p u w y q
 . exact z a s i H x v vl l lo B o Q I p u w y q
def OC (r:V->Option Int->Option Int->Hp->VK->Prop) (n:TE) (tl m:TO):TE:=λa H Q=>n a H λx d=>tl a d λl h=>m a h λu i=>r x l u i Q
def vQ {r:V->Option Int->Option Int->Hp->VK->Prop} (y:oz X r) (z:PE X e n) (E:PO X lo tl) (J:PO X B m):PE X (.Subscript e (.Slice lo B none j) c) (OC r n tl m):=by
 intro a s i H Q I h;refine Subscript_ (bc (z a s i H _ I h) λv L d=>?_);obtain ⟨x,N,O,U,Y⟩:=d;refine wpAny_Slice (bc (E a L i N _ O Y) λvl s2 ⟨l,H2,I2,pl,q2⟩=>bc (J a s2 i H2 _ I2 q2) λp o d=>?_);obtain ⟨u,w,I3,pu,q3⟩:=d;refine ba ?_;have I4:aA X a i w {o with heap:=o.heap.push {cls:= .type "slice",data:= .fields #[vl,p,.none]}}:=I3.kept λb ob q=>bW _ q
 obtain ⟨T,id,hT,ht,hg⟩:=y a {o with heap:=o.heap.push {cls:= .type "slice",data:= .fields #[vl,p,.none]}} i w x v vl p l u o.heap.objs.size Q I4 U (Heap.IsSliceOf.new ..) pl pu q3;exact tail_any ht hT hg (by with_unfolding_all rfl)
def ma (a:List V) (lo B:Option Int):List V:=(a.drop (HT.bI a.length 0 lo)).take (HT.bI a.length a.length B-HT.bI a.length 0 lo)
def XY (a:List V) (lo B:Option Int):(ma a lo B).length<=a.length:=by
 unfold ma;rw [C3,List.length_drop];omega
def t7 (K:aC):V->Option Int->Option Int->Hp->VK->Prop:=λx lo B H Q=> ∃a d,x= .ref a/\ee K H a d/\
 ¬(HT.bI d.length 0 lo=0/\HT.bI d.length d.length B=d.length)/\ ∀p,H p=none->Q (.ref p) (aR H p (.ak (ma d lo B)))
def p6:oz X (t7 X.K):=by
 intro o s L H x v vl N lo B O Q I w y z E h;obtain ⟨a,i,rfl,J,hw,q⟩:=h;cases w;obtain ⟨l,r,p,u⟩:=I.tuple J;have d:l.toArray.size=i.length:=by rw [b7];exact r.length.symm
 refine ⟨"tuple",_,p5.lookup,p.typeIs,?_⟩;refine HT.eL p y z E (by rw [d];exact hw) ?_ (by rw [d];exact u);rw [d];refine ⟨.ref s.heap.objs.size,_,I.laid (λb ob q=>bW _ q) (br _) ?_,rfl,q _ (I.aY.fresh (br _))⟩;exact ⟨cY (XY i lo B) u,_,(r.drop (HT.bI i.length 0 lo)).take (HT.bI i.length i.length B-HT.bI i.length 0 lo),IsTup.new _ _⟩
def C4 (K:aC):R2:=λx y H Q=> ∃a b h d,x= .ref a/\y= .ref b/\ee K H a h/\ee K H b d/\h≠[]/\h.length+d.length<=aS/\
 (d=[]->Q (.ref a) H)/\(d≠[]-> ∀p,H p=none->Q (.ref p) (aR H p (.ak (h++d))))
def aI.hG {a:List V} {d:List Value} (r:aI a d):d=[]↔a=[]:=by
 cases r with
 |nil=>simp
 |cons _ _=>simp
def OD:cp X (gI .Add) (C4 X.K):=by
 intro i s σ H x y v u Q I p r h;obtain ⟨a,b,xs,ys,rfl,rfl,E,J,L,l,N,O⟩:=h;cases p;cases r;obtain ⟨U,d,Y,_⟩:=I.tuple E;obtain ⟨o,r2,j,_⟩:=I.tuple J;refine HT.oy Y j (λz=>L (d.hG.mp z)) (λz=>⟨.ref a,H,I,rfl,N (r2.hG.mp z)⟩) (λz=>?_) (by rw [<-d.length,<-r2.length];exact l);refine ⟨.ref s.heap.objs.size,_,I.laid (λb ob q=>bW _ q) (br _) ?_,rfl,O (λw=>z (r2.hG.mpr w)) _ (I.aY.fresh (br _))⟩;exact ⟨by rw [cP];exact l,_,d.append r2,IsTup.new _ _⟩
end
def lQ (n:Nat) (i:Int):Option Nat:=if 0<=i then (if i<n then some i.toNat else none) else if-(n:Int)<=i then some (i+n).toNat else none
def fX {a:Type} (c:List a) (i:Int):Option a:=(lQ c.length i).bind λj=>c[j]?
def G5 {n:Nat} {i:Int} {j:Nat} (h:lQ n i=some j):seqIndex? i n=some j/\j<n/\ -(n:Int)<=i/\i<n:=by
 unfold lQ at h
 by_cases c:0<=i
 . rw [if_pos c] at h
   by_cases a:i<n
   . rw [if_pos a] at h;have e:=fj h;exact ⟨by rw [seqIndex_of c a,e],by omega,by omega,a⟩
   . rw [if_neg a] at h;cases h
 . rw [if_neg c] at h
   by_cases a: -(n)<=i
   . rw [if_pos a] at h;have e:=fj h;exact ⟨by rw [seqIndex_neg (by omega) a,e],by omega,a,by omega⟩
   . rw [if_neg a] at h;cases h
def vj {c:Type} {a:List c} {i:Int} {v:c} (h:fX a i=some v): ∃j,seqIndex? i a.length=some j/\a[j]?=some v/\j<a.length/\ -(a.length:Int)<=i/\i<a.length:=by
 unfold fX at h
 cases e:lQ a.length i with
 |none=>rw [e] at h;cases h
 |some j=>
  rw [e] at h;obtain ⟨d,l,m,n⟩:=G5 e;exact ⟨j,d,h,l,m,n⟩
def cc {a:Type} {xs:List a} {j:Nat} {v:a} (h:xs[j]?=some v):fX xs (j:Int)=some v:=by
 have c:j<xs.length:=(iD.mp h).1
 have e:lQ xs.length (j:Int)=some j:=by
  unfold lQ;rw [if_pos (by omega),if_pos (by omega)];simp
 unfold fX;rw [e];exact h
def X4 (b:Expr):Prop:= ∀o i,subscripted b false o i=operate [o,i] (getItem o i)
def nV (X:Cx) (r:R2):Prop:=
 ∀(value a:Expr) (c:List (Addr×Obj)) (s:aM) (d:St) (H:Hp) (x y:V) (v u:Value) (Q:VK),aA X c d H s->aK x v->aK y u->r x y H Q->
  subscripted a false v u=operate [v,u] (getItem v u)->wpAny (model X.prog X.w) X.A (subscriptTail value a v u) (EP X c d Q) X.xe s
def mJ (X:Cx) (id:String) (r:V->List V->Hp->VK->Prop):Prop:=
 ∀(a:List (Addr×Obj)) (s:aM) (c:St) (H:Hp) (x:V) (d:List V) (v:Value) (e:List Value) (Q:VK),aA X a c H s->aK x v->aI d e->r x d H Q->
  wpAny (model X.prog X.w) X.A (call (.builtin id) (v::e)) (EP X a c Q) X.xe s
section
variable {X:Cx} {a b:Expr} {J L:TE} {N:Pos}
def nV.or {r e:R2} (h:nV X r) (n:nV X e):nV X (λx y H Q=>r x y H Q\/e x y H Q):=by
 intro value c d s i H x y v u Q I j l q m;rcases q with q|q
 . exact h value c d s i H x y v u Q I j l q m
 . exact n value c d s i H x y v u Q I j l q m
def mJ.or {id:String} {r e:V->List V->Hp->VK->Prop} (h:mJ X id r) (n:mJ X id e):mJ X id (λx d H Q=>r x d H Q\/e x d H Q):=by
 intro c s i H x d v j Q I l m q;rcases q with q|q
 . exact h c s i H x d v j Q I l m q
 . exact n c s i H x d v j Q I l m q
def AW {r:R2} (d:nV X r) (e:PE X a J) (i:PE X b L) (j:X4 b):PE X (.Subscript a b N) (sx r J L):=by
 intro c s l H Q I h;exact Subscript_ (pU e i I h λv u m x y n o p w q=>d a b c m l n x y v u Q o p w q (j _ _))
def t9 (K:aC):R2:=λx y H Q=> ∃p c i v,x= .ref p/\y= .int i/\da K H p c/\fX c i=some v/\Q v H
def uS (K:aC):R2:=λx y H Q=> ∃p c i v,x= .ref p/\y= .int i/\ee K H p c/\fX c i=some v/\Q v H
def uT:R2:=λx y H Q=> ∃z i c,x= .str z/\y= .int i/\z.length<=aS/\fX z.cps.toList i=some c/\Q (.str ⟨#[c]⟩) H
def oA:nV X (t9 X.K):=by
 intro value l c s Y H x y v u Q I rx ry h E;obtain ⟨p,xs,i,z,rfl,rfl,hq,he,q⟩:=h;cases rx;obtain ⟨t,rfl⟩:=ry;obtain ⟨m,r,n,hz⟩:=I.list hq;obtain ⟨j,e,h2,h3,h4,h5⟩:=vj he;obtain ⟨w,O,o⟩:=r.get h2;have hl:=r.length;have hn:=YC;have d:EP X c Y Q w s:=⟨z,H,I,o,q⟩
 by_cases U:0<=i
 . have B:i.toNat=j:=by
    rw [seqIndex_of U h5] at e;exact fj e
   exact item_listR n.isList U (by omega) (by rw [B];simpa using O) d E
 . have B:(i+(m.toArray.size)).toNat=j:=by
    rw [seqIndex_neg (by omega) h4] at e;rw [b7,<-hl];exact fj e
   exact subscriptTail_builtinR n.isList.typeIs slot_list_getitem.lookup
    (wpAny_getItem_list_neg n.isList (by omega) (by rw [b7]<;>omega) (by omega) (by rw [B];simpa using O) ⟨rfl,d⟩) E
def p7:nV X (uS X.K):=by
 intro value d c s n H x y v u Q I o B h E;obtain ⟨p,xs,i,z,rfl,rfl,O,U,q⟩:=h;cases o;obtain ⟨t,rfl⟩:=B;obtain ⟨Y,r,m,hz⟩:=I.tuple O;obtain ⟨j,h1,h2,h3,h4,h5⟩:=vj U;obtain ⟨w,ew,e⟩:=r.get h2;have hl:=r.length;have hn:=YC;have l:EP X c n Q w s:=⟨z,H,I,e,q⟩
 exact subscriptTail_builtinR m.typeIs p5.lookup
  (getItem_tuple m (by omega) (by omega) (by rw [b7,<-hl];exact h1) (by simpa using ew) ⟨rfl,l⟩) E
def OE:nV X uT:=by
 intro value d e s O H x y v u Q I m n h o;obtain ⟨z,i,c,rfl,rfl,U,p,q⟩:=h;obtain ⟨t,rfl⟩:=m;obtain ⟨Y,rfl⟩:=n;obtain ⟨j,l,r,h3,w,B⟩:=vj p;have E:z.cps.toList.length=z.length:=by simp [Str.length]
 rw [E] at l w B;have hn:=YC
 exact tail_any (typeIs_str s z t) slot_str_getitem.lookup (getItem_str (by
  have e1:decide (i< -(2^63))=false:=decide_eq_false (by omega);have e2:decide (i>=2^63)=false:=decide_eq_false (by omega)
  rw [e1,e2,Bool.or_false]) (by rw [l];simpa using r) ⟨.str ⟨#[c]⟩,H,I.tok _,⟨_,rfl⟩,q⟩) o
def G6 (K:aC):R2:=λx y H Q=>t9 K x y H Q\/uS K x y H Q\/uT x y H Q
def G7:nV X (G6 X.K):=oA.or (p7.or OE)
def OF (c:List Value) (n j:Nat) (u:Value):lg (·.setIfInBounds j u) {cls:= .type "list",data:= .seq c.toArray n}={cls:= .type "list",data:= .seq (c.set j u).toArray n}:=by
 simp [lg]
def aA.ai {d:List (Addr×Obj)} {j:St} {H:Hp} {s:aM} {p:Addr} {i:List V} (I:aA X d j H s) (h:H p=some (.ai i)):
  ∃(c:List Value) (n:Nat),aI i c/\s.heap.get? p=some {cls:= .type "list",data:= .seq c.toArray n}/\i.length<=aS:=by
 obtain ⟨z,c,n,r,e⟩:=I.aY p _ h;exact ⟨c,n,r,e,z⟩
def aA.p8 {d:List (Addr×Obj)} {m:St} {H:Hp} {s:aM} {p:Addr} {v j:List V} {i c:List Value} {n l:Nat} {f:Obj->Obj} (I:aA X d m H s) (h:H p=some (.ai v))
  (w:s.heap.get? p=some {cls:= .type "list",data:= .seq i.toArray n}) (o:f {cls:= .type "list",data:= .seq i.toArray n}={cls:= .type "list",data:= .seq c.toArray l}) (r:aI j c) (hz:j.length<=aS) (t:Nat):
  aA X d m (aR H p (.ai j)) {s with heap:=s.heap.update p f,toks:=t}:=by
 have e:(s.heap.update p f).get? p=some {cls:= .type "list",data:= .seq c.toArray l}:=by
  rw [AX f w (by rw [o]<;>rfl),o]
 refine I.write (x:=p) (e:=p) (by rw [h];trivial) (.inl rfl) (λb u y q=>(sC _ _ (iH y)).trans q) ⟨_,e⟩ ?_;exact ⟨hz,c,l,r,e⟩
def OG:V->V->V->Hp->(Hp->Prop)->Prop:=λo i v H Q=> ∃p c k j,o= .ref p/\i= .int k/\H p=some (.ai c)/\lQ c.length k=some j/\Q (aR H p (.ai (c.set j v)))
def OH:tH X OG:=by
 intro c s U H o i v ov iv u Q I Y ri rv h;obtain ⟨p,xs,k,j,rfl,rfl,y,hj,q⟩:=h;cases Y;obtain ⟨t,rfl⟩:=ri;obtain ⟨d,n,r,l,hz⟩:=I.ai y;obtain ⟨e,h2,z,B⟩:=G5 hj;have m:=r.length;have hn:=YC
 have E:aA X c U (aR H p (.ai (xs.set j v))) {s with heap:=s.heap.update p (lg (·.setIfInBounds j u))}:=
   I.p8 y l (OF d n j u) (r.set rv j) (by rw [List.length_set];exact hz) s.toks
 by_cases O:0<=k
 . have w:k.toNat=j:=by
    rw [seqIndex_of O B] at e;exact fj e
   exact PySem.W.ki_setAt l O (by omega) (by rw [b7,<-m];exact B) (by rw [w];exact ⟨_,E,q⟩)
 . have w:(k+(d.toArray.size:Int)).toNat=j:=by
    rw [seqIndex_neg (by omega) z] at e;rw [b7,<-m];exact fj e
   exact PySem.W.ki_setBack l (by omega) (by rw [b7,<-m];exact z) (by omega) (by rw [w];exact ⟨_,E,q⟩)
def Vp (lo c:Option Int) (n:Nat):(p9 lo c none n).1=((HT.bI n 0 lo:Nat):Int)/\(p9 lo c none n).2.1=((HT.bI n n c:Nat):Int)/\(p9 lo c none n).2.2=1:=by
 refine ⟨?_,?_,rfl⟩
 . cases lo with
   |none=>simp [p9,HT.bI]
   |some i=>
    simp only [p9,HT.bI,AY,show (1)>0 by decide,if_true]
    by_cases h:i<0
    . simp only [h,if_true]<;>omega
    . simp only [h,if_false]<;>omega
 . cases c with
   |none=>simp [p9,HT.bI]
   |some i=>
    simp only [p9,HT.bI,AY,show (1)>0 by decide,if_true]
    by_cases h:i<0
    . simp only [h,if_true]<;>omega
    . simp only [h,if_false]<;>omega
def Y3 (c:List Value) (lo d:Option Int):slicePick c.toArray lo d none=((c.drop (HT.bI c.length 0 lo)).take (HT.bI c.length c.length d-HT.bI c.length 0 lo)).toArray:=by
 obtain ⟨e,h,i⟩:=Vp lo d c.toArray.size;unfold slicePick;rw [e,h,i];simp only [sliceRange_one,pick_run,b7]<;>rfl
def u3 (K:aC):V->Option Int->Option Int->Hp->VK->Prop:=λx lo d H Q=> ∃a c,x= .ref a/\da K H a c/\ ∀p,H p=none->Q (.ref p) (aR H p (.ai (ma c lo d)))
def lR:oz X (u3 X.K):=by
 intro e s y H x v vl z lo i B Q I l m n o h;obtain ⟨a,c,rfl,p,q⟩:=h;cases l;obtain ⟨u,r,j,w⟩:=I.list p;have d:=r.length;refine ⟨"list",_,slot_list_getitem.lookup,j.isList.typeIs,?_⟩;refine wpAny_getItem_list_slice j.isList m n o .none (by simp) ?_ (by rw [b7]<;>omega);rw [Y3,<-d];refine ⟨.ref s.heap.objs.size,_,I.laid (λb ob q=>bW _ q) (br _) ?_,rfl,q _ (I.aY.fresh (br _))⟩;exact ⟨cY (XY c lo i) w,_,0,(r.drop (HT.bI c.length 0 lo)).take (HT.bI c.length c.length i-HT.bI c.length 0 lo),dn _ rfl⟩
def hH:bK X (.builtin "len") (λl H Q=> ∃p d,l=[.ref p]/\(da X.K H p d\/ee X.K H p d)/\Q (.int d.length) H):=by
 intro m s v H l w Q I r h;obtain ⟨p,d,rfl,hq,q⟩:=h;obtain ⟨u,rfl,n⟩:=ZK r;cases n;have y:=YC;rcases hq with hq|hq
 . obtain ⟨e,i,j,o⟩:=I.list hq;have c:=i.length;exact Calls.call_len_list j.isList (by simp only [b7]<;>omega) ⟨.int d.length,H,I.tok _,⟨s.toks+1,by rw [b7,c]⟩,q⟩
 . obtain ⟨e,i,j,o⟩:=I.tuple hq;have c:=i.length;exact len_tuple j (by simp only [b7]<;>omega) ⟨.int d.length,H,I.tok _,⟨s.toks+1,by rw [b7,c]⟩,q⟩
def UN:bK X (.builtin "len") (λc H Q=> ∃z,c=[.str z]/\z.length<=aS/\Q (.int z.length) H):=by
 intro d s e H c i Q I r h;obtain ⟨z,rfl,j,q⟩:=h;obtain ⟨u,rfl,t,rfl⟩:=ZK r;have l:=YC;exact len_str (by omega) ⟨.int z.length,H,I.tok _,⟨_,rfl⟩,q⟩
def bK.or {f:Value} {r e:List V->Hp->VK->Prop} (h:bK X f r) (m:bK X f e):bK X f (λd H Q=>r d H Q\/e d H Q):=by
 intro c s i H d j Q I l q;rcases q with q|q
 . exact h c s i H d j Q I l q
 . exact m c s i H d j Q I l q
def wK:bK X (.type "list") (λxs H Q=> ∃p i,xs=[.ref p]/\(da X.K H p i\/ee X.K H p i)/\ ∀l,H l=none->Q (.ref l) (aR H l (.ai i))):=by
 intro v s σ H xs us Q I r h;obtain ⟨p,i,rfl,hq,q⟩:=h;obtain ⟨u,rfl,rx⟩:=ZK r;cases rx
 have w: ∀(c:List Value),aI i c->i.length<=aS-> ∀(d:Heap) j,(∀b o',s.heap.get? b=some o'->d.get? b=some o')->
    d.get? s.heap.objs.size=some {cls:= .type "list",dict:=none,data:= .seq c.toArray j,slots:= #[]}->EP X v σ Q (.ref s.heap.objs.size) {s with heap:=d}:=λc m y d j z e=>
   ⟨.ref s.heap.objs.size,_,I.laid z (br _) (show bn X.prog X.w _ d _ (.ai i) from ⟨y,c,j,m,e⟩),rfl,q _ (I.aY.fresh (br _))⟩
 rcases hq with hq|hq
 . obtain ⟨c,m,E,y⟩:=I.list hq;have B:=m.length;obtain ⟨o,O,U,n,Y⟩:=E.isList;exact call_list_seq p (.inl rfl) O U Y (λd j z e=>w c m y d j z e) (by simp only [b7]<;>omega)
 . obtain ⟨c,m,E,y⟩:=I.tuple hq;have B:=m.length;obtain ⟨o,O,U,n,Y⟩:=E;exact call_list_seq p (.inr rfl) O U Y (λd j z e=>w c m y d j z e) (by simp only [b7]<;>omega)
def yQ:bK X (.type "tuple") (λw H Q=> ∃p i,w=[.ref p]/\((da X.K H p i/\ ∀l,H l=none->Q (.ref l) (aR H l (.ak i)))\/(ee X.K H p i/\Q (.ref p) H))):=by
 intro c s y H w us Q I r h;obtain ⟨p,i,rfl,h⟩:=h;obtain ⟨u,rfl,O⟩:=ZK r;cases O;rcases h with ⟨m,q⟩| ⟨m,q⟩
 . obtain ⟨d,n,v,z⟩:=I.list m;have B:=n.length;refine call_tuple_list v.isList (λj U=>?_) (by simp only [b7]<;>omega);have E:aA X c y H {s with heap:=j}:=I.kept (t':=s.toks) U
   have Y:aA X c y (aR H j.objs.size (.ak i)) {s with heap:=j.push {cls:= .type "tuple",data:= .seq d.toArray}}:=
    E.laid (t':=s.toks) (λb o e=>bW _ e) (br _) (show bn X.prog X.w _ _ _ (.ak i) from ⟨z,d,n,IsTup.new _ _⟩)
   exact ⟨.ref j.objs.size,_,Y,rfl,q _ (E.aY.fresh (br _))⟩
 . obtain ⟨d,n,v,z⟩:=I.tuple m;exact call_tuple_same v ⟨.ref p,H,I,rfl,q⟩
def C5 (K:aC) (T:String) (x:V) (H:Hp):Prop:=match x with
 | .str _=>T= "str"
 | .int _=>T= "int"
 | .ref p=>(T= "list" /\ ∃d,da K H p d)\/(T= "tuple" /\ ∃o,K.lookup p=some o/\o.cls= .type "tuple" /\o.dict=none)\/
  (T= "dict" /\((∃c,H p=some (.dK c))\/ ∃c,H p=some (.dT c)))\/(T= "set" /\ ∃S n,H p=some (.set S n))
 |_=>False
def OI {j:List (Addr×Obj)} {w:St} {H:Hp} {s:aM} {T:String} {x:V} {v:Value} (I:aA X j w H s) (r:aK x v) (l:C5 X.K T x H):
  s.TypeIs v T/\ ∀a,v= .ref a-> ∃ob,s.heap.get? a=some ob/\ob.dict=none:=by
 cases x with
 |str z=>
  obtain ⟨t,rfl⟩:=r;cases (l);exact ⟨typeIs_str s z t,λ_ e=>nomatch e⟩
 |int i=>
  obtain ⟨t,rfl⟩:=r;cases (l);exact ⟨typeIs_int s i t,λ_ e=>nomatch e⟩
 |ref p=>
  cases r;rcases l with ⟨rfl,O,y⟩| ⟨rfl,o,d,B,m⟩| ⟨rfl,d⟩| ⟨rfl,S,n,d⟩
  . obtain ⟨E,_,u,_⟩:=I.list y;refine ⟨u.isList.typeIs,λa e=>?_⟩;cases e;obtain ⟨o,n,e,c,m,_⟩:=u;exact ⟨o,e,m⟩
  . refine ⟨⟨o,I.dP p o d,B⟩,λa e=>?_⟩;cases e;exact ⟨o,I.dP _ o d,m⟩
  . have z: ∃o,s.heap.get? p=some o/\o.ExactDict:=by
     rcases d with ⟨q,d⟩| ⟨q,d⟩
     . obtain ⟨_,_,_,_,o,_,_,e,h,_⟩:=I.aY p _ d;exact ⟨o,e,h⟩
     . obtain ⟨_,_,_,_,o,_,_,e,h,_⟩:=I.aY p _ d;exact ⟨o,e,h⟩
    obtain ⟨o,e,h⟩:=z;refine ⟨⟨o,e,h.1⟩,λa e2=>?_⟩;cases e2;exact ⟨o,e,h.2.1⟩
  . obtain ⟨o,_,_,_,e,h,_⟩:=I.aY p _ d;refine ⟨⟨o,e,h.1⟩,λa e2=>?_⟩;cases e2;exact ⟨o,e,h.2.1⟩
 |_=>exact fU l
def OJ (K:aC) (T:String) (r:V->List V->Hp->VK->Prop) (e:TE) (t:TA):TE:=λc H Q=>e c H λx d=>C5 K T x d/\t c d λh i=>r x h i Q
variable {o e:Expr} {O:List Expr} {to:TE} {t:TA} {name:Str} {U Y:Pos} {T id:String} {r:V->List V->Hp->VK->Prop}
def kr (B:PlainAttrs T) (slot:Slot T name id) (n:typeOf (.builtin id)=pure (.type "method_descriptor")) (E:mJ X id r) (ho:PE X o to) (ha:PA X (e::O) t)
  (i:l7 o name X.env (eval o X.env)=eval o X.env:=by rfl)
  (m:((dA Y (bg (e::O) X.env)).all (λx=>!x.1)&&(fV Y (fW [] X.env)).all (λx=>x.1.isSome)
   &&decide ((e::O).length+([]:List fO).length+(if ([]:List fO).isEmpty then 0 else 1)<30))=true:=by rfl)
  (j:(U.endLine==Y.line)=true:=by rfl) (hs:Vs X e O:=by rfl) (d:Vr X Y O:=by rfl):
  PE X (.Call (.Attribute o name U) (e::O) [] Y) (OJ X.K T r to t):=by
 intro c s p H Q I h;refine wpAny_Call_method_late i m j rfl (bc (ho c s p H _ I h) λv s1 q=>?_);obtain ⟨x,H1,w,y,ty,q1⟩:=q;obtain ⟨h1,h2⟩:=OI w y ty;refine ⟨T,id,B,slot,n,h1,h2,?_⟩;have z:=ha Y c s1 p H1 _ w q1;rw [hs] at z ⊢;refine Calls.callWith_builtin (by show (false|| (dA Y (bg O X.env)).any (·.1))=false;rw [d]<;>rfl) (Calls.evalArgs_plain ?_);exact bc z λus s2 ⟨vs,H2,I2,r2,q2⟩=>E c s2 p H2 x vs v us Q I2 y r2 q2
/-xs.append(e),list.index on a l tuple .. are mJ u of 06m-/
end
def C6 (X:Cx) (id:String) (r:V->List V->Hp->VK->Prop):Prop:=
 ∀(a:List (Addr×Obj)) (s:aM) (c:St) (H:Hp) (x:V) (d:List V) (v:Value) (e:List Value) (Q:VK),aA X a c H s->aK x v->aI d e->r x d H Q->
  wpAny (model X.prog X.w) X.A (call (.builtin id) (v::e)) (EP X a c Q) X.xe s
theorem aI.one: ∀ {x:V} {a:List Value},aI [x] a-> ∃u,a=[u]/\aK x u
 |_,_,.cons r .nil=>⟨_,rfl,r⟩
theorem aI.rep {a:List V} {c:List Value} (h:aI a c): ∀k:Nat,aI (eP k a).flatten (eP k c).flatten
 |0=> .nil
 |k+1=>by
  rw [pd,pd,qg,qg];exact aI.append h (aI.rep h k)
theorem Uv (a:List Value): ∀(k:Nat) (c:List Value),
  List.foldl (λd h=>d++h) c.toArray (eP k a.toArray)=(c++(eP k a).flatten).toArray
 |0,c=>by simp
 |k+1,c=>by
  have e:c.toArray++a.toArray=(c++a).toArray:=by simp
  have e2:(c++a)++(eP k a).flatten=c++(eP (k+1) a).flatten:=by
   rw [pd,qg,hJ]
  rw [<-e2,<-Uv a k (c++a),<-e,pd,List.foldl_cons]
section
variable {X:Cx} {p:List (Addr×Obj)} {σ:St} {H:Hp} {s:aM} {l b:Addr} {xs ys zs:List V}
def aA.qx {c a:List Value} {n:Nat} {f:Array Value->Array Value} {d:Nat} (I:aA X p σ H s) (h:H l=some (.ai xs))
  (e:s.heap.get? l=some {cls:= .type "list",data:= .seq c.toArray n}) (i:f c.toArray=a.toArray) (j:aI ys a) (hz:ys.length<=aS):
  aA X p σ (aR H l (.ai ys)) {s with heap:=s.heap.update l (lg f),toks:=d}:=by
 have q:=PySem.IsL.update e f;rw [i] at q;refine I.write (by rw [h];exact trivial) (.inl rfl) (λr u m o=>(sC s.heap (lg f) (iH m)).trans o) ⟨_,q⟩ ?_;exact ⟨hz,a,_,j,q⟩
def aA.qE {a:List Value} {t':Nat} (I:aA X p σ H s) (c:aI ys a) (hz:ys.length<=aS):
  aA X p σ (aR H s.heap.objs.size (.ai ys)) {s with heap:=s.heap.push {cls:= .type "list",data:= .seq a.toArray},toks:=t'}:=
 I.laid (λ_ _ q=>bW _ q) (br _) ⟨hz,a,0,c,dn _ rfl⟩
def aA.fresh (I:aA X p σ H s):H s.heap.objs.size=none:=I.aY.fresh (br _)
def aA.lh (I:aA X p σ H s) (c:H l=some (.ai xs)):xs.length<=aS/\ ∃(a:List Value) (n:Nat),aI xs a/\xs.length=a.length/\s.heap.get? l=some {cls:= .type "list",data:= .seq a.toArray n}:=by
 obtain ⟨z,a,n,r,e⟩:=I.aY l _ c;exact ⟨z,a,n,r,r.length,e⟩
def Kw {n:Nat} (h:n<=aS):va n=false:=by
 exact decide_eq_false (by omega)
end
section
variable {X:Cx}
def OK:V->List V->Hp->VK->Prop:=λx c H Q=> ∃l a y,x= .ref l/\c=[y]/\H l=some (.ai a)/\a.length<aS/\Q .aU (aR H l (.ai (a++[y])))
def Xs:C6 X "list.append" OK:=by
 intro c s o H x p v w Q I i j h;obtain ⟨l,B,y,rfl,rfl,d,E,q⟩:=h;cases i;obtain ⟨u,rfl,m⟩:=j.one;obtain ⟨z,a,n,r,J,e⟩:=I.lh d;refine sD C7 ⟨_,e,rfl⟩ F.entry_list_append (F.args_list_append_2 _ _) (PySem.list_append l a.toArray n u (by rw [b7];omega)) ⟨e,?_⟩;refine ⟨.aU,_,I.qx d e (by simp) (r.append (.cons m .nil)) ?_,rfl,q⟩;rw [cP,List.length_singleton];omega
def OL:V->List V->Hp->VK->Prop:=λx d H Q=> ∃l b a c,x= .ref l/\d=[.ref b]/\H l=some (.ai a)/\H b=some (.ai c)/\a.length+c.length<=aS/\Q .aU (aR H l (.ai (a++c)))
def OM:C6 X "list.extend" OL:=by
 intro j s J H x L v N Q I o p h;obtain ⟨l,b,O,U,rfl,rfl,m,w,Y,q⟩:=h;cases o;obtain ⟨u,rfl,y⟩:=p.one;cases y;obtain ⟨z,c,n,r,hl,e⟩:=I.lh m;obtain ⟨z2,a,B,r2,E,e2⟩:=I.lh w;have i:c.toArray.size+a.toArray.size<=aS:=by rw [b7,b7];omega
 have d: ¬(!c.toArray.isEmpty&&va (c.toArray.size+a.toArray.size))=true:=by
  rw [Kw i,vm];exact eh
 refine sD C8 ⟨_,e,rfl⟩ F.entry_list_extend (F.args_list_extend_2 _ _)
  (AutoSeq1.list_extend_list_list_0 l c.toArray n b a.toArray B d (by rw [b7];omega) (by omega)) ⟨e,e2,?_⟩
 refine ⟨.aU,_,I.qx m e (by simp) (r.append r2) ?_,rfl,q⟩;rw [cP];omega
def qL:R2:=λx y H Q=> ∃l b a c,x= .ref l/\y= .ref b/\H l=some (.ai a)/\H b=some (.ai c)/\a.length+c.length<=aS/\ ∀p,H p=none->Q (.ref p) (aR H p (.ai (a++c)))
def qP:cp X (gI .Add) qL:=by
 intro d s B H x y v u Q I i j h;obtain ⟨l,b,E,J,rfl,rfl,m,o,L,q⟩:=h;cases i;cases j;obtain ⟨z,c,n,r,N,e⟩:=I.lh m;obtain ⟨O,a,U,r2,p,e2⟩:=I.lh o;refine PySem.P.add_list e e2 ?_ (by rw [b7,b7];omega);have w:c.toArray++a.toArray=(c++a).toArray:=by simp
 rw [w];exact ⟨.ref _,_,I.qE (r.append r2) (by rw [cP];omega),rfl,q _ I.fresh⟩
def vn:R2:=λx y H Q=> ∃l k a,x= .ref l/\y= .int k/\H l=some (.ai a)/\ -(2^63)<=k/\k<2^63/\a.length*k.toNat<=aS/\
 ∀p,H p=none->Q (.ref p) (aR H p (.ai (eP k.toNat a).flatten))
def ON {c:Type} (a:List c) (k:Nat):(eP k a).flatten.length=k*a.length:=by
 induction k with
 |zero=>simp
 |succ k d=>rw [pd,qg,cP,d,Nat.succ_mul,Nat.add_comm]
def G8:cp X (gI .Mult) vn:=by
 intro E s σ H x y v u Q I L N h;obtain ⟨l,k,xs,rfl,rfl,O,Y,h2,J,q⟩:=h;cases L;obtain ⟨t,rfl⟩:=N;obtain ⟨z,c,n,r,hl,e⟩:=I.lh O;have i:c.toArray.size*k.toNat<=aS:=by rw [b7,<-hl];exact J
 have j: ¬c.toArray.size*k.toNat>(2^63-1)/8:=by
  have:(aS:Nat)<=(2^63-1)/8:=by decide
  omega
 have o: ¬(!Builtin.List.listFitsIndex k)=true:=by
  rw [fitsIndex_both Y h2];exact eh
 have d: ¬va (c.toArray.size*k.toNat)=true:=by
  rw [Kw i];exact eh
 have p:List.foldl (λw B=>w++B) #[] (eP (if c.toArray.isEmpty=true then 0 else k.toNat) c.toArray)=(eP k.toNat c).flatten.toArray:=by
  have f0: ∀m:Nat,List.foldl (λw B=>w++B) #[] (eP m c.toArray)=(eP m c).flatten.toArray:=λm=>by
   have:=Uv c m [];rw [List.nil_append] at this;exact this
  rw [f0]
  cases c with
  |nil=>simp
  |cons a r'=>rw [if_neg (by simp)]
 refine wpAny_binaryOp_repeat_ref (T:= "list") (U:= "int") (by decide) ⟨_,e,rfl⟩ (λs'=>typeIs_int s' k t) noFill_list_mul F.fills_int_mul F.slot_int_rmul repeat_list F.slot_int_index.lookup
  (sD F.slot_int_rmul (typeIs_int s k t) F.entry_int_rmul (F.args_int_rmul_2 _ _) (int___rmul___int_list k t l c.toArray n)
   ⟨e,rfl,⟨_,e,rfl⟩,sD F.slot_list_mul ⟨_,e,rfl⟩ F.entry_list_mul (F.args_list_mul_2 _ _) (AutoListH.list___mul___list_int_3 l c.toArray n k t o j d) ⟨e,?_⟩⟩)
 rw [p];exact ⟨.ref _,_,I.qE (t':=s.toks) (r.rep k.toNat) (by rw [ON,Nat.mul_comm];exact J),rfl,q _ I.fresh⟩
end
section
variable {Q:Type} [DecidableEq Q]
def bX (a:List (Q×V)) (k:Q):Option V:=(a.find? λc=>decide (c.1=k)).map (·.2)
def putK (a:List (Q×V)) (k:Q) (v:V):List (Q×V):=
 if (a.any λc=>decide (c.1=k))=true then a.map (λc=>if c.1=k then (c.1,v) else c) else a++[(k,v)]
def YU {p:Q×V} {r:List (Q×V)} {k:Q} (e:p.1=k):bX (p::r) k=some p.2:=by simp [bX,sE,e]
def YV {p:Q×V} {r:List (Q×V)} {k:Q} (e: ¬p.1=k):bX (p::r) k=bX r k:=by simp [bX,sE,e]
theorem YW (k:Q): ∀a:List (Q×V),(a.any λc=>decide (c.1=k))=(bX a k).isSome
 | []=>rfl
 |p::r=>by
  rw [sF]
  by_cases e:p.1=k
  . simp only [YU e,decide_eq_true e,Bool.true_or,Option.isSome_some]
  . rw [YV e,decide_eq_false e,Bool.false_or];exact YW k r
def yA (a:List (Q×V)) (k:Q) (v:V):(putK a k v).length<=a.length+1:=by
 unfold putK
 split
 . rw [dc];omega
 . rw [cP,bO,dY];omega
def dr.cT {o:Option V} {u:Option Value} (r:dr o u):o.isSome=u.isSome:=by
 cases o with
 |none=>cases u with
  |none=>rfl
  |some _=>exact (r).elim
 |some _=>cases u with
  |none=>exact (r).elim
  |some _=>rfl
def dr.getD {o:Option V} {u:Option Value} {d:V} {a:Value} (r:dr o u) (c:aK d a):aK (o.getD d) (u.getD a):=by
 cases o with
 |none=>cases u with
  |none=>exact c
  |some _=>exact (show False from r).elim
 |some _=>cases u with
  |none=>exact (show False from r).elim
  |some _=>exact r
def KV.val {a:List (Q×V)} {i:List (Q×Value)} (r:KV a i) (k:Q):dr (bX a k) (valueAt i k):=by
 induction r with
 |nil=>exact lN
 | @cons p q l c h t j=>
  obtain ⟨h1,h2⟩:=h
  by_cases e:p.1=k
  . have d:=h1.symm.trans e;have b:valueAt (q::c) k=some q.2:=by simp [valueAt,sE,d]
    rw [YU e,b];exact h2
  . have d: ¬q.1=k:=λz=>e (h1.trans z)
    have b:valueAt (q::c) k=valueAt c k:=by simp [valueAt,sE,d]
    rw [YV e,b];exact j
def KV.any {a:List (Q×V)} {d:List (Q×Value)} (r:KV a d) (k:Q):(a.any λc=>decide (c.1=k))=d.any λc=>decide (c.1=k):=by
 induction r with
 |nil=>rfl
 |cons h t e=>rw [sF,sF,e,h.1]
def KV.q0 {c:List (Q×V)} {d:List (Q×Value)} (r:KV c d) (k:Q) {y:V} {u:Value} (i:aK y u):
  KV (c.map λa=>if a.1=k then (a.1,y) else a) (d.map λa=>if a.1=k then (a.1,u) else a):=by
 induction r with
 |nil=>exact .nil
 | @cons p q l m h t j=>
  rw [cL,cL];refine .cons ?_ j;obtain ⟨h1,h2⟩:=h
  by_cases e:p.1=k
  . rw [if_pos e,if_pos (h1.symm.trans e)];exact ⟨h1,i⟩
  . rw [if_neg e,if_neg (λz=>e (h1.trans z))];exact ⟨h1,h2⟩
def KV.put {a:List (Q×V)} {c:List (Q×Value)} (r:KV a c) (k:Q) {y:V} {u:Value} (d:aK y u):KV (putK a k y) (stored c k u):=by
 unfold putK stored;rw [r.any k]
 by_cases e:(c.any λh=>decide (h.1=k))=true
 . rw [if_pos e,if_pos e];exact r.q0 k d
 . rw [if_neg e,if_neg e];exact Paired.snoc r ⟨rfl,d⟩
def KV.keys {a:List (Q×V)} {c:List (Q×Value)} (r:KV a c):a.map (·.1)=c.map (·.1):=by
 induction r with
 |nil=>rfl
 |cons h t d=>rw [cL,cL,d,h.1]
def KV.length {dN:List (Q×V)} {vs:List (Q×Value)} (r:KV dN vs):dN.length=vs.length:=AE r
end
def Uf {P:bH} {w:World} {k:aQ} {u:Value} (r:aK (kV k) u):(qw P w).is k u=true:=by
 cases k with
 |inl i=>obtain ⟨t,e⟩:=(r);subst e;exact kN P w i t
 |inr x=>obtain ⟨t,e⟩:=(r);subst e;exact kM P w x t
theorem Ug {P:bH} {w:World}: ∀ {ks:List aQ} {us:List Value},aI (ks.map kV) us->ItemsAre (qw P w) ks us
 | [],_,r=>by rw [q7] at r;cases r;exact .nil
 |k::ks,_,r=>by
  cases r with
  |cons h t=>exact .cons (Uf h) (Ug t)
abbrev KT (H:Hp):List (List aQ×V)->List (List aQ×Addr×Value)->Prop:=lJ λp q=>p.1=q.1/\H q.2.1=some (.ak (p.1.map kV))/\aK p.2 q.2.2
def KT.val {H:Hp} {a:List (List aQ×V)} {i:List (List aQ×Addr×Value)} (r:KT H a i) (k:List aQ):dr (bX a k) ((atKey i k).map (·.2)):=by
 induction r with
 |nil=>exact lN
 | @cons p q l c h t j=>
  obtain ⟨h1,_,h2⟩:=h
  by_cases e:p.1=k
  . have d:=h1.symm.trans e;have b:atKey (q::c) k=some q.2:=by simp [atKey,sE,d]
    rw [YU e,b];exact h2
  . have d: ¬q.1=k:=λz=>e (h1.trans z)
    have b:atKey (q::c) k=atKey c k:=by simp [atKey,sE,d]
    rw [YV e,b];exact j
def KT.q0 {H:Hp} {a:List (List aQ×V)} {d:List (List aQ×Addr×Value)} (r:KT H a d) (k:List aQ) {y:V} {u:Value} (i:aK y u):
  KT H (a.map λc=>if c.1=k then (c.1,y) else c) (d.map (putAt k u)):=by
 induction r with
 |nil=>exact .nil
 | @cons p q m n h t j=>
  rw [cL,cL];refine .cons ?_ j;obtain ⟨h1,h2,l⟩:=h;unfold putAt
  by_cases e:p.1=k
  . rw [if_pos e,if_pos (h1.symm.trans e)];exact ⟨h1,h2,i⟩
  . rw [if_neg e,if_neg (λz=>e (h1.trans z))];exact ⟨h1,h2,l⟩
def KT.put {H:Hp} {a:List (List aQ×V)} {c:List (List aQ×Addr×Value)} (r:KT H a c) (k:List aQ) {b:Addr} {y:V} {u:Value} (h:H b=some (.ak (k.map kV))) (d:aK y u):
   KT H (putK a k y) (storedH c k b u):=by
 have e:(a.any λi=>decide (i.1=k))=(atKey c k).isSome:=by
   rw [YW,(r.val k).cT,C9]
 unfold putK storedH;rw [e]
 by_cases q:(atKey c k).isSome=true
 . rw [if_pos q,if_pos q];exact r.q0 k d
 . rw [if_neg q,if_neg q];exact Paired.snoc r ⟨rfl,h,d⟩
def KT.keeps {H c:Hp} {a:List (List aQ×V)} {d:List (List aQ×Addr×Value)} (r:KT H a d) (h: ∀b e,H b=some (.ak e)->c b=some (.ak e)):KT c a d:=
 lJ.pM r λ_ _ z=>⟨z.1,h _ _ z.2.1,z.2.2⟩
section
variable {P:bH} {w:World} {H:Hp} {h:Heap} {a:Addr}
def G9 {u:HO} (ok:dJ P w H h) (e:Rd H a u):bn P w H h a u:=e.ok ok
def sG {c:List (aQ×V)} (ok:dJ P w H h) (e:Rd H a (.dK c)):c.length<=aS/\(a==lY)=false/\ ∃d,KV c d/\h.DictOf (qw P w) a d:=
 show bn P w H h a (.dK c) from G9 ok e
def AZ {c:List (aQ×V)} (ok:dJ P w H h) (e:H a=some (.dK c)):c.length<=aS/\(a==lY)=false/\ ∃d,KV c d/\h.DictOf (qw P w) a d:=sG ok (.inl e)
def YE {d:List aQ} (ok:dJ P w H h) (e:H a=some (.ak (d.map kV))):(tupleKind (qw P w)).is h d a:=by
 obtain ⟨_,c,r,o,i,j,n,l⟩:=(ok a _ e)
 exact ⟨o,c.toArray,n,i,j,l,by simpa using Ug r⟩
def sI {c:List (List aQ×V)} (ok:dJ P w H h) (e:Rd H a (.dT c)):c.length<=aS/\(a==lY)=false/\
  ∃d,KT H c d/\h.DictOfH (tupleKind (qw P w)) a d:=by
 obtain ⟨z,y,d,r,o,j,n,u,v,B,E,I⟩:=(G9 ok e)
 refine ⟨z,y,d,r,o,j,n,u,v,B,E,λx hx=>?_,I⟩
 have all: ∀ {l:List (List aQ×V)} {m:List (List aQ×Addr×Value)},KT H l m-> ∀x∈m,(tupleKind (qw P w)).is h x.1 x.2.1:=by
  intro l m q
  induction q with
  |nil=>intro x hx;exact nomatch hx
  | @cons p q L N i t J=>
   intro x hx;rcases bJ.mp hx with e|hx
   . subst e;exact YE ok (by rw [<-i.1];exact i.2.1)
   . exact J x hx
 exact all r x hx
def OO {c:List (List aQ×V)} (ok:dJ P w H h) (e:H a=some (.dT c)):c.length<=aS/\(a==lY)=false/\
 ∃d,KT H c d/\h.DictOfH (tupleKind (qw P w)) a d:=sI ok (.inl e)
end
def fG (H:Hp) (a:Addr) (y:V) (r:Option V):Prop:=
 (∃c k,Rd H a (.dK c)/\y=kV k/\r=bX c k)\/ ∃c k b,Rd H a (.dT c)/\y= .ref b/\H b=some (.ak (k.map kV))/\r=bX c k
def hX (H:Hp) (a:Addr) (y v:V) (d:Hp):Prop:=
 (∃c k,H a=some (.dK c)/\y=kV k/\c.length<aS/\d=aR H a (.dK (putK c k v)))\/
 ∃c k b,H a=some (.dT c)/\y= .ref b/\H b=some (.ak (k.map kV))/\c.length<aS/\d=aR H a (.dT (putK c k v))
def fG.k {H:Hp} {a:Addr} {c:List (aQ×V)} {k:aQ} (e:H a=some (.dK c)):fG H a (kV k) (bX c k):= .inl ⟨c,k,.inl e,rfl,rfl⟩
def hX.k {H:Hp} {a:Addr} {c:List (aQ×V)} {k:aQ} {v:V} (e:H a=some (.dK c)) (hl:c.length<aS):hX H a (kV k) v (aR H a (.dK (putK c k v))):= .inl ⟨c,k,e,rfl,hl,rfl⟩
def hX.t {H:Hp} {a b:Addr} {c:List (List aQ×V)} {k:List aQ} {v:V} (e:H a=some (.dT c)) (d:H b=some (.ak (k.map kV))) (hl:c.length<aS):
 hX H a (.ref b) v (aR H a (.dT (putK c k v))):= .inr ⟨c,k,b,e,rfl,d,hl,rfl⟩
section
variable {X:Cx} {pins:List (Addr×Obj)} {σ:St} {H:Hp} {s:aM} {a:Addr} {y v:V} {u r:Value} {o:Option V} {A:bQ} {E:Vt}
def aA.big (I:aA X pins σ H s):lY<s.heap.objs.size:=by
 exact Nat.lt_trans (by decide) ((I.mod.glob.keeps I.bk).lt)
def OP {Q:Vt} (B:A.units+1<cLine) (I:aA X pins σ H s) (g:fG H a y (some v)) (q:aK y u) (h: ∀i w,aA X pins σ H w->aK v i->Q i w):
   wpAny (model X.prog X.w) A (getItem (.ref a) u) Q E s:=by
 rcases g with ⟨j,k,e,m,l⟩| ⟨j,k,b,e,m,J,l⟩
 . subst m;obtain ⟨z,L,O,c,dd⟩:=sG I.aY e;obtain ⟨i,hw,d⟩:=dr.some_of (by rw [l];exact c.val k);exact wpAny_getItem_of (Uf q) dd.mapOf hw (h i _ (I.tok _) d)
 . subst m;cases (q);obtain ⟨z,L,U,c,dd⟩:=sI I.aY e;obtain ⟨i,hw,d⟩:=dr.some_of (by rw [l];exact c.val k);obtain ⟨p,N,n⟩:=Db.mp hw;refine wpAny_getItem_heap (vo B) (YE I.aY J) dd N ?_;rw [n];exact h i _ (I.tok _) d
def Dc {Q:Vt} (p:A.units+1<cLine) (I:aA X pins σ H s) (g:fG H a y o) (m:aK y u) (h: ∀n,aA X pins σ H n->Q (.bool o.isSome) n):
   wpAny (model X.prog X.w) A (eR .In u (.ref a)) Q E s:=by
 rcases g with ⟨d,k,e,i,l⟩| ⟨d,k,b,e,i,w,l⟩
 . subst i;obtain ⟨z,j,B,c,dd⟩:=sG I.aY e;refine wpAny_in_of (Uf m) j dd.mapOf ?_;rw [<-(c.val k).cT,<-l];exact h _ (I.tok _)
 . subst i;cases (show u=di b from m);obtain ⟨z,j,J,c,dd⟩:=sI I.aY e;refine wpAny_in_heap (vo p) (YE I.aY w) j dd ?_;have q:=(c.val k).cT;rw [C9] at q;rw [<-q,<-l];exact h _ (I.tok _)
def OQ {Q:Vt} (p:A.units+1<cLine) (I:aA X pins σ H s) (g:fG H a y o) (m:aK y u) (h: ∀n,aA X pins σ H n->Q (.bool (!o.isSome)) n):
   wpAny (model X.prog X.w) A (eR .NotIn u (.ref a)) Q E s:=by
 rcases g with ⟨d,k,e,i,l⟩| ⟨d,k,b,e,i,w,l⟩
 . subst i;obtain ⟨z,j,B,c,dd⟩:=sG I.aY e;refine wpAny_notIn_of (Uf m) j dd.mapOf ?_;rw [<-(c.val k).cT,<-l];exact h _ (I.tok _)
 . subst i;cases (m);obtain ⟨z,j,J,c,dd⟩:=sI I.aY e;refine wpAny_notIn_heap (vo p) (YE I.aY w) j dd ?_;have q:=(c.val k).cT;rw [C9] at q;rw [<-q,<-l];exact h _ (I.tok _)
def KZ {c:Heap} {d:Nat} {ob:HO} (I:aA X pins σ H s) (e:mG (H a)) (h:pO a s.heap c) (i: ∃q,c.get? a=some q) (new:bn X.prog X.w (aR H a ob) c a ob):
  aA X pins σ (aR H a ob) {s with heap:=c,toks:=d}:=
 I.write e (.inl rfl) (λb q j z=>(h.2 b j).trans z) i new
def Dd {P:bH} {w:World} {i:Hp} {h:Heap} {c:List (aQ×V)} {d:List (aQ×Value)} (z:c.length<=aS) (j:(a==lY)=false) (e:KV c d) (dd:h.DictOf (qw P w) a d):
 bn P w i h a (.dK c):=⟨z,j,d,e,dd⟩
def OR {L:Hp} {Q:Unit->aM->Prop} (hu:A.units+1<cLine) (I:aA X pins σ H s) (g:hX H a y v L) (N:aK y u) (O:aK v r) (h: ∀U,aA X pins σ L U->Q () U):
   wpAny (model X.prog X.w) A (setItem (.ref a) u r) Q E s:=by
 rcases g with ⟨d,k,e,n,l,p⟩| ⟨d,k,b,e,n,Y,l,p⟩
 . subst n p;obtain ⟨z,w,vs,i,dd⟩:=AZ I.aY e;have hz:vs.length<=aS:=by rw [<-i.length];exact z
   have B:(putK d k v).length<=aS:=by have:=yA d k v;omega
   refine wpAny_setItem_pairs (Uf N) dd λh' j J=>h _ ?_
   have he: ∃q,h'.get? a=some q:=let ⟨q,_,_,m,_⟩:=j;⟨q,m⟩
   exact KZ I (by rw [e];exact lN) J he (Dd B w (i.put k O) j)
 . subst n p;cases (N);obtain ⟨z,w,xs,i,dd⟩:=OO I.aY e;have hz:xs.length<=aS:=by rw [<-AE i];exact z
   have B:(putK d k v).length<=aS:=by have:=yA d k v;omega
   refine wpAny_setItem_heap (vo hu) (YE I.aY Y) dd λh' j J=>h _ ?_
   obtain ⟨q,es,ep,m,h2,h3,h4,_,h5⟩:=j;refine KZ I (by rw [e];exact lN) J ⟨q,m⟩ ⟨B,w,_,(i.put k Y O).keeps λc ys ec=>?_,q,es,ep,m,h2,h3,h4,h5⟩;rw [j3 (Nf ec e (λz=>nomatch z))];exact ec
end
def vf {X:Cx} {c:List (Addr×Obj)} {h:St} {H:Hp} {s:aM} {a:Addr} {y:V} {o:Option V} (I:aA X c h H s) (g:fG H a y o):s.TypeIs (.ref a) "dict" :=by
 rcases g with ⟨d,k,e,_,_⟩| ⟨d,k,b,e,_,_,_⟩
 . obtain ⟨_,_,i,_,dd⟩:=sG I.aY e;exact dd.typeIs
 . obtain ⟨_,_,j,_,dd⟩:=sI I.aY e;exact dd.typeIs
def OS (e h i:TE):TS:=λD c H=>i c H λv j=>e c j λx l=>h c l λy m=> ∃a d,x= .ref a/\hX m a y v d/\D.nx c d
section
variable {X:Cx} {o i e value:Expr} {pos q gt:Pos} {td ty tv:TE}
def kn (l:X.A.units+1<cLine) (m:PE X o td) (n:PE X i ty) (p:PE X value tv) (w:g8 value (some (.Subscript o i q)) pos.line X.env=pure false):
  PS X (.Assign [.Subscript o i q] value pos) (OS td ty tv):=by
 intro c s d H D I h;refine wpAny_Assign_Subscript (bc (p c s d H _ I h) λr z ⟨v,B,E,J,L⟩=>bc (m c z d B _ E L) λu N ⟨x,O,Q,U,Y⟩=>bc (n c N d O _ Q Y) λiv s3 j=>?_) w;obtain ⟨y,H3,I3,ry,a,H4,ex,g,q3⟩:=j;subst ex;obtain rfl:u=di a:=U;exact OR l I3 g ry J λs4 I4=>⟨d,H4,I4,q3⟩
end
def uE {P:bH} {w:World} {H:Hp} (h:Heap) (a:lY<h.objs.size):bn P w H (h.push {cls:= .type "dict",data:= .dict #[]}) h.objs.size (.dK []):=
 ⟨gl _,beq_eq_false_iff_ne.mpr (iH (eB a)),[],.nil,Heap.DictOf.new h⟩
def OT {P:bH} {w:World} {H:Hp} (h:Heap) (a:lY<h.objs.size):bn P w H (h.push {cls:= .type "dict",data:= .dict #[]}) h.objs.size (.dT []):=
 ⟨gl _,beq_eq_false_iff_ne.mpr (iH (eB a)),[],.nil,_, #[],0,dn _ rfl,⟨rfl,rfl,rfl⟩,rfl,rfl,A0⟩
def OU:TE:=λ_ H Q=> ∀p,H p=none->Q (.ref p) (aR H p (.dK []))
def OV:TE:=λ_ H Q=> ∀p,H p=none->Q (.ref p) (aR H p (.dT []))
section
variable {X:Cx} {z:Pos}
def OW:PE X (.Dict [] [] z) OU:=λa s c H Q I h=>
 wpAny_Dict_empty ⟨.ref s.heap.objs.size,_,I.laid (λ_ _ q=>bW _ q) (br _) (uE s.heap I.big),rfl,h _ (I.aY.fresh (br _))⟩
def OX:PE X (.Dict [] [] z) OV:=λa s c H Q I h=>
 wpAny_Dict_empty ⟨.ref s.heap.objs.size,_,I.laid (λ_ _ q=>bW _ q) (br _) (OT s.heap I.big),rfl,h _ (I.aY.fresh (br _))⟩
end
def vq:List (TE×TE)->St->Hp->(List (V×V)->Hp->Prop)->Prop
 | [],_,H,Q=>Q [] H
 | (tk,c)::r,a,H,Q=>tk a H λx d=>c a d λy e=>vq r a e λh i=>Q ((x,y)::h) i
abbrev VV:List (V×V)->List (Value×Value)->Prop:=lJ λp q=>aK p.1 q.1/\aK p.2 q.2
def vr (X:Cx) (d:Pos) (keys:List (Option Expr)) (a:List Expr) (fH:List (TE×TE)):Prop:=
 ∀(c:List (Addr×Obj)) (s:aM) (e:St) (H:Hp) (Q:List (V×V)->Hp->Prop),aA X c e H s->vq fH e H Q->
  wpAny (model X.prog X.w) X.A (evalPairs (pairTrees keys a X.env d)) (λj l=> ∃h i,aA X c e i l/\VV h j/\Q h i) X.xe s
def OY {X:Cx} {a:Pos}:vr X a [] [] []:=λc s d H Q I h=>pairTrees_nil_walk ⟨[],H,I,.nil,h⟩
def OZ {X:Cx} {c:Pos} {k v:Expr} {i:List (Option Expr)} {j:List Expr} {tk l:TE} {fH:List (TE×TE)} (m:PE X k tk) (n:PE X v l) (o:vr X c i j fH):
  vr X c (some k::i) (v::j) ((tk,l)::fH):=λa s d H Q I h=>
 pairTrees_cons_walk (bc (m a s d H _ I h) λu p ⟨x,q,r,w,z⟩=>bc (n a p d q _ r z) λw2 B ⟨y,E,J,L,N⟩=>
  bc (o a B d E _ J N) λws s3 ⟨O,U,Y,e,q3⟩=>⟨(x,y)::O,U,Y,.cons ⟨w,L⟩ e,q3⟩)
def Wn (c a:List (aQ×V)):List (aQ×V):=a.foldl (λd e=>putK d e.1 e.2) c
def KV.merge: ∀ {more:List (aQ×V)} {d:List (aQ×Value)} {a:List (aQ×V)} {c:List (aQ×Value)},KV more d->KV a c->KV (Wn a more) (merged c d):=by
 intro more d a c r;unfold KV at r
 induction r generalizing a c with
 |nil=>intro q;exact q
 | @cons p q l m h t i=>
  intro j
  have e:KV (putK a p.1 p.2) (stored c q.1 q.2):=by
   have:=j.put p.1 h.2;rw [<-h.1];exact this
  exact i e
theorem Zm: ∀(c a:List (aQ×V)),(Wn a c).length<=a.length+c.length
 | [],a=>by show a.length<=a.length+0;omega
 |p::r,a=>by
  have d:=Zm r (putK a p.1 p.2);have e:=yA a p.1 p.2;show (Wn (putK a p.1 p.2) r).length<=_;rw [bO];omega
theorem YR {P:bH} {w:World}: ∀ {d:List (aQ×V)} {i:List (Value×Value)},VV (d.map λj=>(kV j.1,j.2)) i-> ∃e,Carries (qw P w) i e/\KV d e
 | [],_,r=>by rw [q7] at r;cases r;exact ⟨[],lN,.nil⟩
 |p::d,_,r=>by
  rw [cL] at r
  cases r with
  | @cons a b m bs h t=>
   obtain ⟨e,c,q⟩:=YR (P:=P) (w:=w) t;obtain ⟨n,l⟩:=b;exact ⟨(p.1,l)::e,⟨Uf h.1,rfl,c⟩,.cons ⟨rfl,h.2⟩ q⟩
def O0 (fH:List (TE×TE)):TE:=λe H Q=> ∀p,H p=none->vq fH e (aR H p (.dK [])) λh c=>c p=some (.dK [])/\ ∃a:List (aQ×V),h=a.map (λd=>(kV d.1,d.2))/\a.length<=15/\Q (.ref p) (aR c p (.dK (Wn [] a)))
def O1 {X:Cx} {i:Pos} {keys:List (Option Expr)} {d:List Expr} {fH:List (TE×TE)} (h:vr X i keys d fH) (j:keys.all (·.isSome)=true) (y:keys.length=d.length) (B:keys≠[])
  (p:keys.length<=15):PE X (.Dict keys d i) (O0 fH):=by
 intro l s E H Q I q;have J:=I.aY.fresh (br s.heap.objs.size);have L:=I.laid (a:=s.heap.objs.size) (o:= .dK []) (h':=s.heap.push {cls:= .type "dict",data:= .dict #[]}) (t':=s.toks) (λ_ _ q=>bW _ q) (br _) (uE s.heap I.big);refine wpAny_Dict_walk (knd:=qw X.prog X.w) j y B p (bc (h l _ E _ _ L (q _ J)) λws s2 r=>?_);obtain ⟨ps,H2,v,u,e,m,N,lk,O⟩:=r;subst N;obtain ⟨U,c,Y⟩:=YR (P:=X.prog) (w:=X.w) u;obtain ⟨z,hd,vs0,r0,dd⟩:=AZ v.aY e;cases r0;refine ⟨U,c,dd,λh' n hs=>⟨.ref s.heap.objs.size,_,?_,rfl,O⟩⟩
 have hz:(Wn [] m).length<=aS:=by
  have h1:=Zm m [];rw [dY] at h1;rw [ol];omega
 have he: ∃q,h'.get? s.heap.objs.size=some q:=let ⟨q,_,_,hq,_⟩:=n;⟨q,hq⟩
 exact KZ v (by rw [e];exact lN) hs he (Dd hz hd (Y.merge .nil) n)
structure M1 (X:Cx) (o:Expr) (m:Str) (apos:Pos) (e:Expr) (cj:Pos):Prop where
 af:l7 o m X.env (eval o X.env)=eval o X.env
 De:((dA cj (bg [e] X.env)).all (λx=>!x.1)&&(fV cj (fW [] X.env)).all (λx=>x.1.isSome)
  &&decide (([e]:List Expr).length+([]:List fO).length+(if ([]:List fO).isEmpty then 0 else 1)<30))=true
 line:(apos.endLine==cj.line)=true
 trees:dA cj (bg [e] X.env)=[(false,eval e X.env)]
structure M2 (X:Cx) (o:Expr) (m:Str) (apos:Pos) (e f:Expr) (cj:Pos):Prop where
 af:l7 o m X.env (eval o X.env)=eval o X.env
 De:((dA cj (bg [e,f] X.env)).all (λx=>!x.1)&&(fV cj (fW [] X.env)).all (λx=>x.1.isSome)
  &&decide (([e,f]:List Expr).length+([]:List fO).length+(if ([]:List fO).isEmpty then 0 else 1)<30))=true
 line:(apos.endLine==cj.line)=true
 trees:dA cj (bg [e,f] X.env)=[(false,eval e X.env),(false,eval f X.env)]
section
variable {X:Cx} {pins:List (Addr×Obj)} {σ:St} {H:Hp} {s:aM} {a:Addr} {y d:V} {u r:Value} {o:Option V} {A:bQ} {E:Vt}
def O2 {Q:Vt} (w:A.units+1<cLine) (I:aA X pins σ H s) (g:fG H a y o) (n:aK y u) (p:aK d r) (h: ∀q v,aA X pins σ H v->aK (o.getD d) q->Q q v):
   wpAny (model X.prog X.w) A (call (.builtin "dict.get") [.ref a,u,r]) Q E s:=by
 rcases g with ⟨i,k,e,j,l⟩| ⟨i,k,b,e,j,B,l⟩
 . subst j;obtain ⟨z,m,L,c,dd⟩:=sG I.aY e;refine call_meetsIn Df dd.typeIs PySem.F.entry_dict_get (PySem.F.args_dict_get_3 _ _ _) (meets_dict_get_default (qw X.prog X.w) a (Uf n) m r) ⟨_,dd.mapOf,h _ _ (I.tok _) ?_⟩;rw [l];exact (c.val k).getD p
 . subst j;cases (show u=di b from n);obtain ⟨z,m,J,c,dd⟩:=sI I.aY e;refine call_meetsIn Df dd.typeIs PySem.F.entry_dict_get (PySem.F.args_dict_get_3 _ _ _) (meetsH_dict_get_default (tupleKind (qw X.prog X.w)) a b m r) ⟨vo w,k,J,YE I.aY B,dd,h _ _ (I.tok _) ?_⟩;rw [l];exact (c.val k).getD p
end
end L2
namespace Att
open PySem PySem.W PySem.Calls PyProof.Rows
def Xz {P:Params} {h:Heap}: ∀(c:List Int) (d:List Value),WellAll P h d (c.map WData.int)->IntsAre d c:=by
 intro c
 induction c with
 |nil=>
  intro d w;cases w;exact .nil
 |cons n c e=>
  intro d w
  cases w with
  |cons a b=>
   cases a;exact .cons _ _ (e _ b)
def O5 {l:vu} {n:Nat} (y:l.most=some n) {P:Params} {h:Heap} {args:List WData} {c:List Value}
  (e:l.row.toRowW.claim.pre args=true) (p:WellAll P h c args):
  ∃a w i,c=[di a]/\args=[WData.list (i.map WData.int)]/\h.get? a=some {cls:= .type "list",data:= .seq w.toArray}/\IntsAre w i/\i.length<=n:=by
 have u:=(pre_splitW e).1;have z:l.pre.holds [] {args:=args}=true:=(pre_splitW e).2;obtain ⟨d,r,rfl,B,E⟩:=hasAllW_cons u;obtain rfl:=hasAllW_nil E;obtain ⟨N,rfl,H⟩:=hasW_list B;obtain ⟨i,rfl⟩:=items_int H
 have j:i.length<=n:=by
  have o:(WTm.not (.lt (.lit (.int n)) (.len (.arg 0)))).holds [] {args:=[.list (i.map .int)]}=true:=by
   have o:=(holds_andW z).1;rw [y] at o;exact o
  have v:=condW_of o (w_not (w_lt w_lit (w_len_list (w_arg rfl))));refine Nat.le_of_not_lt λq=>?_
  first
   | (rw [decide_eq_true O] at v;exact absurd v (by decide))
   | (simp at v;omega)
 cases p with
 |cons I J=>
  cases J
  cases I with
  |list L m=>exact ⟨_,_,i,rfl,rfl,L,Xz i _ m,j⟩
def O6 (l:vu) (args:List WData):l.row.toRowW.claim.post args (.bool true) args=true:=
 postW_of
  (by first|rfl|decide|simp [WShape.has,WShape.arms,WShape.armsAll])
  (w_eq_bool (w_res rfl) w_lit) rfl
end Att
namespace L2
open PySem PySem.Spec PyProof.Rows
theorem Vi: ∀ {a:List Value} {c:List Int},IntsAre a c->aI (c.map V.int) a
 |_,_,.nil=> .nil
 |_,_,.cons n t h=> .cons ⟨t,rfl⟩ (Vi h)
def q8 (H:Hp):Prop:= ∀b,H b=none\/ ∃o a,H b=some (.cJ o (.ai a))
def O7 {P:bH} {w:World} {K:aC} {mg mb:W0} {CX:l8} {k:Nat} {fa a:Addr} {fd:lc} {x:Str} {sp:Sp} {c:aM} {I:List Value} {J:List Int}
  (KX:K.In c.heap) (L:c.heap.Ns bM mg) (j:c.heap.Ns builtinsNs mb) (sJ: ∀x:Str,x≠ "__name__" ->mb x=jW x) (N:c.heap.NoLimit) (hg:c.gens= #[])
  (ha:c.heap.get? a=some {cls:= .type "list",data:= .seq I.toArray}) (hi:IntsAre I J) (hl:J.length<=aS) (hr:aE k callerA)
  (F: ∀l:Heap,K.In l->l.Ns bM mg->bR P w K mg l CX k fa fd [x] sp) (E: ∀(s:aM) (u:Value),BindsTo s fd ⟨[u],[]⟩ [(x,u)])
  (sB: ∀H:Hp,q8 H->da K H a (J.map V.int)->sp [.ref a] H (λv _=>v= .bl true) λ_ _ _=>False)
  (O8: ∀H e p,CX [] H c (λ_ _ _=>False) e p->False):
  om (model P w) callerA (.call (.ref fa) ⟨[.ref a],[]⟩) (λr p=>r= .ok (.ret (.bool true))/\OldK c.heap p.heap/\p.os=c.os/\nQ p.gens) c:=by
 have rv:=Vi hi;have O:=hi.length
 have B: ∀H:Hp,q8 H->da K H a (J.map V.int)->dJ P w H c.heap->(∀b,H b≠none->b=a)->(H a≠none->K.lookup a=none)->
    om (model P w) callerA (.call (.ref fa) ⟨[.ref a],[]⟩) (λr p=>r= .ok (.ret (.bool true))/\OldK c.heap p.heap/\p.os=c.os/\nQ p.gens) c:=by
  intro H hO hS Q hA hK;have i: ∀ {b:Addr} {o:Obj},c.heap.get? b=some o->H b=none->(iG c.heap H).get? b=some o:=λe n=>Ni e n
  have oq: ∀ {b:Addr} {o:Obj} {es:Array DictEntry} {ep:Nat},c.heap.get? b=some o->o.data= .dict es ep->H b=none:=λ{b o es ep} e d=>by
    cases q:H b with
    |none=>rfl
    |some u=>
      have e':=hA b (by rw [q];simp);subst e';rw [ha] at e;cases e;have d':=d;cases d'
  have y: ∀ {b:Addr} {m:W0},c.heap.Ns b m->(iG c.heap H).Ns b m:=λ{b m} ⟨o,es,ep,e,d,r⟩=>⟨o,es,ep,i e (oq e d),d,r⟩
  have U:K.In (iG c.heap H):=λb o e=>i (KX b o e) (by
    cases q:H b with
    |none=>rfl
    |some u=>
      have e':=hA b (by rw [q];simp);subst e'
      rw [hK (by rw [q];simp)] at e;cases e)
  have hM:Mod K mg (iG c.heap H):=⟨U,y L,⟨mb,y j,sJ⟩,let ⟨mc,h1,h2⟩:=N;⟨mc,y h1,h2⟩⟩
  refine o8 ((F _ U (y L)).run callerA [] c H ⟨[.ref a],[]⟩ [.ref a] [.ref a] _ _ hr (⟨rfl,hM,λb o e=>Nj e,AO (Nh _ _),trivial,λb j=>absurd (show b∈([]:List Addr) from j) (by simp),Q,.of_eq hg⟩) (E c (.ref a)) (.cons rfl .nil) (sB H hO hS)) λr p h=>?_
  cases r with
  |error e=>exact (O8 H e p h).elim
  |ok fl=>
    cases fl with
    |next=>exact fU h
    |brk=>exact fU h
    |cont=>exact fU h
    |ret u=>
      obtain ⟨v,H',os,bare,un,Y,r',q⟩:=h;have q':=q;subst q';obtain rfl:u=oW true:=r';refine ⟨rfl,OldK.of_keep λb o e=>?_,os,bare⟩
      cases q:H b with
      |none=>exact un.keep b o e q (by intro z;exact absurd (show b∈([]:List Addr) from z) (by simp)) (by simp)
      |some u=>
       rcases hO b with z| ⟨ob,xs,z⟩
       . rw [q] at z;cases z
       . have z2:=un.fE b ob _ z;obtain ⟨e1,_⟩:=Q b _ z;obtain ⟨e2,_⟩:=Y b _ z2;rw [e] at e1;cases e1;exact e2
 cases hk:K.lookup a with
 |some o=>
  have e:=KX a o hk;rw [ha] at e;cases e;refine B (λ_=>none) (λ_=> .inl rfl) (.inr ⟨_,I.toArray,_,hk,rfl,rfl,rfl,by rw [b7,O];exact hl,by simpa using rv⟩) (λb u z=>by have z':none=some u:=z;cases z') (λb z=>absurd rfl z) λz=>absurd rfl z
 |none=>
  refine B (λb=>if b=a then some (.cJ {cls:= .type "list",data:= .seq I.toArray} (.ai (J.map V.int))) else none) (λb=>?_) (.inl (.inr ⟨{cls:= .type "list",data:= .seq I.toArray},if_pos rfl⟩)) (λb u z=>?_) (λb z=>?_) λ_=>hk
  . by_cases j:b=a
    . exact .inr ⟨_,_,if_pos j⟩
    . exact .inl (if_neg j)
  . by_cases j:b=a
    . have z':=(if_pos j).symm.trans z;cases z';subst j;exact ⟨ha,by rw [dc];exact hl,I,_,rv,ha⟩
    . have z':=(if_neg j).symm.trans z;cases z'
  . by_cases j:b=a
    . exact j
    . exact absurd (if_neg j) z
end L2
/-THE O9 A1 (shape;LID,My.*are Ha):
 My.Adr:a structure of Pa addresses Pb Pc Hb names (classes,sK);My.Txt K t:a structure (Prop) of Pa equations over K;
 My.ra:{K} {implicit addresses ..} (e1:nsIn K bM "law" =some (some (.ref f))) (e2:K.lookup f=some ⟨oc,od,.func (fnOf "law" "law" params body scope dV kV doc pm an vD ct),sl⟩) (e3:nT K vD "law" =true) .. : ∃t,My.Txt K t
set_option maxRecDepth 100000 in
set_option maxHeartbeats 0 in
theorem PySem.Challenge.oB:PySem.Challenge.rb.Holds:=by
 w_on;o_law;k_head;(case hw=>w_witness2)
 k_fill
 refine L2.A2 (l:=PySem.Challenge.rb) (n:=63) (k:=40) (x:= "script") (CX:=λw=> ..) (sp:=λ_=>i.Dg) rfl (by decide) rfl ⟨rfl,by decide,by decide⟩ (λw h Y=>PySem.W.kIn_of Y) ?F ?S ?C
 case F=>
  intro w mg B h z G m
  have T: ∃t,i.Txt (L2.Pd z) t:=by
   dsimp only [L2.Pd]                          --K aV o J «<heap const>w.params» for k_is;refine' i.ra ?e1 ?e2 ?e3 ..
   (case e1=>PySem.W.k_is)                    --in d order:a name->e c->e j->e p
   (case e2=>PySem.W.k_is)
   ..
  obtain ⟨t,T⟩:=T;have E:=m.symm.trans (lS z G T.law);cases E                                       --B L d q aw c;exact ⟨_,λs u=> .of_eq rfl,λaf r nb=>i.rc T r nb⟩     --if «.of_eq rfl» v I y:refine' ⟨_,?b,λaf r nb=>i.rc T r nb⟩;exact λs u=> .of_eq rfl
 case S=>exact λw H a ns hl N O=> ..
 case C=>exact ..
(d tactic k_is has Q namespace:write k_is)-/
namespace L2
open PySem PySem.Spec PyProof.Rows
def QL (s:Stmt) (j:Nat):Stmt:=match s with
 | .ClassDef _ _ _ a _ _ _ _ _ _ _=>a.getD j (.Pass ⟨0,0,0,0⟩)
 |_=> .Pass ⟨0,0,0,0⟩
def qW (s:Stmt):Arguments:=match s with
 | .FunctionDef _ a _ _ _ _ _ _ _ _=>a
 |_=> {posonlyargs:=[],args:=[],vararg:=none,kwonlyargs:=[],kw_defaults:=[],kwarg:=none,defaults:=[]}
def jQ (s:Stmt):List Stmt:=match s with
 | .FunctionDef _ _ b _ _ _ _ _ _ _=>b
 |_=>[]
def jg (s:Stmt):Scope:=match s with
 | .FunctionDef _ _ _ _ _ _ a _ _ _=>a
 |_=> {kind:= .function,names:=[],isGenerator:=false,isCoroutine:=false}
abbrev fQ:l8:=λ_ _ _ _ _ _=>False
abbrev E0:XK:=λ_ _ _=>False
def VA {X:Cx}:Qq fQ X E0:=λ_ _ _ _ _ _ _ h=>h.elim
structure hZ (K:aC) (x qual:Str) (st:Stmt) (f:Addr) (fd:lc):Prop where
 ex: ∃(oc:Value) (od:Option Addr) (kV doc pm:Value) (an:Option Addr) (vD ct:Value) (sA:Array (Option Value)),
  fd=gK x qual (qW st) (jQ st) (jg st) .none kV doc pm an vD ct/\K.lookup f=some ⟨oc,od,.func fd,sA⟩/\nT K vD qual=true
 kp:gj K (.ref f)=true
section
variable {P:bH} {w:World} {K:aC} {mg:W0} {af:Heap}
def hZ.ok {x a:Str} {st:Stmt} {f:Addr} {n:lc} {N i:List Str} {k:Nat} {j:Sp} (F:hZ K x a st f n) (S:ar N i (jg st)) (len: ∀d H Q E,j d H Q E->d.length=i.length)
  (e: ∀(c:Value) (A:bQ) (outer:List Env) (s:aM) (H:Hp) (d:List V) (Q:VK) (E:XK),aE k (A.deeper (fF a (jg st) s.heap.objs.size f c))->j d H Q E->
   ∃t,dk (bA fQ P w K mg af N a (jg st) f c A outer s H E).kf (jQ st) t/\t {nx:=λ_ o=>Q .aU o,rt:=Q} (start N d) H):bR P w K mg af fQ (k+1) f n i j:=by
 obtain ⟨u,v,kV,p,y,z,c,ct,r,rfl,lk,l⟩:=F.ex;refine AT lk l S len λA outer s H d Q E hr m=>?_
 obtain ⟨t,h,q⟩:=e c A outer s H d Q E hr m;exact ⟨t,h.kf,q⟩
def hZ.binds {x a:Str} {st:Stmt} {f:Addr} {m:lc} {e:List Str} (F:hZ K x a st f m)
  (h: ∀(kV c i:Value) (j:Option Addr) (d ct:Value) (l:List Value),l.length=e.length->bindArgs (gK x a (qW st) (jQ st) (jg st) .none kV c i j d ct) ⟨l,[]⟩=pure (e.zip l)):Binds K m e []:=by
 obtain ⟨p,q,kV,c,i,j,d,ct,n,rfl,lk,o⟩:=F.ex;exact .all (h kV c i j d ct)
def Hc {x a:Str} {st:Stmt} {f:Addr} {n:Value} {o i:Option Addr} {h:Array (Option Value)} {kV e j d m:Value} (l:K.lookup f=some ⟨n,o,.func (gK x a (qW st) (jQ st) (jg st) .none kV e j i d m),h⟩)
 (c:nT K d a=true) (k:gj K (.ref f)=true):hZ K x a st f (gK x a (qW st) (jQ st) (jg st) .none kV e j i d m):=⟨⟨n,o,kV,e,j,i,d,m,h,rfl,l,c⟩,k⟩
end
def Ul {A:bQ} {k:Nat} (a:aE k A):A.units+1<cLine:=Dh (Nat.add_le_add_left (by decide) _) a.units
def aq (H a:Hp):Prop:= ∀b o,H b=some o->a b=some o
def aq.refl (H:Hp):aq H H:=λ_ _ h=>h
def aq.trans {H d e:Hp} (a:aq H d) (b:aq d e):aq H e:=λc o h=>b c o (a c o h)
def aq.free {H a:Hp} (e:aq H a) {l:Addr} (h:a l=Option.none):H l=Option.none:=by
 cases q:H l with
 |none=>rfl
 |some o=>
  rw [e l o q] at h;cases h
end L2
set_option maxHeartbeats 4000000
set_option autoImplicit true
set_option relaxedAutoImplicit true
namespace M
open PySem PySem.Spec L2
open PyProof.Rows hiding St
def du {a:Scope} {x:Str} (h:(match a.names.lookup x with|some .local=>true|some .cell=>true|some .free=>true|_=>false)=true):fL a x:=by
 unfold fL
 cases e:a.names.lookup x with
 |none=>rw [e] at h;cases h
 |some k=>rw [e] at h;cases k<;>simp at h ⊢
def h8 {a:Scope} {x:Str} (h:(match a.names.lookup x with|some .local=>true|some .cell=>true|_=>false)=true):L2.Loc a x:=by
 unfold L2.Loc
 cases e:a.names.lookup x with
 |none=>rw [e] at h;cases h
 |some k=>rw [e] at h;cases k<;>simp at h ⊢
inductive D where
 |aU|bl (b:Bool)|int (i:Int)|str (x:Str)
 |ak (ds:List D)|ai (ds:List D)|ei (ds:List D)|aP (ks:List aQ) (vs:List D)|bV (ks:List (List aQ)) (vs:List D)|gm (c:Str)|gL (ks:List aQ) (vs:List D)|gM (ks:List aQ) (vs:List D)|obj (c:Str) (ns:List Str) (vs:List D)|mem (B:List Int) (Φ:Int->Option Int->Prop)|cZ (ds:List D)
mutual
def D.j2:D->Bool
 | .aU=>true
 | .bl _=>true
 | .int _=>true
 | .str _=>true
 | .ak a=>D.dQ a
 | .ai _=>false
 | .ei _=>false
 | .aP _ _=>false
 | .bV _ _=>false
 | .gm _=>true
 | .gL _ _=>false
 | .gM _ _=>false
 | .obj _ _ _=>false
 | .mem _ _=>false
 | .cZ _=>false
def D.dQ:List D->Bool
 | []=>true
 |d::a=>D.j2 d&&D.dQ a
end
inductive ao (α:Type) where
 |ok (a:α)
 |exc (c:Str)
 |aj
noncomputable def ao.bind {d e:Type} (r:ao d) (f:d->ao e):ao e:=
 match r with
 | .ok a=>f a
 | .exc c=> .exc c
 | .aj=> .aj
instance:Monad ao where
 pure:=ao.ok
 bind:=ao.bind
def He {c d:Type} {a:c} {f:c->ao d}:(ao.ok a>>=f)=f a:=rfl
def jd {d e:Type} {r:ao d} {f:d->ao e} {b:e} (h:(r>>=f)= .ok b): ∃a,r= .ok a/\f a= .ok b:=by
 cases r with
 |ok a=>exact ⟨a,rfl,h⟩
 |exc c=>cases h
 |aj=>cases h
noncomputable def aV {a:Type} (c:Prop) [Decidable c] (r:ao a):ao a:=if c then r else .aj
def ju {e:Type} {c:Prop} [Decidable c] {r:ao e} {a:e} (h:aV c r= .ok a):c/\r= .ok a:=by
 unfold aV at h
 by_cases d:c
 . rw [if_pos d] at h;exact ⟨d,h⟩
 . rw [if_neg d] at h;cases h
def jl {a:Type} {c:Prop} [Decidable c] {r:ao a} (h:c):aV c r=r:=if_pos h
def m6 (K:aC) (H:Hp) (a:Addr) (d:List V):Prop:=
 (∃o,H a=some (.cJ o (.ai d)))\/
  ∃(o:Obj) (c:Array Value) (n:Nat),K.lookup a=some o/\o.cls= .type "list" /\o.dict=none/\o.data= .seq c n/\c.size<=aS/\aI d c.toList
def m6.nW {K:aC} (h:m6 K H a c):da K H a c:=by
 rcases h with h|h
 . exact .inl (.inr h)
 . exact .inr h
def md:D->List D
 | .ak a=>a
 |_=>[]
mutual
inductive aL (K:aC):(Addr->Prop)->Hp->V->D->Prop where
 |aU {A H}:aL K A H .aU .aU
 |bl {A H} (b:Bool):aL K A H (.bl b) (.bl b)
 |int {A H} (i:Int):aL K A H (.int i) (.int i)
 |str {A H} (x:Str):x.length<=aS->aL K A H (.str x) (.str x)
 |ak {A H} {a:Addr} {xs:List V} {ds:List D}:H a=some (.ak xs)->au K A H xs ds->aL K A H (.ref a) (.ak ds)
 |ai {A H} {a:Addr} {xs:List V} {ds:List D}:H a=some (.ai xs)->A a->au K (λc=>A c/\c≠a) H xs ds->aL K A H (.ref a) (.ai ds)
 |Di {A H} {a:Addr} {xs:List V} {ds:List D}:m6 K H a xs->au K A H xs ds->aL K A H (.ref a) (.ei ds)
 |aP {A H} {a:Addr} {dN:List (aQ×V)} {vs:List V} {ks:List aQ} {ds:List D}:H a=some (.dK dN)->A a->dN.map (·.1)=ks->dN.map (·.2)=vs->au K (λc=>A c/\c≠a) H vs ds->aL K A H (.ref a) (.aP ks ds)
 |bV {A H} {a:Addr} {dN:List ((List aQ)×V)} {vs:List V} {ks:List (List aQ)} {ds:List D}:H a=some (.dT dN)->A a->dN.map (·.1)=ks->dN.map (·.2)=vs->au K (λc=>A c/\c≠a) H vs ds->aL K A H (.ref a) (.bV ks ds)
 |gm {A H} {a b C:Addr} {o:Obj} {c:Str}:H a=some (.cJ o (.aw b))->o.cls= .ref C->cg K bM c=some (some (.ref C))->aL K A H (.ref a) (.gm c)
 |gL {A H} {a:Addr} {dN:List (aQ×V)} {vs:List V} {ks:List aQ} {ds:List D}:((H a=some (.dK dN)/\A a)\/ ∃o,H a=some (.cJ o (.dK dN)))->dN.map (·.1)=ks->dN.map (·.2)=vs->au K (λc=>A c/\c≠a) H vs ds->aL K A H (.ref a) (.gL ks ds)
 |gM {A H} {a:Addr} {dN:List (aQ×V)} {vs:List V} {ks:List aQ} {ds:List D}:(∃o,H a=some (.cJ o (.dK dN)))->dN.map (·.1)=ks->dN.map (·.2)=vs->au K (λc=>A c/\c≠a) H vs ds->aL K A H (.ref a) (.gM ks ds)
 |obj {A H} {a C dx:Addr} {fs:List (Str×V)} {vs:List V} {c:Str} {ns:List Str} {ds:List D}:H a=some (.ins C dx fs)->A a->(cg K bM c=some (some (.ref C))/\fs.map (·.1)=ns)->fs.map (·.2)=vs->au K (λc=>A c/\c≠a) H vs ds->aL K A H (.ref a) (.obj c ns ds)
 |mem {A H} {a:Addr} {B:List Int} {Φ:Int->Option Int->Prop}:H a=some (.memo B Φ)->A a->aL K A H (.ref a) (.mem B Φ)
 |cZ {A H} {a:Addr} {rs:List (Addr×List V)} {ds es:List D}:H a=some (.cZ rs)->A a->rs.map (λr=>r.2.length)=ds.map (λd=>(md d).length)->ds.flatMap md=es->au K (λc=>A c/\c≠a) H (rs.flatMap (·.2)) es->aL K A H (.ref a) (.cZ ds)
inductive au (K:aC):(Addr->Prop)->Hp->List V->List D->Prop where
 |nil {A H}:au K A H [] []
 |cons {A H} {v:V} {d:D} {vs:List V} {ds:List D}:aL K A H v d->au K A H vs ds->au K A H (v::vs) (d::ds)
end
def eT (A:WZ) (H c:Hp):Prop:= ∀a o,H a=some o->(mG (some o)->A a)->c a=some o
def eT.mono (h:eT A H c) (w: ∀a,B a->A a):eT B H c:=λa o e m=>h a o e λz=>w a (m z)
section
variable {K:aC}
def m6.a9 (h:m6 K H a c) (st:eT A H Q):m6 K Q a c:=by
 rcases h with ⟨o,e⟩|h
 . exact .inl ⟨o,st a _ e (λz=>z.elim)⟩
 . exact .inr h
def au.a9 (r:au K A H j m):eT A H Q->(∀a,A a->c a)->au K c Q j m:=by
 refine au.rec (motive_1:=λA H v d _=> ∀B:Addr->Prop,eT A H Q->(∀a,A a->B a)->aL K B Q v d) (λ_ _ _=> .aU) (λb _ _ _=> .bl b) (λi _ _ _=> .int i) (λx h _ _ _=> .str x h) (λe _ r _ s w=> .ak (s _ _ e λz=>z.elim) (r _ s w)) (λe a _ r _ s w=> .ai (s _ _ e λ_=>a) (w _ a) (r _ ?_ ?_)) (λe _ r _ s w=> .Di (e.a9 s) (r _ s w)) (λe a k l _ r _ s w=> .aP (s _ _ e λ_=>a) (w _ a) k l (r _ ?_ ?_)) (λe a k l _ r _ s w=> .bV (s _ _ e λ_=>a) (w _ a) k l (r _ ?_ ?_)) (λe k l _ s w=> .gm (s _ _ e λz=>z.elim) k l) (λe k l _ r _ s w=> .gL (e.elim (λz=> .inl ⟨s _ _ z.1 λ_=>z.2,w _ z.2⟩) (λz=>z.elim λ_ z=> .inr ⟨_,s _ _ z λz=>z.elim⟩)) k l (r _ ?_ ?_)) (λe k l _ r _ s w=> .gM (e.elim λ_ z=>⟨_,s _ _ z λz=>z.elim⟩) k l (r _ ?_ ?_)) (λe a k l _ r _ s w=> .obj (s _ _ e λ_=>a) (w _ a) k l (r _ ?_ ?_)) (λe a _ s w=> .mem (s _ _ e λ_=>a) (w _ a)) (λe a k l _ r _ s w=> .cZ (s _ _ e λ_=>a) (w _ a) k l (r _ ?_ ?_)) (λ_ _ _=> .nil) (λ_ _ h t _ s w=> .cons (h _ s w) (t _ s w)) r c
 any_goals exact s.mono λ_ z=>z.1
 all_goals exact λ_ z=>⟨w _ z.1,z.2⟩
def aL.a9 (r:aL K A H v d) (s:eT A H Q) (w: ∀a,A a->c a):aL K c Q v d:=by
 cases au.a9 (.cons r .nil) s w;assumption
def aq.a9 (h:aq H Q):eT A H Q:=λa o e _=>h a o e
variable {A A':WZ} {H Q:Hp}
def aL.am (r:aL K A H v d) (h:aq H Q):aL K A Q v d:=r.a9 (aq.a9 h) λ_ z=>z
def au.am (r:au K A H v d) (h:aq H Q):au K A Q v d:=r.a9 (aq.a9 h) λ_ z=>z
def aL.aH (r:aL K A H v d) (w: ∀a,A a->A' a):aL K A' H v d:=r.a9 (λ_ _ e _=>e) w
def au.aH (r:au K A H v d) (w: ∀a,A a->A' a):au K A' H v d:=r.a9 (λ_ _ e _=>e) w
def au.j2 (r:au K A H c a):D.dQ a=true->au K A' H c a:=by
 refine au.rec (motive_1:=λ_ H v d _=>d.j2=true->aL K A' H v d) (λ_=> .aU) (λb _=> .bl b) (λi _=> .int i) (λx h _=> .str x h) (λe _ r i=> .ak e (r i)) ?_ ?_ ?_ ?_ (λe k l _=> .gm e k l) ?_ ?_ ?_ ?_ ?_ (λ_=> .nil) (λ_ _ h t i=>?_) r
 case refine_10=>simp only [D.dQ,dD] at i;exact .cons (h i.1) (t i.2)
 all_goals intros;rename_i i;cases i
def aL.j2 (r:aL K A H v d) (i:d.j2=true):aL K A' H v d:=by
 cases au.j2 (.cons r .nil) (by simp [D.dQ,i]);assumption
def au.cH (r:au K A H (v::c) e): ∃d a,e=d::a/\aL K A H v d/\au K A H c a:=by
 cases r with
 |cons r t=>exact ⟨_,_,rfl,r,t⟩
def au.eM (r:au K A H c (d::e)): ∃v a,c=v::a/\aL K A H v d/\au K A H a e:=by
 cases r with
 |cons r t=>exact ⟨_,_,rfl,r,t⟩
def au.eU (r:au K A H [] a):a=[]:=by cases r;rfl
def au.length (r:au K A H vs ds):vs.length=ds.length:=by
 induction vs generalizing ds with
 |nil=>cases r.eU;rfl
 |cons v vs a=>
  obtain ⟨_,_,rfl,_,t⟩:=r.cH;simp [a t]
def au.get {i:Nat} (r:au K A H vs ds) (e:ds[i]?=some d): ∃v,vs[i]?=some v/\aL K A H v d:=by
 induction vs generalizing ds i with
 |nil=>cases r.eU;simp at e
 |cons v vs a=>
  obtain ⟨_,_,rfl,r,t⟩:=r.cH
  cases i with
  |zero=>simp at e;subst e;exact ⟨_,rfl,r⟩
  |succ i=>simpa using a t (by simpa using e)
def au.get' {i:Nat} (r:au K A H a c) (e:a[i]?=some v): ∃d,c[i]?=some d/\aL K A H v d:=by
 induction a generalizing c i with
 |nil=>simp at e
 |cons v a h=>
  obtain ⟨_,_,rfl,r,t⟩:=r.cH
  cases i with
  |zero=>simp at e;subst e;exact ⟨_,rfl,r⟩
  |succ i=>simpa using h t (by simpa using e)
def au.append (r:au K A H a c) (s:au K A H d e):au K A H (a++d) (c++e):=by
 induction a generalizing c with
 |nil=>cases r.eU;exact s
 |cons v a h=>
  obtain ⟨_,_,rfl,r,t⟩:=r.cH;exact .cons r (h t)
def au.take (n:Nat) (r:au K A H a c):au K A H (a.take n) (c.take n):=by
 induction a generalizing c n with
 |nil=>cases r.eU;simpa using .nil
 |cons v a d=>
  obtain ⟨_,_,rfl,r,t⟩:=r.cH
  cases n with
  |zero=>exact .nil
  |succ n=>exact .cons r (d n t)
def au.drop (n:Nat) (r:au K A H a c):au K A H (a.drop n) (c.drop n):=by
 induction a generalizing c n with
 |nil=>cases r.eU;simpa using .nil
 |cons v a d=>
  cases n with
  |zero=>exact r
  |succ n=>
   obtain ⟨_,_,rfl,r,t⟩:=r.cH;exact d n t
theorem au.rep (r:au K A H a c): ∀k:Nat,au K A H (eP k a).flatten (eP k c).flatten
 |0=> .nil
 |k+1=>by
  rw [pd,pd,qg,qg];exact r.append (au.rep r k)
def au.isEmpty (r:au K A H a c):c.isEmpty=a.isEmpty:=by cases r<;>rfl
def gv (K:aC) (A:WZ) (H:Hp) (v:V):D->Prop
 | .aU=>v= .aU
 | .bl b=>v= .bl b
 | .int i=>v= .int i
 | .str x=>v= .str x/\x.length<=aS
 | .ak h=> ∃a j,v= .ref a/\H a=some (.ak j)/\au K A H j h
 | .ai h=> ∃a j,v= .ref a/\H a=some (.ai j)/\A a/\au K (λc=>A c/\c≠a) H j h
 | .ei h=> ∃a j,v= .ref a/\m6 K H a j/\au K A H j h
 | .aP l h=> ∃a e,v= .ref a/\H a=some (.dK e)/\A a/\e.map (·.1)=l/\au K (λc=>A c/\c≠a) H (e.map (·.2)) h
 | .bV l h=> ∃a e,v= .ref a/\H a=some (.dT e)/\A a/\e.map (·.1)=l/\au K (λc=>A c/\c≠a) H (e.map (·.2)) h
 | .gm c=> ∃a b C o,v= .ref a/\H a=some (.cJ o (.aw b))/\o.cls= .ref C/\cg K bM c=some (some (.ref C))
 | .gL l h=> ∃a e,v= .ref a/\((H a=some (.dK e)/\A a)\/ ∃o,H a=some (.cJ o (.dK e)))/\e.map (·.1)=l/\au K (λc=>A c/\c≠a) H (e.map (·.2)) h
 | .gM l h=> ∃a e,v= .ref a/\(∃o,H a=some (.cJ o (.dK e)))/\e.map (·.1)=l/\au K (λc=>A c/\c≠a) H (e.map (·.2)) h
 | .obj c n h=> ∃a C dx fs,v= .ref a/\H a=some (.ins C dx fs)/\A a/\cg K bM c=some (some (.ref C))/\fs.map (·.1)=n/\au K (λc=>A c/\c≠a) H (fs.map (·.2)) h
 | .mem B p=> ∃a,v= .ref a/\H a=some (.memo B p)/\A a
 | .cZ h=> ∃a m,v= .ref a/\H a=some (.cZ m)/\A a/\m.map (λr=>r.2.length)=h.map (λd=>(md d).length)/\au K (λc=>A c/\c≠a) H (m.flatMap (·.2)) (h.flatMap md)
def aL.f (r:aL K A H v d):gv K A H v d:=by
 refine aL.casesOn (motive_1:=λA H v d _=>gv K A H v d) r rfl (λ_=>rfl) (λ_=>rfl) (λ_ h=>⟨rfl,h⟩) (λe r=>⟨_,_,rfl,e,r⟩) (λe h r=>⟨_,_,rfl,e,h,r⟩) (λe r=>⟨_,_,rfl,e,r⟩) (λe h k l r=>⟨_,_,rfl,e,h,k,l▸r⟩) (λe h k l r=>⟨_,_,rfl,e,h,k,l▸r⟩) (λe k l=>⟨_,_,_,_,rfl,e,k,l⟩) (λe k l r=>⟨_,_,rfl,e,k,l▸r⟩) (λe k l r=>⟨_,_,rfl,e,k,l▸r⟩) (λe h k l r=>⟨_,_,_,_,rfl,e,h,k.1,k.2,l▸r⟩) (λe h=>⟨_,rfl,e,h⟩) λe h k l r=>⟨_,_,rfl,e,h,k,l▸r⟩
def aL.cC (r:aL K A H v (.ai e)): ∃a d,v= .ref a/\H a=some (.ai d)/\A a/\au K (λc=>A c/\c≠a) H d e:=r.f
def aL.m7 (r:aL K A H v (.ei d)): ∃a c,v= .ref a/\m6 K H a c/\au K A H c d:=r.f
def aL.dR (r:aL K A H v (.ak d)): ∃a c,v= .ref a/\H a=some (.ak c)/\au K A H c d:=r.f
def aL.cM (r:aL K A H v (.int i)):v= .int i:=r.f
def aL.re (r:aL K A H v (.bl b)):v= .bl b:=r.f
def aL.fY (r:aL K A H v (.str x)):v= .str x/\x.length<=aS:=r.f
def aL.rf (r:aL K A H v .aU):v= .aU:=r.f
def au.low (r:au K (λc=>A c/\c≠a) H d e):au K A H d e:=r.aH λ_ z=>z.1
def au.cw (r:au K A H d j):au K (λc=>A c/\H c≠none) H d j:=by
 refine au.rec .aU (λb=> .bl b) (λi=> .int i) (λx h=> .str x h) (λe _ r=> .ak e r) (λe a _ r=> .ai e ⟨a,?_⟩ ?_) (λe _ r=> .Di e r) (λe a k l _ r=> .aP e ⟨a,?_⟩ k l ?_) (λe a k l _ r=> .bV e ⟨a,?_⟩ k l ?_) (λe k l=> .gm e k l) (λe k l _ r=> .gL (e.elim (λz=> .inl ⟨z.1,z.2,by simp [z.1]⟩) .inr) k l ?_) (λe k l _ r=> .gM e k l ?_) (λe a k l _ r=> .obj e ⟨a,?_⟩ k l ?_) (λe a=> .mem e ⟨a,by simp [e]⟩) (λe a k l _ r=> .cZ e ⟨a,?_⟩ k l ?_) .nil (λ_ _ h t=> .cons h t) r
 any_goals exact r.aH λ_ z=>⟨⟨z.1.1,z.2⟩,z.1.2⟩
 all_goals simp [e]
def aL.cw (r:aL K A H v d):aL K (λc=>A c/\H c≠none) H v d:=by
 cases au.cw (.cons r .nil);assumption
def aq.aR (h:H p=none):aq H (L2.aR H p o):=λb u e=>by rw [j3 (qS e h)];exact e
def au.laid (r:au K A H d h) (a:H p=none):au K (λc=>A c/\c≠p) (L2.aR H p o) d h:=
 (r.cw.am (aq.aR a)).aH λc z=>⟨z.1,λe=>z.2 (by rw [e];exact a)⟩
end
inductive Slot where
 |un
 |aw (d:D)
 |ah (d:D)
abbrev Sl:=List Slot
def zY (c:Sl) (e:St) (a:Addr):Prop:= ∃(i:Nat) (d:D),c[i]?=some (.aw d)/\e[i]?=some (some (.ref a))
abbrev Dj (c:Sl) (d:St):Addr->Prop:=λa=> ¬zY c d a
abbrev Sf (G:WZ) (c:Sl) (d:St):Addr->Prop:=λa=> ¬zY c d a/\G a
inductive Top (K:aC) (A:WZ) (H:Hp) (a:Addr):D->Prop where
 |ai {xs:List V} {ds:List D}:H a=some (.ai xs)->au K A H xs ds->Top K A H a (.ai ds)
 |aP {dN:List (aQ×V)} {vs:List V} {ks:List aQ} {ds:List D}:H a=some (.dK dN)->dN.map (·.1)=ks->dN.map (·.2)=vs->au K A H vs ds->Top K A H a (.aP ks ds)
 |bV {dN:List ((List aQ)×V)} {vs:List V} {ks:List (List aQ)} {ds:List D}:H a=some (.dT dN)->dN.map (·.1)=ks->dN.map (·.2)=vs->au K A H vs ds->Top K A H a (.bV ks ds)
 |obj {C dx:Addr} {fs:List (Str×V)} {vs:List V} {c:Str} {ns:List Str} {ds:List D}:H a=some (.ins C dx fs)->(cg K bM c=some (some (.ref C))/\fs.map (·.1)=ns)->fs.map (·.2)=vs->au K A H vs ds->Top K A H a (.obj c ns ds)
 |cZ {rs:List (Addr×List V)} {ds es:List D}:H a=some (.cZ rs)->rs.map (λr=>r.2.length)=ds.map (λd=>(md d).length)->ds.flatMap md=es->au K A H (rs.flatMap (·.2)) es->Top K A H a (.cZ ds)
def Top.rep {K:aC} (t:Top K A H a d) (w: ∀b,A b->j b/\b≠a) (i:j a):aL K j H (.ref a) d:=by
 cases t with
 |ai e r=>exact .ai e i (r.aH w)
 |aP e c h r=>exact .aP e i c h (r.aH w)
 |bV e c h r=>exact .bV e i c h (r.aH w)
 |obj e c h r=>exact .obj e i c h (r.aH w)
 |cZ e c h r=>exact .cZ e i c h (r.aH w)
def Top.a9 {K:aC} (t:Top K A H a d) (st:eT A H j) (w: ∀b,A b->l b) (i: ∀o,H a=some o->j a=some o):Top K l j a d:=by
 cases t with
 |ai e r=>exact .ai (i _ e) (r.a9 st w)
 |aP e c h r=>exact .aP (i _ e) c h (r.a9 st w)
 |bV e c h r=>exact .bV (i _ e) c h (r.a9 st w)
 |obj e c h r=>exact .obj (i _ e) c h (r.a9 st w)
 |cZ e c h r=>exact .cZ (i _ e) c h (r.a9 st w)
def Top.there {K:aC} (t:Top K A H a d): ∃o,H a=some o/\mG (some o):=by
 cases t with
 |ai e r=>exact ⟨_,e,trivial⟩
 |aP e _ _ r=>exact ⟨_,e,trivial⟩
 |bV e _ _ r=>exact ⟨_,e,trivial⟩
 |obj e _ _ r=>exact ⟨_,e,trivial⟩
 |cZ e _ _ r=>exact ⟨_,e,trivial⟩
structure ay (K:aC) (G:WZ) (H0:Hp) (env:Sl) (σ:St) (H:Hp):Prop where
 len:σ.length=env.length
 af:aq H0 H
 g0: ∀a,H0 a=none->G a
 ah: ∀(i:Nat) (d:D),env[i]?=some (.ah d)-> ∃v,σ[i]?=some (some v)/\aL K (Sf G env σ) H v d
 aw: ∀(i:Nat) (d:D),env[i]?=some (.aw d)-> ∃a,σ[i]?=some (some (.ref a))/\H0 a=none/\Top K (Sf G env σ) H a d
 nX: ∀(i j:Nat) (d e:D) (a:Addr),env[i]?=some (.aw d)->env[j]?=some (.aw e)->σ[i]?=some (some (.ref a))->σ[j]?=some (some (.ref a))->i=j
section
variable {K:aC} {G:WZ} {H0 H H':Hp} {env:Sl} {w:St}
def ay.am (e:ay K G H0 env w H) (h:aq H H'):ay K G H0 env w H' where
 len:=e.len
 af:=e.af.trans h
 g0:=e.g0
 ah:=λi d z=>let ⟨v,h1,h2⟩:=e.ah i d z;⟨v,h1,h2.am h⟩
 aw:=λi d z=>let ⟨a,h1,h2,c⟩:=e.aw i d z;⟨a,h1,h2,c.a9 (aq.a9 h) (λ_ z=>z) (λo q=>h _ o q)⟩
 nX:=e.nX
def ay.there (e:ay K G H0 env w H) (o:zY env w a): ∃u,H a=some u:=by
 obtain ⟨i,d,h1,h2⟩:=o;obtain ⟨b,c,_,h⟩:=e.aw i d h1;rw [h2] at c;cases c;obtain ⟨u,j,_⟩:=h.there;exact ⟨u,j⟩
def ay.li (k:ay K G H0 env w H) {a:Addr} (o:zY env w a) {u:HO} (e:H a=some u):mG (some u):=by
 obtain ⟨i,d,h1,h2⟩:=o;obtain ⟨b,c,_,j⟩:=k.aw i d h1;rw [h2] at c;cases c;obtain ⟨l,h,m⟩:=j.there;rw [e] at h;cases h;exact m
def ay.new (k:ay K G H0 env w H): ∀a,H a=none->Sf G env w a:=λa z=>⟨λo=>(by
 obtain ⟨u,q⟩:=k.there o
 rw [z] at q;cases q),k.g0 a (aq.free k.af z)⟩
end
inductive Lv where
 |b|s|t
abbrev Any:Addr->Prop:=λ_=>True
def Lv.A (l:Lv) (G:WZ) (env:Sl) (a:St):Addr->Prop:=
 match l with
 | .b=>Any
 | .s=>Sf G env a
 | .t=>Sf G env a
def bh (H:Hp) (v:V):Prop:= ∀a,v= .ref a-> ∀o,H a=some o-> ¬mG (some o)
def Lv.T (l:Lv) (H:Hp) (v:V):Prop:=
 match l with
 | .t=>bh H v
 |_=>True
def bh.am (h:aq H c) (n:bh c v):bh H v:=λa e o q=>n a e o (h a o q)
def Lv.m8 {l:Lv} (h:aq H a) (n:l.T a v):l.T H v:=by
 cases l with
 |t=>exact bh.am h n
 |b=>trivial
 |s=>trivial
def tE (K:aC) (l:Lv) (f:Sl->ao D):TE:=λe H Q=> ∃G h a d,ay K G h a e H/\f a= .ok d/\ ∀v c,aq H c->aL K (l.A G a e) c v d->l.T H v->Q v c
def tT (K:aC) (f:Sl->ao Bool):TT:=λd H Q=> ∃G e a b,ay K G e a d H/\f a= .ok b/\ ∀c,aq H c->Q b c
def tA (K:aC) (l:Lv) (f:Sl->ao (List D)):TA:=λd H Q=> ∃G i a e,ay K G i a d H/\f a= .ok e/\ ∀h c,aq H c->au K (l.A G a d) c h e->Q h c
@[irreducible] def DE (X:Cx) (l:Lv) (e:Expr) (f:Sl->ao D):Prop:=PE X e (tE X.K l f)
@[irreducible] def DT (X:Cx) (e:Expr) (f:Sl->ao Bool):Prop:=PT X e (tT X.K f)
@[irreducible] def DA (X:Cx) (l:Lv) (a:List Expr) (f:Sl->ao (List D)):Prop:=PA X a (tA X.K l f)
inductive aW where
 |nx (env:Sl)|rt (fr:Bool) (d:D)|bk (env:Sl)|ct (env:Sl)
abbrev T4:=Sl->ao D
abbrev T3:=Sl->ao Bool
abbrev T2:=Sl->ao aW
abbrev T1:=Sl->ao (List D)
abbrev T0:=List D->ao D
abbrev TZ:=D->Sl->ao Sl
structure be (env:Sl) (σ:St) (H:Hp) (env':Sl) (fR:St) (H':Hp):Prop where
 keep: ∀b o,H b=some o-> ¬zY env σ b->H' b=some o
 more: ∀b,zY env' fR b->zY env σ b\/H b=none
 size: ∀b,H' b=none->H b=none
def mf (K:aC) (G:WZ) (i:Hp) (h:Sl) (j:St) (H:Hp) (E:Ends) (o:aW):Prop:=
 match o with
 | .nx a=> ∀c e,ay K G i a c e->be h j H a c e->E.nx c e
 | .bk a=> ∀c e,ay K G i a c e->be h j H a c e->E.bk c e
 | .ct a=> ∀c e,ay K G i a c e->be h j H a c e->E.ct c e
 | .rt l d=> ∀v e,aq i e->aL K G e v d->(l=true->bh i v)->E.rt v e
def tS (K:aC) (g:T2):TS:=λE c H=> ∃G d a o,ay K G d a c H/\g a= .ok o/\mf K G d a c H E o
@[irreducible] def DS (X:Cx) (st:Stmt) (g:T2):Prop:=PS X st (tS X.K g)
@[irreducible] def gn (X:Cx) (st:List Stmt) (g:T2):Prop:=dk X st (tS X.K g)
section
variable {X:Cx} {e:Expr} {es:List Expr} {st:Stmt} {m:List Stmt}
def PE.imp (h:PE X e t) (w: ∀a H Q,d a H Q->t a H Q):PE X e d:=λc s a H Q I q=>h c s a H Q I (w a H Q q)
def PT.imp (h:PT X e t) (w: ∀a H Q,d a H Q->t a H Q):PT X e d:=λc s a H Q I q=>h c s a H Q I (w a H Q q)
def PA.imp (h:PA X es t) (w: ∀a H Q,i a H Q->t a H Q):PA X es i:=λd c s a H Q I q=>h d c s a H Q I (w a H Q q)
def PS.imp (h:PS X st t) (w: ∀E a H,d E a H->t E a H):PS X st d:=λc s a H E I q=>h c s a H E I (w E a H q)
def dk.imp (h:dk X m t) (w: ∀E a H,d E a H->t E a H):dk X m d:=λc s a H E I q=>h c s a H E I (w E a H q)
end
def be.refl (h:aq H a):be env c H env c a:=⟨λb o e _=>h b o e,λb o=> .inl o,λb e=>aq.free h e⟩
def be.trans (a:be env l H d i m) (b:be d i m h j p):be env l H h j p where
 keep:=λc o e n=>b.keep c o (a.keep c o e n) λz=>by
  rcases a.more c z with z|z
  . exact n z
  . rw [e] at z;cases z
 more:=λc o=>by
  rcases b.more c o with z|z
  . exact a.more c z
  . exact .inr (a.size c z)
 size:=λc e=>a.size c (b.size c e)
def be.am (h:aq H d) (b:be env e d a c i):be env e H a c i:=(be.refl h).trans b
section
variable {X:Cx} {e:Expr} {f:T4}
def Lv.aZ {l:Lv}: ∀a,l.A G env c a->Any a:=λ_ _=>trivial
def DE.b (h:DE X l e f):DE X .b e f:=by
 with_unfolding_all exact (PE.imp h λj H Q ⟨G,a,env,d,k,c,q⟩=>⟨G,a,env,d,k,c,λv i s r _=>q v i s (r.aH Lv.aZ) trivial⟩)
def DE.s (h:DE X .t e f):DE X .s e f:=by
 with_unfolding_all exact (PE.imp h λj H Q ⟨G,a,env,d,k,c,q⟩=>⟨G,a,env,d,k,c,λv i s r _=>q v i s r trivial⟩)
def Hf {K:aC} (s:aq H c) (r:aL K A c v d) (i:d.j2=true):bh H v:=λa e o q m=>by
 subst e;have r:=r.f;cases d<;>try cases i
 . cases r
 . cases r
 . cases r
 . cases r.1
 . obtain ⟨_,_,e1,e,_⟩:=r;cases e1;rw [s _ _ q] at e;cases e;exact m
 . obtain ⟨_,_,_,_,e1,e,_⟩:=r;cases e1;rw [s _ _ q] at e;cases e;exact m
def v3 (f:T4):Sl->ao D:=λa=>f a>>=λd=>aV (d.j2=true) (.ok d)
def DE.v3 {l l':Lv} (h:DE X l e f):DE X l' e (v3 f):=by
 with_unfolding_all exact (PE.imp h λn H Q=>by
  rintro ⟨G,a,env,d,k,c,q⟩;obtain ⟨o,e1,e2⟩:=jd c;obtain ⟨i,j⟩:=ju e2;cases j;refine ⟨G,a,env,d,k,e1,λv m s r _=>q v m s (r.j2 i) ?_⟩
  cases l' with
  |t=>exact Hf s r i
  |b=>trivial
  |s=>trivial)
end
def Kv:Expr->Bool
 | .Starred _ _=>false
 |_=>true
def jm (h:Kv e=true):bg (e::c) a=(false,eval e a)::bg c a:=by
 cases e<;>first|rfl|cases h
def vy (h:a.all Kv=true):(bg a env).all (λx=>!x.1)=true:=by
 induction a with
 |nil=>rfl
 |cons e r c=>
  rw [v4,dD] at h;rw [jm h.1,v4,c h.2];rfl
def uM (h:l.all (λx=>!x.1)=true):(dA pos l).all (λx=>!x.1)=true:=by
 induction l with
 |nil=>rfl
 |cons p r a=>
  obtain ⟨s,t⟩:=p;rw [v4,dD] at h;show ((!s)&&(dA pos r).all (λx=>!x.1))=true;rw [a h.2,Bool.and_true];exact h.1
def jF (h:d.all Kv=true):(dA a (bg d c)).any (·.1)=false:=by
 have:=uM (pos:=a) (vy (env:=c) h);rw [m9] at this;rw [List.any_eq_false];intro x e z;have q:=this x e;rw [z] at q;cases q
def xt (h:(e::d).all Kv=true) (i:decide ((e::d).length<30)=true):
  ((
   dA a (bg (e::d) c)).all (λx=>!x.1)&&(fV a (fW [] c)).all (λx=>x.1.isSome)
   &&decide ((e::d).length+([]:List fO).length+(if ([]:List fO).isEmpty then 0 else 1)<30))=true:=by
 have j:(fV a (fW [] c)).all (λx=>x.1.isSome)=true:=rfl;rw [uM (vy h),j];simpa using i
section
variable {X:Cx} {e a b c o:Expr} {U:List Expr} {Y:Pos} {l L u l':Lv} {f O N J:T4}
def cI (i:Int):Sl->ao D:=λ_=> .ok (.int i)
def cB (b:Bool):Sl->ao D:=λ_=> .ok (.bl b)
def cN:Sl->ao D:=λ_=> .ok .aU
def cS (x:Str):Sl->ao D:=λ_=> .ok (.str x)
def ae (i:Nat):Sl->ao D:=λh=>match h[i]? with
 |some (.ah d)=> .ok d
 |_=> .aj
def cy (i:Nat):Sl->ao D:=λh=>match h[i]? with
 |some (.ah d)=> .ok d
 |some (.aw d)=> .ok d
 |_=> .aj
def Hg (h:ae i j= .ok d):j[i]?=some (.ah d):=by
 unfold ae at h
 split at h
 . cases h;assumption
 . cases h
def Kb (h:cy i j= .ok d):j[i]?=some (.ah d)\/j[i]?=some (.aw d):=by
 unfold cy at h
 split at h
 . cases h;left;assumption
 . cases h;right;assumption
 . cases h
def Yy {K:aC} {i:Nat} {a:Addr} (k:ay K G p h j H) (m:h[i]?=some (.aw d)) (n:j[i]?=some (some (.ref a))): ∀c,Sf G h j c->c≠a:=λc z e=>z.1 (by rw [e];exact ⟨i,d,m,n⟩)
def dv (i:Nat) (j:X.N[i]?=some x:=by rfl) (m:fL X.env.scope x:=by exact du rfl) (n:Y6 x:=by decide)
   (h:Y5 x:=by decide):DE X .s (.Name x Y) (ae i):=by
 with_unfolding_all exact (
  PE.imp (wE j m n h) λz H Q=>by
   rintro ⟨G,B,p,d,k,r,q⟩;obtain ⟨v,w,y⟩:=k.ah i d (Hg r)
   exact ⟨v,w,q v H (aq.refl H) y trivial⟩)
def db (i:Nat) {x:Str} (n:X.N[i]?=some x:=by rfl) (p:fL X.env.scope x:=by exact du rfl) (r:Y6 x:=by decide)
   (j:Y5 x:=by decide):DE X .b (.Name x Y) (cy i):=by
 with_unfolding_all exact (
  PE.imp (wE n p r j) λE H Q=>by
   rintro ⟨G,I,w,d,k,B,q⟩;rcases Kb B with z|z
   . obtain ⟨v,h,m⟩:=k.ah i d z;exact ⟨v,h,q v H (aq.refl H) (m.aH λ_ _=>trivial) trivial⟩
   . obtain ⟨v,h,_,m⟩:=k.aw i d z
     exact ⟨_,h,q _ H (aq.refl H) (m.rep (λc y=>⟨trivial,Yy k z h c y⟩) trivial) trivial⟩)
def Sc (K:aC) (v:V) (d:D):Prop:=(∀A H,aL K A H v d)/\ ∀a,v≠ .ref a
def Sc.T {K:aC} (h:Sc K v d):l.T H v:=by
 cases l with
 |t=>exact λa e=>absurd e (h.2 a)
 |b=>trivial
 |s=>trivial
def j5 {K:aC} (i:Int):Sc K (.int i) (.int i):=⟨λ_ _=> .int i,λa e=>by cases e⟩
def iM {K:aC} (i:Bool):Sc K (.bl i) (.bl i):=⟨λ_ _=> .bl i,λa e=>by cases e⟩
def Pe {K:aC}:Sc K .aU .aU:=⟨λ_ _=> .aU,λa e=>by cases e⟩
def A3 {K:aC} (x:Str) (h:x.length<=aS):Sc K (.str x) (.str x):=⟨λ_ _=> .str x h,λa e=>by cases e⟩
def mh {v:V} {d:D} (h:PE X e (tC v)) (r:Sc X.K v d):DE X l e (λ_=> .ok d):=by
 with_unfolding_all exact (
  PE.imp h λm H Q=>by
   rintro ⟨G,n,i,p,k,j,q⟩;cases j
   exact q v H (aq.refl H) (r.1 _ H) r.T)
def Dk {j}:DE X l (.Constant (.int i) j Y) (cI i):=mh vR (j5 i)
def zm {j}:DE X l (.Constant (.bool i) j Y) (cB i):=mh Nn (iM i)
def Qp {j}:DE X l (.Constant .none j Y) cN:=mh GK Pe
def JM {j} (h:x.length<=aS:=by decide):DE X l (.Constant (.str x) j Y) (cS x):=mh No (A3 x h)
def Hh (d:Gl X x) (h:X.mg x=some (.int i t)) (j:Y6 x:=by decide):DE X l (.Name x Y) (cI i):=
 mh (GL (v:= .int i) d h ⟨t,rfl⟩ j) (j5 i)
def Pf (d:Gl X x) (h:X.mg x=some (.str y t)) (i:y.length<=aS:=by decide) (j:Y6 x:=by decide):DE X l (.Name x Y) (cS y):=
 mh (GL (v:= .str y) d h ⟨t,rfl⟩ j) (A3 y i)
def ej (K:aC) (r:R2) (g:D->D->ao D):Prop:= ∀(x y:V) (H:Hp) (a b d:D) (Q:VK),aL K Any H x a->aL K Any H y b->g a b= .ok d->(∀v,Sc K v d->Q v H)->r x y H Q
def A4 (K:aC) (r:R2) (g:D->D->ao D):Prop:= ∀(A:WZ) (x y:V) (H:Hp) (a b d:D) (Q:VK),aL K A H x a->aL K A H y b->g a b= .ok d->(∀v h,aq H h->aL K (λc=>H c=none\/A c) h v d->bh H v->Q v h)->r x y H Q
def al (O N:T4) (g:D->D->ao D):Sl->ao D:=λd=>O d>>=λx=>N d>>=λy=>g x y
def Dl {K:aC} (B:ej K r g) (h:tE K l (al O N g) E H Q):sx r (tE K L O) (tE K u N) E H Q:=by
 obtain ⟨G,m,i,d,k,j,q⟩:=h;obtain ⟨a,e1,j⟩:=jd j;obtain ⟨b,e2,I⟩:=jd j;refine ⟨G,m,i,a,k,e1,λx H1 n r1 _=>⟨G,m,i,b,k.am n,e2,λy p w r2 _=>?_⟩⟩;exact B x y p a b d Q ((r1.am w).aH Lv.aZ) (r2.aH Lv.aZ) I λv z=>q v p (n.trans w) (z.1 _ _) z.T
def Pg {K:aC} (B:A4 K r g) (h:tE K .t (al O N g) E H Q):sx r (tE K .s O) (tE K .s N) E H Q:=by
 obtain ⟨G,n,i,d,k,j,q⟩:=h;obtain ⟨a,e1,j⟩:=jd j;obtain ⟨b,e2,I⟩:=jd j;refine ⟨G,n,i,a,k,e1,λx H1 p r1 _=>⟨G,n,i,b,k.am p,e2,λy H2 w r2 _=>?_⟩⟩;have m:=p.trans w;exact B _ x y H2 a b d Q (r1.am w) r2 I λv H3 s3 r3 nt=>q v H3 (m.trans s3) (r3.aH λc z=>z.elim (λz=>k.new c (aq.free m z)) λz=>z) (nt.am m)
def sL (d:cp X (gI i) r) (j:ej X.K r g) (m:DE X L a O) (n:DE X u b N):DE X l (.BinOp a i b Y) (al O N g):=by
 with_unfolding_all exact (
  PE.imp (CI d m n) λ_ _ _ h=>Dl j h)
def qa (d:cp X (gI i) r) (j:A4 X.K r g) (m:DE X .s a O) (n:DE X .s b N):DE X .t (.BinOp a i b Y) (al O N g):=by
 with_unfolding_all exact (
  PE.imp (CI d m n) λ_ _ _ h=>Pg j h)
def JN (i:cp X (eR d) r) (j:ej X.K r g) (m:DE X L a O) (n:DE X u b N) (p:pW d b=false:=by first|exact CL _| (with_unfolding_all rfl)):DE X l (.Compare a [d] [b] Y) (al O N g):=by
 with_unfolding_all exact (
  PE.imp (GW i m n p) λ_ _ _ h=>Dl j h)
def aO (f:T4):Sl->ao Bool:=λh=>f h>>=λd=>match d with
 | .bl b=> .ok b
 |_=> .aj
def Ph {b:Bool} (h:aO f i= .ok b):f i= .ok (.bl b):=by
 obtain ⟨d,e1,e2⟩:=jd h
 cases d with
 |bl c=>cases e2;exact e1
 |_=>cases e2
def U7 {K:aC} (j: ∀d H Q,tE K l f d H Q->t d H Q) (h:tT K (aO f) d H Q):CM t d H Q:=by
 obtain ⟨G,m,i,b,k,n,q⟩:=h;refine j d H _ ⟨G,m,i,.bl b,k,Ph n,λv p s r _=>⟨b,r.re,q p s⟩⟩
def jO (i:cp X (eR d) r) (j:ej X.K r g) (m:DE X L a O) (n:DE X u b N) (p:pW d b=false:=by first|exact CL _| (with_unfolding_all rfl)):DT X (.Compare a [d] [b] Y) (aO (al O N g)):=by
 with_unfolding_all exact (
  PT.imp (N1 i m n p) λ_ _ _ h=>U7 (l:= .b) (λ_ _ _ h=>Dl j h) h)
def WE (O N J:T4) (g h:D->D->ao D):Sl->ao D:=λd=>O d>>=λx=>N d>>=λy=>g x y>>=λz=>match z with
 | .bl true=>J d>>=λw=>h y w
 | .bl false=> .ok (.bl false)
 |_=> .aj
def vt {K:aC} (hr:ej K r g) (B:ej K r' g') (h:tE K l (WE O N J g g') σ H Q):CN r r' (tE K L O) (tE K u N) (tE K l3 J) σ H Q:=by
 obtain ⟨G,E,i,d,k,j,q⟩:=h;obtain ⟨a,e1,j⟩:=jd j;obtain ⟨b,e2,j⟩:=jd j;obtain ⟨z,e3,I⟩:=jd j;refine ⟨G,E,i,a,k,e1,λx H1 m r1 _=>⟨G,E,i,b,k.am m,e2,λy H2 n r2 _=>?_⟩⟩;refine hr x y H2 a b z _ ((r1.am n).aH Lv.aZ) (r2.aH Lv.aZ) e3 λv p=>?_
 cases z with
 |bl t=>
  refine ⟨t,(p.1 Any H2).re,?_⟩
  cases t with
  |false=>
   cases I;rw [if_neg eh];exact q _ H2 (m.trans n) (.bl false) (iM (K:=K) false).T
  |true=>
   obtain ⟨w,e5,e6⟩:=jd I;rw [if_pos rfl];refine ⟨G,E,i,w,(k.am m).am n,e5,λy' H4 s4 r4 _=>?_⟩;refine B y y' H4 b w d Q ((r2.am s4).aH Lv.aZ) (r4.aH Lv.aZ) e6 λv p=>q v H4 (m.trans (n.trans s4)) (p.1 _ _) p.T
 |_=>cases I
def KY (n:cp X (eR m) r) (p:ej X.K r g) (i:cp X (eR d) q) (j:ej X.K q v) (w:DE X L a O) (y:DE X u b N) (z:DE X E c J)
   (B:lastMarks [m,d] [b,c]=false:=by with_unfolding_all rfl):DE X l (.Compare a [m,d] [b,c] Y) (WE O N J g v):=by
 with_unfolding_all exact (
  PE.imp (N2 n i w y z B) λ_ _ _ h=>vt p j h)
def uy (n:cp X (eR m) r) (p:ej X.K r g) (i:cp X (eR d) q) (j:ej X.K q v) (w:DE X L a O) (y:DE X u b N) (z:DE X E c J)
   (B:lastMarks [m,d] [b,c]=false:=by with_unfolding_all rfl):DT X (.Compare a [m,d] [b,c] Y) (aO (WE O N J g v)):=by
 with_unfolding_all exact (
  PT.imp (N3 n i w y z B) λ_ _ _ h=>U7 (l:= .b) (λ_ _ _ h=>vt p j h) h)
def j6 (h:DE X l e f) (d: ∀whole,mH e X.env whole=(do let v<-whole;iJ e.pos;gq [v] (truthy v)):=by intro _;rfl):DT X e (aO f):=by
 with_unfolding_all exact (
  PT.imp (vM h d) λ_ _ _ h=>U7 (λ_ _ _ h=>h) h)
def Dn:D->ao Bool
 | .aU=> .ok false
 | .bl b=> .ok b
 | .int i=> .ok (i !=0)
 | .str x=> .ok ((x.length:Int) !=0)
 | .ak d=> .ok (!d.isEmpty)
 | .ai d=> .ok (!d.isEmpty)
 | .ei d=> .ok (!d.isEmpty)
 | .aP _ _=> .aj
 | .bV _ _=> .aj
 | .gm _=> .aj
 | .gL _ _=> .aj
 | .gM _ _=> .aj
 | .obj _ _ _=> .aj
 | .mem _ _=> .aj
 | .cZ _=> .aj
def Pj {K:aC} {b:Bool} (r:aL K A H v d) (h:Dn d= .ok b):pX K v H b:=by
 have r:=r.f;cases d<;>cases h
 . cases r;rfl
 . cases r;rfl
 . cases r;rfl
 . cases r.1;exact ⟨r.2,rfl⟩
 . obtain ⟨_,_,rfl,e,r⟩:=r;exact .inr (.inl ⟨_,.of e,by rw [r.isEmpty]⟩)
 . obtain ⟨_,_,rfl,e,_,r⟩:=r;exact .inl ⟨_,.of e,by rw [r.isEmpty]⟩
 . obtain ⟨_,_,rfl,e,r⟩:=r;exact .inl ⟨_,e.nW,by rw [r.isEmpty]⟩
def ck (f:T4):Sl->ao Bool:=λd=>f d>>=Dn
def UD (h:DE X l e f) (j: ∀whole,mH e X.env whole=(do let v<-whole;iJ e.pos;gq [v] (truthy v)):=by intro _;rfl):DT X e (ck f):=by
 with_unfolding_all exact (
  PT.imp (N6 h j) λw H Q=>by
   rintro ⟨G,m,i,b,k,n,q⟩;obtain ⟨d,e1,e2⟩:=jd n
   exact ⟨G,m,i,d,k,e1,λv p s r _=>⟨b,Pj r e2,q p s⟩⟩)
section
variable {g z g2:T3} {rest:List Expr}
def a6 (g:T3):Sl->ao Bool:=λd=>g d>>=λb=> .ok (!b)
def qk (h:DT X a g):DT X (.UnaryOp .Not a Y) (a6 g):=by
 with_unfolding_all exact (
  PT.imp (GN h) λn H Q=>by
   rintro ⟨G,j,i,b,k,m,q⟩;obtain ⟨d,e1,e2⟩:=jd m;cases e2
   exact ⟨G,j,i,d,k,e1,q⟩)
@[irreducible] def DW (X:Cx) (e:Expr) (f:T3):Prop:=PW X e (tT X.K f)
theorem PW.imp (h:PW X e t) (w: ∀d H Q,j d H Q->t d H Q):PW X e j:=λm i s d H Q I q=>h m i s d H Q I (w d H Q q)
def DW.dt (h:DW X e g):DT X e g:=by
 with_unfolding_all exact (PW.pt h)
def XU (h:DT X a g):DW X (.BoolOp .And [a] Y) g:=by
 with_unfolding_all exact (Nr h)
def Jb (h:DT X a g):DW X (.BoolOp .Or [a] Y) g:=by
 with_unfolding_all exact (Nt h)
def ek (z g2:T3):Sl->ao Bool:=λd=>z d>>=λb=>if b=true then g2 d else .ok false
def fq (z g2:T3):Sl->ao Bool:=λd=>z d>>=λb=>if b=true then .ok true else g2 d
def UC (j:DT X a z) (m:DW X (.BoolOp .And (b::rest) Y) g2):DW X (.BoolOp .And (a::b::rest) Y) (ek z g2):=by
 with_unfolding_all exact (
  PW.imp (Nu j m) λy H Q=>by
   rintro ⟨G,i,h,r,k,n,q⟩;obtain ⟨d,e1,e2⟩:=jd n;refine ⟨G,i,h,d,k,e1,λp s=>?_⟩
   cases d with
   |true=>rw [if_pos rfl] at e2 ⊢;exact ⟨G,i,h,r,k.am s,e2,λv w=>q v (s.trans w)⟩
   |false=>rw [if_neg eh] at e2 ⊢;cases e2;exact q p s)
def QR (j:DT X a z) (m:DW X (.BoolOp .Or (b::rest) Y) g2):DW X (.BoolOp .Or (a::b::rest) Y) (fq z g2):=by
 with_unfolding_all exact (
  PW.imp (Nv j m) λy H Q=>by
   rintro ⟨G,i,h,r,k,n,q⟩;obtain ⟨d,e1,e2⟩:=jd n;refine ⟨G,i,h,d,k,e1,λp s=>?_⟩
   cases d with
   |false=>rw [if_neg eh] at e2 ⊢;exact ⟨G,i,h,r,k.am s,e2,λv w=>q v (s.trans w)⟩
   |true=>rw [if_pos rfl] at e2 ⊢;cases e2;exact q p s)
def mK (f:T4) (g:T4) (w:Bool):Sl->ao D:=λh=>f h>>=λd=>match d with
 | .bl b=>if b=w then g h else .ok (.bl b)
 |_=> .aj
def Wy {d} (h:DE X l a f):DE X l (.BoolOp d [a] Y) f:=by
 with_unfolding_all exact (Ny h)
def Wz (j:DE X L a O) (m:DE X l (.BoolOp .And (b::rest) Y) N):DE X l (.BoolOp .And (a::b::rest) Y) (mK O N true):=by
 with_unfolding_all exact (
  PE.imp (Nz j m) λI H Q=>by
   rintro ⟨G,i,h,r,k,n,q⟩;obtain ⟨d,e1,e2⟩:=jd n;refine ⟨G,i,h,d,k,e1,λv p s w _=>?_⟩
   cases d with
   |bl t=>
    refine ⟨t,w.re,?_⟩
    cases t with
    |true=>exact ⟨G,i,h,r,k.am s,e2,λv y B r2 E=>q v y (s.trans B) r2 (Lv.m8 s E)⟩
    |false=>cases e2;exact q _ p s (.bl false) (iM (K:=X.K) false).T
   |_=>cases e2)
def v6:D->ao D
 | .bl b=> .ok (.bl (!b))
 |_=> .aj
def oC (f:T4):Sl->ao D:=λd=>f d>>=v6
def Do (h:DE X L a f):DE X l (.UnaryOp .Not a Y) (oC f):=by
 with_unfolding_all exact (
  PE.imp (NA h) λw H Q=>by
   rintro ⟨G,j,i,r,k,m,q⟩;obtain ⟨d,e1,e2⟩:=jd m;refine ⟨G,j,i,d,k,e1,λv n s p _=>?_⟩
   cases d with
   |bl t=>cases e2;exact ⟨t,p.re,q _ n s (.bl _) (iM (K:=X.K) _).T⟩
   |_=>cases e2)
def Dp (g:T3) (O N:T4):Sl->ao D:=λd=>g d>>=λb=>if b=true then O d else N d
def Hi (p:DT X c g) (w:DE X l a O) (y:DE X l b N):DE X l (.IfExp c a b Y) (Dp g O N):=by
 with_unfolding_all exact (
  PE.imp (vS p w y) λE H Q=>by
   rintro ⟨G,i,h,r,k,B,q⟩;obtain ⟨d,e1,e2⟩:=jd B;refine ⟨G,i,h,d,k,e1,λI s=>?_⟩
   cases d with
   |true=>rw [if_pos rfl] at e2 ⊢;exact ⟨G,i,h,r,k.am s,e2,λv j m r2 n=>q v j (s.trans m) r2 (Lv.m8 s n)⟩
   |false=>rw [if_neg eh] at e2 ⊢;exact ⟨G,i,h,r,k.am s,e2,λv j m r2 n=>q v j (s.trans m) r2 (Lv.m8 s n)⟩)
end
def jb (f:T4) (g:T1):Sl->ao (List D):=λh=>f h>>=λd=>g h>>=λi=> .ok (d::i)
def ag:Sl->ao (List D):=λ_=> .ok []
def je:DA X l [] ag:=by
 with_unfolding_all exact (PA.imp wF λj H Q=>by rintro ⟨G,m,h,d,k,i,q⟩;cases i;exact q [] H (aq.refl H) .nil)
def ja (p:DE X l e f) (r:DA X l U g) (w:Vs X e U:=by exact jm rfl):DA X l (e::U) (jb f g):=by
 with_unfolding_all exact (
  PA.imp (j8 p r w) λσ H Q=>by
   rintro ⟨G,j,h,ds,k,y,q⟩;obtain ⟨d,e1,e2⟩:=jd y;obtain ⟨i,z,B⟩:=jd e2;cases B
   exact ⟨G,j,h,d,k,e1,λv H1 m E _=>⟨G,j,h,i,k.am m,z,λvs I n r2=>q _ I (m.trans n) (.cons (E.am n) r2)⟩⟩)
def qH (s:aq H h) (d:h p=none):bh H (.ref p):=λa e o q=>by
 cases e;rw [s _ _ q] at d;cases d
def aN (g:T1):Sl->ao D:=λd=>g d>>=λh=>aV (h.length<=aS) (.ok (.ak h))
def ci (g:T1):Sl->ao D:=λd=>g d>>=λh=>aV (h.length<=aS) (.ok (.ai h))
def jK {r} (h:DA X .s U g):DE X .t (.Tuple U r Y) (aN g):=by
 with_unfolding_all exact (
  PE.imp (GY h) λE H Q=>by
   rintro ⟨G,v,i,d,k,w,q⟩;obtain ⟨y,e1,e2⟩:=jd w;obtain ⟨z,B⟩:=ju e2;cases B;refine ⟨G,v,i,y,k,e1,λI H1 m n=>⟨by rw [n.length];exact z,λp j=>?_⟩⟩
   exact q _ _ (m.trans (aq.aR j)) (.ak jD (n.am (aq.aR j))) (qH m j))
def wa (h:DA X .s U g):DE X .t (.List U Y) (ci g):=by
 with_unfolding_all exact (
  PE.imp (Ol h) λB H Q=>by
   rintro ⟨G,r,j,d,k,v,q⟩;obtain ⟨w,e1,e2⟩:=jd v;obtain ⟨y,z⟩:=ju e2;cases z;refine ⟨G,r,j,w,k,e1,λE I m n=>⟨by rw [n.length];exact y,λp i=>?_⟩⟩
   exact q _ _ (m.trans (aq.aR i)) (.ai jD (k.new p (aq.free m i)) (n.laid i)) (qH m i))
def A5 (K:aC) (r:List V->Hp->VK->Prop) (g:T0):Prop:= ∀(h:List V) (H:Hp) (i:List D) (d:D) (Q:VK),au K Any H h i->g i= .ok d->(∀v,Sc K v d->Q v H)->r h H Q
def Ve (K:aC) (r:List V->Hp->VK->Prop) (g:T0):Prop:= ∀(A:WZ) (i:List V) (H:Hp) (j:List D) (d:D) (Q:VK),au K A H i j->g j= .ok d->(∀v h,aq H h->aL K (λc=>H c=none\/A c) h v d->bh H v->Q v h)->r i H Q
def app (f:T1) (g:T0):Sl->ao D:=λd=>f d>>=g
def Pk {K:aC} (p:A5 K r g) (h:tE K l' (app w g) y H Q):t6 r (tA K l w) y H Q:=by
 obtain ⟨G,z,i,d,k,B,q⟩:=h;obtain ⟨j,e1,e2⟩:=jd B;refine ⟨G,z,i,j,k,e1,λE m I r1=>?_⟩;exact p E m j d Q (r1.aH Lv.aZ) e2 λv n=>q v m I (n.1 _ _) n.T
def Hj {K:aC} (n:Ve K r g) (h:tE K .t (app p g) w H Q):t6 r (tA K .s p) w H Q:=by
 obtain ⟨G,y,i,d,k,B,q⟩:=h;obtain ⟨m,e1,e2⟩:=jd B;refine ⟨G,y,i,m,k,e1,λE I j r1=>?_⟩;exact n _ E I m d Q r1 e2 λv H2 s2 r2 nt=>q v H2 (j.trans s2) (r2.aH λc z=>z.elim (λz=>k.new c (aq.free j z)) λz=>z) (nt.am j)
def Pl {K:aC} (m:Ve K r g) (h:tE K .b (app n g) p H Q):t6 r (tA K .b n) p H Q:=by
 obtain ⟨G,w,i,d,k,y,q⟩:=h;obtain ⟨j,e1,e2⟩:=jd y;refine ⟨G,w,i,j,k,e1,λz B E I=>?_⟩;exact m _ z B j d Q I e2 λv H2 s2 r2 nt=>q v H2 (E.trans s2) (r2.aH λc _=>trivial) trivial
section
variable {x:Str} {id T:String} {p:Pos} {r:List V->Hp->VK->Prop} {g:T0} {q:T1}
def jG (j:bK X (.builtin id) r) (m:A5 X.K r g) (n:Gl X x) (v:X.mg x=none) (w:jW x=some (.builtin id))
   (y:DA X l (e::U) q) (z:x≠ "__name__" :=by decide) (d:Y6 x:=by decide)
   (B:Vs X e U:=by exact jm rfl) (i:Vr X Y U:=by exact jF rfl):DE X l' (.Call (.Name x p) (e::U) [] Y) (app q g):=by
 with_unfolding_all exact (
  PE.imp (WJ j n v w y z d B i) λ_ _ _ h=>Pk m h)
def wJ (j:bK X (.type T) r) (m:Ve X.K r g) (n:Gl X x) (v:X.mg x=none) (w:jW x=some (.type T))
   (y:DA X .s (e::U) q) (z:x≠ "__name__" :=by decide) (d:Y6 x:=by decide)
   (B:Vs X e U:=by exact jm rfl) (i:Vr X Y U:=by exact jF rfl):DE X .t (.Call (.Name x p) (e::U) [] Y) (app q g):=by
 with_unfolding_all exact (
  PE.imp (Zd j n v w y z d B i) λ_ _ _ h=>Hj m h)
def Pn (j:bK X (.type T) r) (m:Ve X.K r g) (n:Gl X x) (v:X.mg x=none) (w:jW x=some (.type T))
   (y:DA X .b (e::U) q) (z:x≠ "__name__" :=by decide) (d:Y6 x:=by decide)
   (B:Vs X e U:=by exact jm rfl) (i:Vr X Y U:=by exact jF rfl):DE X .b (.Call (.Name x p) (e::U) [] Y) (app q g):=by
 with_unfolding_all exact (
  PE.imp (Zd j n v w y z d B i) λ_ _ _ h=>Pl m h)
end
def lj (K:aC) (m:Bool) (n:Nat) (F:T0):Sp:=λi H Q _=> ∃B j d,i.length=n/\au K B H i j/\F j= .ok d/\ ∀v h,aq H h->aL K (λa=>H a=none\/B a) h v d->(m=true->bh H v)->Q v h
def jk (n:Nat) (F:T0) (g:T1):Sl->ao D:=λd=>g d>>=λh=>aV (h.length=n) (F h)
section
variable {CX:l8} {k:Nat} {x:Str} {h:Addr} {fd:lc} {ps:List Str} {p:Pos} {n:Nat} {F:T0} {E:XK} {g:T1} {fr:Bool}
def Po (G:bR X.prog X.w X.K X.mg X.af CX k h fd ps (lj X.K fr n F)) (B:aE k X.A) (I:Gl X x) (hm:X.mg x=some (.ref h)) (hk:gj X.K (.ref h)=true) (hb:Binds X.K fd ps []) (hx:Qq CX X E)
   (ha:DA X .s (e::U) g) (i:Y6 x:=by decide) (he:Vs X e U:=by exact jm rfl) (j:Vr X Y U:=by exact jF rfl):
   DE X .s (.Call (.Name x p) (e::U) [] Y) (jk n F g):=by
 with_unfolding_all exact (
  PE.imp (Ke G B I hm hk hb .nil hx ha i he j) λσ H Q=>by
   rintro ⟨GG,H0,m,d,k,ef,q⟩;obtain ⟨r,e1,e2⟩:=jd ef;obtain ⟨hn,e3⟩:=ju e2;refine ⟨GG,H0,m,r,k,e1,λvs H1 w y=>?_⟩;show lj X.K fr n F (vs++[]) H1 Q E;rw [fN]
   exact ⟨_,r,d,by rw [y.length];exact hn,y,e3,λv H2 s2 r2 _=>q v H2 (w.trans s2) (r2.aH λc z=>z.elim (λz=>k.new c (aq.free w z)) λz=>z) trivial⟩)
def Pp (G:bR X.prog X.w X.K X.mg X.af CX k h fd ps (lj X.K true n F)) (B:aE k X.A) (I:Gl X x) (hm:X.mg x=some (.ref h)) (hk:gj X.K (.ref h)=true) (hb:Binds X.K fd ps []) (hx:Qq CX X E)
   (ha:DA X .s (e::U) g) (i:Y6 x:=by decide) (he:Vs X e U:=by exact jm rfl) (j:Vr X Y U:=by exact jF rfl):
   DE X .t (.Call (.Name x p) (e::U) [] Y) (jk n F g):=by
 with_unfolding_all exact (
  PE.imp (Ke G B I hm hk hb .nil hx ha i he j) λσ H Q=>by
   rintro ⟨GG,H0,m,d,k,ef,q⟩;obtain ⟨w,e1,e2⟩:=jd ef;obtain ⟨hn,e3⟩:=ju e2;refine ⟨GG,H0,m,w,k,e1,λvs H1 r y=>?_⟩;show lj X.K true n F (vs++[]) H1 Q E;rw [fN]
   exact ⟨_,w,d,by rw [y.length];exact hn,y,e3,λv H2 s2 r2 nt=>q v H2 (r.trans s2) (r2.aH λc z=>z.elim (λz=>k.new c (aq.free r z)) λz=>z) ((nt rfl).am r)⟩)
def Pq (G:bR X.prog X.w X.K X.mg X.af CX k h fd ps (lj X.K fr n F)) (y:aE k X.A) (z:Gl X x) (B:X.mg x=some (.ref h)) (I:gj X.K (.ref h)=true) (hb:Binds X.K fd ps []) (hx:Qq CX X E)
   (ha:DA X .b (e::U) g) (i:Y6 x:=by decide) (he:Vs X e U:=by exact jm rfl) (j:Vr X Y U:=by exact jF rfl):
   DE X .b (.Call (.Name x p) (e::U) [] Y) (jk n F g):=by
 with_unfolding_all exact (
  PE.imp (Ke G y z B I hb .nil hx ha i he j) λσ H Q=>by
   rintro ⟨GG,H0,m,d,k,ef,q⟩;obtain ⟨r,e1,e2⟩:=jd ef;obtain ⟨hn,e3⟩:=ju e2;refine ⟨GG,H0,m,r,k,e1,λvs H1 s1 w=>?_⟩;show lj X.K fr n F (vs++[]) H1 Q E;rw [fN]
   exact ⟨_,r,d,by rw [w.length];exact hn,w,e3,λv H2 s2 r2 _=>q v H2 (s1.trans s2) (r2.aH λc _=>trivial) trivial⟩)
end
def aG:D->D->ao D
 | .ai h,.int i=>match fX h i with
  |some d=> .ok d
  |none=> .aj
 | .ei h,.int i=>match fX h i with
  |some d=> .ok d
  |none=> .aj
 | .ak h,.int i=>match fX h i with
  |some d=> .ok d
  |none=> .aj
 | .str z,.int i=>match fX z.cps.toList i with
  |some c=> .ok (.str ⟨#[c]⟩)
  |none=> .aj
 |_,_=> .aj
def K7 {K:aC} (r:au K A H n m) (h:fX m i=some d): ∃v,fX n i=some v/\aL K A H v d:=by
 unfold fX at h ⊢;rw [r.length]
 cases e:lQ m.length i with
 |none=>rw [e] at h;cases h
 |some j=>rw [e] at h;exact r.get h
def Pr (c:Nat):(⟨#[c]⟩:Str).length<=aS:=by show 1<=aS;decide
def Hk {a b:D} (m:aL X.K A H x a) (n:aL X.K Any H y b) (h:aG a b= .ok d) (q: ∀v,aL X.K A H v d->Q v H):G6 X.K x y H Q:=by
 unfold aG at h
 split at h
 . split at h
   . cases h;cases n.cM;obtain ⟨p,i,rfl,j,_,r⟩:=m.cC;obtain ⟨v,e2,r2⟩:=K7 r.low ‹_›;exact .inl ⟨p,i,_,v,rfl,rfl,.of j,e2,q v r2⟩
   . cases h
 . split at h
   . cases h;cases n.cM;obtain ⟨p,i,rfl,j,r⟩:=m.m7;obtain ⟨v,e2,r2⟩:=K7 r ‹_›;exact .inl ⟨p,i,_,v,rfl,rfl,j.nW,e2,q v r2⟩
   . cases h
 . split at h
   . cases h;cases n.cM;obtain ⟨p,i,rfl,j,r⟩:=m.dR;obtain ⟨v,e2,r2⟩:=K7 r ‹_›;exact .inr (.inl ⟨p,i,_,v,rfl,rfl,.of j,e2,q v r2⟩)
   . cases h
 . split at h
   . cases h;cases n.cM;obtain ⟨rfl,w⟩:=m.fY;exact .inr (.inr ⟨_,_,_,rfl,rfl,w,‹_›,q _ (.str _ (by show 1<=aS;decide))⟩)
   . cases h
 . cases h
def jz (p:DE X .s a O) (r:DE X u b N) (w:X4 b:=by intro _ _;rfl):DE X .s (.Subscript a b Y) (al O N aG):=by
 with_unfolding_all exact (
  PE.imp (AW G7 p r w) λσ H Q=>by
   rintro ⟨G,j,h,d,k,i,q⟩;obtain ⟨z,e1,i⟩:=jd i;obtain ⟨B,e2,E⟩:=jd i;refine ⟨G,j,h,z,k,e1,λx H1 m I _=>⟨G,j,h,B,k.am m,e2,λy H2 n r2 _=>?_⟩⟩
   exact Hk (I.am n) (r2.aH Lv.aZ) E λv r3=>q v H2 (m.trans n) r3 trivial)
@[irreducible] def DO (X:Cx) (e:Option Expr) (f:Sl->ao (Option Int)):Prop:=PO X e (λj H Q=> ∃G m d i,ay X.K G m d j H/\f d= .ok i/\ ∀h,aq H h->Q i h)
theorem PO.imp {e:Option Expr} (h:PO X e t) (w: ∀d H Q,j d H Q->t d H Q):PO X e j:=λi s d H Q I q=>h i s d H Q I (w d H Q q)
def wP:Sl->ao (Option Int):=λ_=> .ok none
def xA:DO X none wP:=by
 with_unfolding_all exact (PO.imp OA λj H Q=>by rintro ⟨G,m,d,i,k,h,q⟩;cases h;exact q H (aq.refl H))
def Hl:D->ao (Option Int)
 | .int i=> .ok (some i)
 |_=> .aj
def zI (f:T4):Sl->ao (Option Int):=λd=>f d>>=Hl
def wp (h:DE X l e f):DO X (some e) (zI f):=by
 with_unfolding_all exact (PO.imp (OB h) λy H Q=>by
  rintro ⟨G,n,m,i,k,p,q⟩;obtain ⟨d,e1,e2⟩:=jd p
  cases d with
  |int j=>cases e2;exact ⟨G,n,m,.int j,k,e1,λv w s r _=>⟨j,r.cM,q w s⟩⟩
  |_=>cases e2)
def cutD (d:List D) (lo h:Option Int):List D:=(d.drop (HT.bI d.length 0 lo)).take (HT.bI d.length d.length h-HT.bI d.length 0 lo)
def vg {K:aC} {lo:Option Int} (r:au K A H d h):au K A H (ma d lo i) (cutD h lo i):=by
 unfold ma cutD;rw [r.length];exact (r.drop _).take _
def qp (f:T4) (h i:Sl->ao (Option Int)) (g:D->Option Int->Option Int->ao D):Sl->ao D:=λd=>f d>>=λa=>h d>>=λlo=>i d>>=λj=>g a lo j
end
section
variable {K:aC} {G:WZ} {H0 H H1 H':Hp} {env env':Sl} {σ fR:L2.St} {i:Nat} {d:D} {v:V}
def jx {a:Type} {l:List a} {x:a} (h:i≠j):(l.set i x)[j]?=l[j]?:=Ck h
def jL {a:Type} {l:List a} {x y:a} (h:(l.set i x)[i]?=some y):y=x/\i<l.length:=by
 have c:i<l.length:=by
  have:=(iD.mp h).1;simpa using this
 rw [su c] at h;exact ⟨(fj h).symm,c⟩
def Xk {s:Slot} {a:Addr} (h:zY (env.set i s) (σ.set i (some v)) a):zY env σ a\/(∃d,s= .aw d/\v= .ref a):=by
 obtain ⟨j,d,c,l⟩:=h
 by_cases e:i=j
 . subst e;obtain ⟨m,_⟩:=jL c;obtain ⟨n,_⟩:=jL l;exact .inr ⟨d,m.symm,(fj n).symm⟩
 . rw [jx e] at c l;exact .inl ⟨j,d,c,l⟩
def ay.iN (k:ay K G H0 env σ H) (r:aL K (Sf G env σ) H v d):ay K G H0 (env.set i (.ah d)) (σ.set i (some v)) H:=by
 have w: ∀a,Sf G env σ a->Sf G (env.set i (.ah d)) (σ.set i (some v)) a:=λa n=>⟨λo=>(by
   rcases Xk o with z| ⟨I,z,_⟩
   . exact n.1 z
   . cases z),n.2⟩
 refine ⟨by simp [k.len],k.af,k.g0,λj e h=>?_,λj e h=>?_,λj l e u a h1 h2 m p=>?_⟩
 . by_cases z:i=j
   . subst z;obtain ⟨q,hl⟩:=jL h;cases q;exact ⟨v,su (by rw [k.len];exact hl),r.aH w⟩
   . rw [jx z] at h ⊢;obtain ⟨c,h1,h2⟩:=k.ah j e h;exact ⟨c,h1,h2.aH w⟩
 . by_cases z:i=j
   . subst z;obtain ⟨q,hl⟩:=jL h;cases q
   . rw [jx z] at h ⊢;obtain ⟨c,h1,y,h2⟩:=k.aw j e h;exact ⟨c,h1,y,h2.a9 (λ_ _ e _=>e) w λ_ e=>e⟩
 . have B:i≠j:=λz=>by subst z;obtain ⟨q,_⟩:=jL h1;cases q
   have E:i≠l:=λz=>by subst z;obtain ⟨q,_⟩:=jL h2;cases q
   rw [jx B] at h1 m;rw [jx E] at h2 p;exact k.nX j l e u a h1 h2 m p
def Kf:D->Bool
 | .ai _=>true
 | .aP _ _=>true
 | .bV _ _=>true
 | .obj _ _ _=>true
 | .cZ _=>true
 |_=>false
def kt (r:aL K A H v d) (h:Kf d=true): ∃a,v= .ref a/\A a/\(∃o,H a=some o/\mG (some o))/\Top K (λc=>A c/\c≠a) H a d:=by
 have r:=r.f;cases d<;>cases h
 . obtain ⟨_,_,rfl,e,a,r⟩:=r;exact ⟨_,rfl,a,⟨_,e,trivial⟩,.ai e r⟩
 . obtain ⟨_,_,rfl,e,a,k,r⟩:=r;exact ⟨_,rfl,a,⟨_,e,trivial⟩,.aP e k rfl r⟩
 . obtain ⟨_,_,rfl,e,a,k,r⟩:=r;exact ⟨_,rfl,a,⟨_,e,trivial⟩,.bV e k rfl r⟩
 . obtain ⟨_,_,_,_,rfl,e,a,k,l,r⟩:=r;exact ⟨_,rfl,a,⟨_,e,trivial⟩,.obj e ⟨k,l⟩ rfl r⟩
 . obtain ⟨_,_,rfl,e,a,k,r⟩:=r;exact ⟨_,rfl,a,⟨_,e,trivial⟩,.cZ e k rfl r⟩
def Ps (s:aq H H1) (j:bh H (.ref a)) (h: ∃o,H1 a=some o/\mG (some o)):H a=none:=by
 cases e:H a with
 |none=>rfl
 |some o=>
  obtain ⟨m,c,l⟩:=h;rw [s a o e] at c;cases c;exact (j a rfl o e l).elim
def ay.Dq (k:ay K G H0 env σ H) (s:aq H H1) (r:aL K (Sf G env σ) H1 v d) (Q:bh H v) (hd:Kf d=true):ay K G H0 (env.set i (.aw d)) (σ.set i (some v)) H1/\ ∃a,v= .ref a/\H a=none:=by
 obtain ⟨a,rfl,ga,mt,top⟩:=kt r hd;have E:=Ps s Q mt;refine ⟨?_,a,rfl,E⟩
 have w: ∀c,(Sf G env σ c/\c≠a)->Sf G (env.set i (.aw d)) (σ.set i (some (V.ref a))) c:=λc n=>⟨λo=>(by
   rcases Xk o with z| ⟨d',z,l⟩
   . exact n.1.1 z
   . cases l;exact n.2 rfl),n.1.2⟩
 have y: ∀c,(Sf G env σ c/\H c≠none)->Sf G (env.set i (.aw d)) (σ.set i (some (V.ref a))) c:=λc n=>w c ⟨n.1,λe=>n.2 (by rw [e];exact E)⟩
 have U:=k.am s;refine ⟨by simp [k.len],U.af,k.g0,λj e h=>?_,λj e h=>?_,λj I e N b h1 h2 J B=>?_⟩
 . by_cases z:i=j
   . subst z;obtain ⟨q,hl⟩:=jL h;cases q
   . rw [jx z] at h ⊢;obtain ⟨L,h1,h2⟩:=k.ah j e h;exact ⟨L,h1,(h2.cw.am s).aH y⟩
 . by_cases z:i=j
   . subst z;obtain ⟨q,hl⟩:=jL h;cases q;exact ⟨a,su (by rw [k.len];exact hl),aq.free k.af E,top.a9 (λ_ _ e _=>e) w λ_ e=>e⟩
   . rw [jx z] at h ⊢;obtain ⟨L,h1,Y,h2⟩:=k.aw j e h;refine ⟨L,h1,Y,?_⟩
     cases h2 with
     |ai e2 r2=>exact .ai (s _ _ e2) ((r2.cw.am s).aH y)
     |aP e2 m p r2=>exact .aP (s _ _ e2) m p ((r2.cw.am s).aH y)
     |bV e2 m p r2=>exact .bV (s _ _ e2) m p ((r2.cw.am s).aH y)
     |obj e2 m p r2=>exact .obj (s _ _ e2) m p ((r2.cw.am s).aH y)
     |cZ e2 m p r2=>exact .cZ (s _ _ e2) m p ((r2.cw.am s).aH y)
 . have new: ∀(j:Nat) (e:D),env[j]?=some (.aw e)->σ[j]?=some (some (.ref a))->False:=λj e q1 q2=>by
     obtain ⟨u,q⟩:=k.there ⟨j,e,q1,q2⟩;rw [E] at q;cases q
   by_cases O:i=j
   . subst O
     by_cases l:i=I
     . exact l
     . rw [jx l] at h2 B;obtain ⟨q,_⟩:=jL J;cases q;exact (new I N h2 B).elim
   . rw [jx O] at h1 J
     by_cases l:i=I
     . subst l;obtain ⟨q,_⟩:=jL B;cases q;exact (new j e h1 J).elim
     . rw [jx l] at h2 B;exact k.nX j I e N b h1 h2 J B
def be.set (c:aq H H1) (fresh: ∀a d,s= .aw d->v= .ref a->H a=none):be env σ H (env.set i s) (σ.set i (some v)) H1:=
 ⟨λb o e _=>c b o e,λb o=>by
  rcases Xk o with z| ⟨h,z,j⟩
  . exact .inl z
  . exact .inr (fresh b h z j),λb e=>aq.free c e⟩
def be.sf (f:be env σ H env' fR H'): ∀a,(Sf G env σ a/\H a≠none)->Sf G env' fR a:=λa z=>⟨λo=>(f.more a o).elim z.1.1 z.2,z.1.2⟩
def be.st (k:ay K G H0 env σ H) (f:be env σ H env' fR H'):eT (λa=>Sf G env σ a/\H a≠none) H H':=λa o e m=>f.keep a o e λc=>(m (k.li c e)).1.1 c
def be.rep (k:ay K G H0 env σ H) (f:be env σ H env' fR H') (r:aL K (Sf G env σ) H v d):aL K (Sf G env' fR) H' v d:=r.cw.a9 (f.st k) f.sf
def be.rg (k:ay K G H0 env σ H) (f:be env σ H env' fR H') (r:au K (Sf G env σ) H a c):au K (Sf G env' fR) H' a c:=r.cw.a9 (f.st k) f.sf
end
def Qs (d:D):Slot:=if Kf d=true then .aw d else .ah d
def ay.ll {K:aC} (k:ay K G m env c H) (s:aq H j) (r:aL K (Sf G env c) j v d) (n:bh H v):
   ay K G m (env.set i (Qs d)) (c.set i (some v)) j/\be env c H (env.set i (Qs d)) (c.set i (some v)) j:=by
 unfold Qs
 by_cases h:Kf d=true
 . rw [if_pos h];obtain ⟨z,p,l,o⟩:=k.Dq s r n h;refine ⟨z,.set s λa q _ e=>?_⟩;rw [e] at l;cases l;exact o
 . rw [if_neg h];exact ⟨(k.am s).iN r,.set s λ_ _ z _=>by cases z⟩
def bo:Sl->ao aW:=λa=> .ok (.nx a)
def A6 (f:T4):Sl->ao aW:=λa=>f a>>=λ_=> .ok (.nx a)
def mi (h:Int->Int->Int) (a b:D):ao D:=match a,b with
 | .int m,.int n=> .ok (.int (h m n))
 |_,_=> .aj
def ap (e g2:T2):Sl->ao aW:=λc=>e c>>=λo=>match o with
 | .nx a=>g2 a
 | .rt h d=> .ok (.rt h d)
 | .bk a=> .ok (.bk a)
 | .ct a=> .ok (.ct a)
section
variable {X:Cx} {e c tg:Expr} {st:Stmt} {rest j y:List Stmt} {I:Pos} {l:Lv} {f:T4} {g g1 g2:T2}
def jv:gn X [] bo:=by
 with_unfolding_all exact (dk.imp Xf λE a H=>by
  rintro ⟨G,i,d,o,k,h,q⟩;cases h
  exact q a H k (be.refl (aq.refl H)))
def zZ {K:aC} (f:be p u H h r v) (q:mf K G w p u H E o):mf K G w h r v E o:=by
 cases o with
 |nx e=>exact λa i m n=>q a i m (f.trans n)
 |bk e=>exact λa i m n=>q a i m (f.trans n)
 |ct e=>exact λa i m n=>q a i m (f.trans n)
 |rt z d=>exact q
def jf (n:DS X st g1) (p:gn X rest g2):gn X (st::rest) (ap g1 g2):=by
 with_unfolding_all exact (dk.imp (Q8 n p) λE B H=>by
  rintro ⟨G,i,h,o,k,r,q⟩;obtain ⟨m,e1,e2⟩:=jd r;refine ⟨G,i,h,m,k,e1,?_⟩
  cases m with
  |nx a=>exact λu J v w=>⟨G,i,a,o,v,e2,zZ w q⟩
  |rt L d=>cases e2;exact q
  |bk z=>cases e2;exact q
  |ct z=>cases e2;exact q)
def ji (a:DS X st g1):gn X [st] g1:=by
 with_unfolding_all exact (dk.imp (Xe a) λE d H q=>q)
def aJ (f:T4):Sl->ao aW:=λa=>f a>>=λd=> .ok (.rt true d)
def jB (h:DE X .t e f):DS X (.Return (some e) I) (aJ f):=by
 with_unfolding_all exact (PS.imp (Wl h) λE w H=>by
  rintro ⟨G,m,i,o,k,n,q⟩;obtain ⟨d,e1,e2⟩:=jd n;cases e2
  exact ⟨G,m,i,d,k,e1,λv p s r u=>q v p (k.af.trans s) (r.aH λa z=>z.2) λ_=>bh.am k.af u⟩)
def retS (f:T4):Sl->ao aW:=λa=>f a>>=λd=> .ok (.rt false d)
def wR (h:DE X .s e f):DS X (.Return (some e) I) (retS f):=by
 with_unfolding_all exact (PS.imp (Wl h) λE u H=>by
  rintro ⟨G,m,i,o,k,n,q⟩;obtain ⟨d,e1,e2⟩:=jd n;cases e2
  exact ⟨G,m,i,d,k,e1,λv p s r w=>q v p (k.af.trans s) (r.aH λa z=>z.2) λz=>by cases z⟩)
def lm (i:Nat):Sl->ao D:=λa=>match a[i]? with
 |some (.aw d)=> .ok d
 |some (.ah d)=>aV (d.j2=true) (.ok d)
 |_=> .aj
def yO (i:Nat) {p:Pos} (J:X.N[i]?=some x:=by rfl) (L:fL X.env.scope x:=by exact du rfl) (N:Y6 x:=by decide)
    (r:Y5 x:=by decide):DS X (.Return (some (.Name x p)) I) (aJ (lm i)):=by
 with_unfolding_all exact (PS.imp (Wl (wE J L N r)) λE σ H=>by
  rintro ⟨G,H0,O,o,k,Q,q⟩;obtain ⟨d,e1,e2⟩:=jd Q;cases e2;unfold lm at e1
  split at e1
  . rename_i U h;cases e1;obtain ⟨a,m,u,n⟩:=k.aw i d h;refine ⟨.ref a,m,q _ H k.af (n.rep (λc z=>⟨z.2,Yy k h m c z⟩) (k.g0 a u)) λ_ b e o' w=>?_⟩;cases e;rw [u] at w;cases w
  . rename_i U h;obtain ⟨B,Y⟩:=ju e1;cases Y;obtain ⟨v,m,n⟩:=k.ah i d h;exact ⟨v,m,q v H k.af (n.j2 B) λ_=>Hf k.af n B⟩
  . cases e1)
def bu (t:T3) (g1 g2:T2):Sl->ao aW:=λa=>t a>>=λb=>if b=true then g1 a else g2 a
def qd (h:DT X c t) (i:gn X j g1) (m:gn X y g2):DS X (.If c j y I) (bu t g1 g2):=by
 with_unfolding_all exact (PS.imp (Vy h i m) λE p H=>by
  rintro ⟨G,d,a,o,k,n,q⟩;obtain ⟨b,e1,e2⟩:=jd n;refine ⟨G,d,a,b,k,e1,λr s=>?_⟩
  cases b with
  |true=>rw [if_pos rfl] at e2 ⊢;exact ⟨G,d,a,o,k.am s,e2,zZ (be.refl s) q⟩
  |false=>rw [if_neg eh] at e2 ⊢;exact ⟨G,d,a,o,k.am s,e2,zZ (be.refl s) q⟩)
def b8 (i:Nat) (f:T4):Sl->ao aW:=λa=>f a>>=λd=> .ok (.nx (a.set i (Qs d)))
def wX (i:Nat) {x:Str} {a:Pos} (p:X.N.Nodup) (h:DE X .t e f) (u:X.N[i]?=some x:=by rfl) (w:Loc X.env.scope x:=by exact h8 rfl) (z:g8 e (some (.Name x a)) I.line X.env=pure false:=by rfl)
   (B:T9 X x:=by first|exact .inl rfl|exact .inr rfl|assumption):DS X (.Assign [.Name x a] e I) (b8 i f):=by
 with_unfolding_all exact (
  PS.imp (vO p u w h z B) λE O H=>by
   rintro ⟨G,J,m,o,k,L,q⟩;obtain ⟨d,e1,e2⟩:=jd L;cases e2
   exact ⟨G,J,m,d,k,e1,λv N s r n=>q _ N (k.ll s r n).1 (k.ll s r n).2⟩)
def jr (i:Nat) (f:T4):Sl->ao aW:=λa=>f a>>=λd=> .ok (.nx (a.set i (.ah d)))
def jp (i:Nat) {a:Pos} (n:X.N.Nodup) (h:DE X .s e f) (p:X.N[i]?=some x:=by rfl) (u:Loc X.env.scope x:=by exact h8 rfl) (w:g8 e (some (.Name x a)) I.line X.env=pure false:=by rfl)
   (B:T9 X x:=by first|exact .inl rfl|exact .inr rfl|assumption):DS X (.Assign [.Name x a] e I) (jr i f):=by
 with_unfolding_all exact (
  PS.imp (vO n p u h w B) λE O H=>by
   rintro ⟨G,J,m,o,k,L,q⟩;obtain ⟨d,e1,e2⟩:=jd L;cases e2
   exact ⟨G,J,m,d,k,e1,λv N s r _=>q _ N ((k.am s).iN r) (.set s λ_ _ z _=>by cases z)⟩)
def Hm (i:Nat) {p:Pos} (J:X.N.Nodup) (L:DE X l e f) (N:Cu X O (GR h)) (Q:X.N[i]?=some x:=by rfl) (U:Loc X.env.scope x:=by exact h8 rfl)
   (Y:T9 X x:=by first|exact .inl rfl|exact .inr rfl|assumption):
   DS X (.AugAssign (.Name x p) O e I) (jr i (al (ae i) f (mi h))):=by
 with_unfolding_all exact (
  PS.imp (NI J Q U L N Y) λE σ H=>by
   rintro ⟨G,H0,u,o,k,ef,q⟩;obtain ⟨d,e1,e2⟩:=jd ef;obtain ⟨a,e3,e4⟩:=jd e1;obtain ⟨b,e5,B⟩:=jd e4;cases e2;obtain ⟨v,h1,h2⟩:=k.ah i a (Hg e3);refine ⟨v,h1,G,H0,u,b,k,e5,λw H' s r _=>?_⟩
   cases a with
   |int m=>
    cases b with
    |int n=>
     cases B;cases h2.cM;cases r.cM;exact ⟨m,n,rfl,rfl,q _ H' ((k.am s).iN (.int _)) (.set s λ_ _ z _=>by cases z)⟩
    |_=>cases B
   |_=>cases B)
def Pu (h:DE X l e f) (i:g8 e none I.line X.env=pure false:=by rfl):DS X (.Expr e I) (A6 f):=by
 with_unfolding_all exact (PS.imp (Kc h i) λE m H=>by
  rintro ⟨G,n,a,o,k,p,q⟩;obtain ⟨d,e1,e2⟩:=jd p;cases e2
  exact ⟨G,n,a,d,k,e1,λv u s r _=>q m u (k.am s) (be.refl s)⟩)
end
def A7 (x:Str):It:=⟨λi _=>i<x.cps.size,λi H v a=>a=H/\ ∃c,x.cps[i]?=some c/\v= .str ⟨#[c]⟩,λi _=>x.cps.size<=i⟩
def uZ {K:aC} (j:Addr) (x:Str) (t:Tok):Turn P w K tg (A7 x) [j] j (λi h=>h.IsStrIter j "str_ascii_iterator" x t i) where
 mem:=by simp
 obj:=λi h st b l=>by
  have e:b=j:=by simpa using l
  subst e;obtain ⟨o,e,c,d⟩:=st;exact ⟨o,e,λv z=>by rw [d] at z;cases z⟩
 keep:=λi h q st k=>let ⟨o,ho,r⟩:=st;⟨o,k j (by simp) o ho,r⟩
 item:=by
  intro X u hw y U i a s Y H E I n st B;subst u hw y;have p:i<x.cps.size:=B;obtain ⟨J,L,f2,N,O,Q⟩:=n j (by simp);refine wpAny_pyNext_ascii_item st (c:=x.cps[i]) (by simp [p]) λq m sb=>?_
  have I1:aA X a Y H {s with heap:=q,toks:=s.toks+1}:=I.turned (λb o l e=>(sb.2 b l).trans e) J L N O Q;obtain ⟨o,e,c,d⟩:=id m;exact ⟨_,rfl,tK e c d (by decide) ⟨.str ⟨#[x.cps[i]]⟩,H,I1,⟨_,rfl⟩,⟨rfl,_,by simp [p],rfl⟩,m,λb l=>(n b l).1⟩⟩
 done:=by
  intro X u hw y U i a s Y H E I n st B;subst u hw y;have p:=B;obtain ⟨J,L,f2,N,O,Q⟩:=n j (by simp);exact wpAny_pyNext_ascii_end (I.ok.hd U) st (by simp;exact p) λq eb=>⟨rfl,I.turned (λb o l e=>eb b o l e) J L N O Q⟩
 self:=λ_ _ _ _ _ st h=>wpAny_pyIter_striter_ascii st h
def Pw {K:aC} (j:Addr) (x:Str) (t:Tok):Turn P w K tg (A7 x) [j] j (λi h=>h.IsStrIter j "str_iterator" x t i) where
 mem:=by simp
 obj:=λi h st b l=>by
  have e:b=j:=by simpa using l
  subst e;obtain ⟨o,e,c,d⟩:=st;exact ⟨o,e,λv z=>by rw [d] at z;cases z⟩
 keep:=λi h q st k=>let ⟨o,ho,r⟩:=st;⟨o,k j (by simp) o ho,r⟩
 item:=by
  intro X u hw y U i a s Y H E I n st B;subst u hw y;have p:i<x.cps.size:=B;obtain ⟨J,L,f2,N,O,Q⟩:=n j (by simp);refine wpAny_pyNext_wide_item st (c:=x.cps[i]) (by simp [p]) λq m sb=>?_
  have I1:aA X a Y H {s with heap:=q,toks:=s.toks+1}:=I.turned (λb o l e=>(sb.2 b l).trans e) J L N O Q;obtain ⟨o,e,c,d⟩:=id m;exact ⟨_,rfl,tK e c d (by decide) ⟨.str ⟨#[x.cps[i]]⟩,H,I1,⟨_,rfl⟩,⟨rfl,_,by simp [p],rfl⟩,m,λb l=>(n b l).1⟩⟩
 done:=by
  intro X u hw y U i a s Y H E I n st B;subst u hw y;have p:=B;obtain ⟨J,L,f2,N,O,Q⟩:=n j (by simp);exact wpAny_pyNext_wide_end (I.ok.hd U) st (by simp;exact p) λq eb=>⟨rfl,I.turned (λb o l e=>eb b o l e) J L N O Q⟩
 self:=λ_ _ _ _ _ st h=>wpAny_pyIter_striter_wide st h
def Walk (J:It) (a:List V) (P:Hp->Prop):Prop:= ∀i H,P H->(i<a.length->J.go i H)/\(i<a.length-> ∀x c,J.AJ i H x c->c=H/\a[i]?=some x)/\(a.length<=i->J.stop i H)
def Yd (K:aC) (A:WZ) (a H c:Hp) (x:V) (d:D):Prop:=
 (c=H/\aL K A a x d)\/ ∃p e h,H p=none/\x= .ref p/\c=L2.aR H p (.ak e)/\d= .ak h/\au K A a e h
def Dr (K:aC) (A:WZ) (e:Hp) (J:It) (a:List D) (P:Hp->Prop):Prop:= ∀i H,P H->(i<a.length->J.go i H)/\(∀d,a[i]?=some d-> ∀x c,J.AJ i H x c->Yd K A e H c x d)/\(a.length<=i->J.stop i H)
def Walk.toD {K:aC} (c:au K A j l m) (w:Walk J l P):Dr K A j J m P:=λi H p=>by
 have hl:=c.length;obtain ⟨n,o,q⟩:=w i H p;refine ⟨λh=>n (by omega),λd hd x u y=>?_,λh=>q (by omega)⟩;have z:=(iD.mp hd).1;obtain ⟨e,v⟩:=o (by omega) x u y;obtain ⟨B,a,r⟩:=c.get' v;rw [hd] at a;cases a;exact .inl ⟨e,r⟩
def tI (K:aC) (f:T1):TI:=λe H R=> ∃G l a i,ay K G l a e H/\f a= .ok i/\
 ∀J c P,aq H c->Dr K (Sf G a e) c J i P->P c->(∀d h j,be a e c d h j->P j)->R J c
@[irreducible] def DI (X:Cx) (a e:Expr) (f:T1):Prop:=PI X a e (tI X.K f)
def Y4 (z:Str):List D:=z.cps.toList.map λc=> .str ⟨#[c]⟩
def sM:D->ao (List D)
 | .ai a=> .ok a
 | .ei a=> .ok a
 | .ak a=> .ok a
 | .str z=> .ok (Y4 z)
 |_=> .aj
def u5 (z:Str):List V:=z.cps.toList.map λc=> .str ⟨#[c]⟩
def Px {K:aC} (z:Str):au K A H (u5 z) (Y4 z):=by
 unfold u5 Y4;generalize z.cps.toList=l
 induction l with
 |nil=>exact .nil
 |cons c r a=>exact .cons (.str _ (Pr c)) a
section
variable {X:Cx} {B e:Expr} {f:T4} {l:Lv}
def b9 (f:T4):Sl->ao (List D):=λa=>f a>>=sM
def ql (h:DE X .s e f):DI X B e (b9 f):=by
 with_unfolding_all exact (by
  rintro pins s σ H R I ⟨G,H0,O,ds,k,ef,q⟩;obtain ⟨d,e1,e2⟩:=jd ef;refine bc (h pins s σ H (λv u=>aq H u/\aL X.K (Sf G O σ) u v d) I ⟨G,H0,O,d,k,e1,λv L s r _=>⟨s,r⟩⟩) λv w h9=>?_;obtain ⟨x,u,m,r1,sm,rep⟩:=h9
  have k1:=k.am sm
  cases d with
  |ai Ho=>
   cases e2;obtain ⟨a,j,rfl,N,na,rs⟩:=rep.cC;cases r1;obtain ⟨mL,rv,p,hz⟩:=m.list (.of N);refine wpAny_pyIter_list p.isList ?_;refine ⟨w.heap.objs.size,[w.heap.objs.size],_,_,u,rfl,m.kept λb o e=>bW _ e,Vm a _,⟨_,dn _ rfl,rfl,rfl⟩,λb Q=>?_,?_⟩
   . have e:b=w.heap.objs.size:=by simpa using Q
     subst e;exact m.eQ (br _) (m.aY.fresh (br _))
   . refine q _ u (λH=>H a=some (.ai j)) sm (Walk.toD rs.low λi L p=>?_) N (λE U L fr=>fr.keep a _ N na.1);exact ⟨λn=>⟨j,j[i],.of p,by simp [n]⟩,λ_ x L y=>⟨y.1,y.2 j (.of p)⟩,λn=>⟨j,.of p,n⟩⟩
  |ei Ho=>
   cases e2;obtain ⟨a,j,rfl,N,rs⟩:=rep.m7;cases r1;obtain ⟨mL,rv,p,hz⟩:=m.list N.nW;refine wpAny_pyIter_list p.isList ?_;refine ⟨w.heap.objs.size,[w.heap.objs.size],_,_,u,rfl,m.kept λb o e=>bW _ e,Vm a _,⟨_,dn _ rfl,rfl,rfl⟩,λb Q=>?_,?_⟩
   . have e:b=w.heap.objs.size:=by simpa using Q
     subst e;exact m.eQ (br _) (m.aY.fresh (br _))
   . refine q _ u (λH=>m6 X.K H a j) sm (Walk.toD rs λi L p=>?_) N (λE U L fr=>?_)
     . exact ⟨λn=>⟨j,j[i],p.nW,by simp [n]⟩,λ_ x L y=>⟨y.1,y.2 j p.nW⟩,λn=>⟨j,p.nW,n⟩⟩
     . rcases N with ⟨o,eo⟩|z
       . exact .inl ⟨o,fr.keep a _ eo λow=>(k1.li ow eo).elim⟩
       . exact .inr z
  |ak Ho=>
   cases e2;obtain ⟨a,j,rfl,N,rs⟩:=rep.dR;cases r1;obtain ⟨mL,rv,p,hz⟩:=m.tuple (.of N);refine wd (show w.heap.IsTuple a mL.toArray from p) ?_;refine ⟨w.heap.objs.size,[w.heap.objs.size],_,_,u,rfl,m.kept λb o e=>bW _ e,uW a _,⟨_,dn _ rfl,rfl,rfl⟩,λb Q=>?_,?_⟩
   . have e:b=w.heap.objs.size:=by simpa using Q
     subst e;exact m.eQ (br _) (m.aY.fresh (br _))
   . refine q _ u (λH=>H a=some (.ak j)) sm (Walk.toD rs λi L p=>?_) N (λE U L fr=>fr.keep a _ N λow=>(k1.li ow N).elim);exact ⟨λn=>⟨j,j[i],.of p,by simp [n]⟩,λ_ x L y=>⟨y.1,y.2 j (.of p)⟩,λn=>⟨j,.of p,n⟩⟩
  |str z=>
   cases e2;obtain ⟨rfl,hz⟩:=rep.fY;obtain ⟨t,rfl⟩:=r1
   have fin: ∀(J:It),J=A7 z-> ∃(j:List V) (P:Hp->Prop),au X.K (Sf G O σ) u j (Y4 z)/\Walk J j P/\P u/\ ∀E U L,be O σ u E U L->P L:=by
     rintro J rfl;refine ⟨u5 z,λ_=>True,Px z,λi L _=>?_,trivial,λ_ _ _ _=>trivial⟩;have hl:(u5 z).length=z.cps.size:=by simp [u5]
     refine ⟨λn=>by rw [hl] at n;exact n,λn x H2 y=>?_,λn=>by rw [hl] at n;exact n⟩;obtain ⟨y1,c,y2,y3⟩:=y;refine ⟨y1,?_⟩;subst y3;simp [u5,y2]
   obtain ⟨j,P,h1,h2,h3,h4⟩:=fin (A7 z) rfl
   cases Y:z.cps.all (· <128) with
   |true=>
     refine wpAny_pyIter_ascii Y ?_;refine ⟨w.heap.objs.size,[w.heap.objs.size],_,_,u,rfl,m.kept λb o e=>bW _ e,uZ _ z t,⟨_,dn _ rfl,rfl,rfl⟩,λb Q=>?_,q _ u P sm (Walk.toD h1 h2) h3 h4⟩;have e:b=w.heap.objs.size:=by simpa using Q
     subst e;exact m.eQ (br _) (m.aY.fresh (br _))
   |false=>
     refine wpAny_pyIter_wide Y ?_;refine ⟨w.heap.objs.size,[w.heap.objs.size],_,_,u,rfl,m.kept λb o e=>bW _ e,Pw _ z t,⟨_,dn _ rfl,rfl,rfl⟩,λb Q=>?_,q _ u P sm (Walk.toD h1 h2) h3 h4⟩;have e:b=w.heap.objs.size:=by simpa using Q
     subst e;exact m.eQ (br _) (m.aY.fresh (br _))
  |_=>cases e2)
def zX (lo:Int) (n:Nat):List D:=(ke n).map λ(i:Nat)=> .int (lo+(i:Int))
def sN (lo:Int) (n:Nat):List V:=(ke n).map λ(i:Nat)=> .int (lo+(i:Int))
def Ui {K:aC} (lo:Int) (n:Nat):au K A H (sN lo n) (zX lo n):=by
 unfold sN zX;generalize ke n=l
 induction l with
 |nil=>exact .nil
 |cons c r a=>exact .cons (.int _) a
def Yn (lo:Int) (n:Nat):Walk (tL lo n) (sN lo n) (λ_=>True):=λi H _=>by
 have c:(sN lo n).length=n:=by simp [sN]
 refine ⟨λa=>by rw [c] at a;exact a,λa x j y=>?_,λa=>by rw [c] at a;exact a⟩;obtain ⟨d,h⟩:=y;refine ⟨d,?_⟩;subst h;rw [c] at a;simp [sN,a]
def rh:List D->ao (List D)
 | [.int j]=>aV (-(2^62)<=j/\j<2^62) (.ok (zX 0 j.toNat))
 |_=> .aj
def au.one {K:aC} (r:au K A H a [d]): ∃v,a=[v]/\aL K A H v d:=by
 cases r with
 |cons h t=>cases t;exact ⟨_,rfl,h⟩
def au.al {K:aC} (r:au K A H c [d,i]): ∃v a,c=[v,a]/\aL K A H v d/\aL K A H a i:=by
 cases r with
 |cons h t=>
  obtain ⟨a,rfl,j⟩:=t.one;exact ⟨_,_,rfl,h,j⟩
def PI.imp (h:PI X B e t) (w: ∀a H Q,d a H Q->t a H Q):PI X B e d:=λc s a H Q I q=>h c s a H Q I (w a H Q q)
def iO (c:T1):Sl->ao (List D):=λa=>c a>>=rh
def ZA {a:Expr} (d:Gl X "range") (h:X.mg "range" =none) (i:DA X l [a] j) (m:bg [a] X.env=[(false,eval a X.env)]:=by rfl):DI X B (.Call (.Name "range" p) [a] [] n) (iO j):=by
 with_unfolding_all exact (
  PI.imp (NO d h i m) λN H R=>by
   rintro ⟨G,o,c,O,k,u,q⟩;obtain ⟨w,e1,e2⟩:=jd u;refine ⟨G,o,c,w,k,e1,λQ y z E=>?_⟩;unfold rh at e2
   split at e2
   . obtain ⟨⟨I,J⟩,L⟩:=ju e2;cases L;obtain ⟨v,rfl,r⟩:=E.one;cases r.cM;exact ⟨_,rfl,I,J,q _ y _ z (Walk.toD (Ui 0 _) (Yn 0 _)) trivial λ_ _ _ _=>trivial⟩
   . cases e2)
def rj:List D->ao (List D)
 | [.int i,.int j]=>aV ((-(2^62)<=i/\i<2^62)/\ -(2^62)<=j/\j<2^62) (.ok (zX i (j-i).toNat))
 |_=> .aj
def kl (c:T1):Sl->ao (List D):=λa=>c a>>=rj
def UH {a:Expr} {p c:Pos} (i:Gl X "range") (j:X.mg "range" =none) (m:DA X l [a,b] n) (o:bg [a,b] X.env=[(false,eval a X.env),(false,eval b X.env)]:=by rfl) (d:bg [b] X.env=[(false,eval b X.env)]:=by rfl):
   DI X B (.Call (.Name "range" p) [a,b] [] c) (kl n):=by
 with_unfolding_all exact (
  PI.imp (NP i j m o d) λY H R=>by
   rintro ⟨G,u,h,ds,k,w,q⟩;obtain ⟨y,e1,e2⟩:=jd w;refine ⟨G,u,h,y,k,e1,λvs z E I=>?_⟩;unfold rj at e2
   split at e2
   . obtain ⟨⟨⟨J,L⟩,N,O⟩,Q⟩:=ju e2;cases Q;obtain ⟨v,v',rfl,r,U⟩:=I.al;cases r.cM;cases U.cM;exact ⟨_,_,rfl,⟨J,L,N,O⟩,q _ z _ E (Walk.toD (Ui _ _) (Yn _ _)) trivial λ_ _ _ _=>trivial⟩
   . cases e2)
def tG (K:aC) (t:TZ):TG:=λv i H Q=> ∃G j c d a,ay K G j c i H/\aL K (Sf G c i) H v d/\t d c= .ok a/\ ∀h,ay K G j a h H->be c i H a h H->Q h H
@[irreducible] def DG (X:Cx) (B:Expr) (t:TZ):Prop:=PG X B (tG X.K t)
theorem PG.imp (h:PG X B t) (w: ∀v a H Q,d v a H Q->t v a H Q):PG X B d:=λc s a H v u Q I r q=>h c s a H v u Q I r (w v a H Q q)
def gN (i:Nat):D->Sl->ao Sl:=λd a=> .ok (a.set i (.ah d))
def jq (i:Nat) {a:Pos} (h:X.N.Nodup) (j:X.N[i]?=some x:=by rfl) (m:Loc X.env.scope x:=by exact h8 rfl)
   (n:T9 X x:=by first|exact .inl rfl|exact .inr rfl|assumption):DG X (.Name x a) (gN i):=by
 with_unfolding_all exact (
  PG.imp (GP h j m n) λv p H Q=>by
   rintro ⟨G,u,o,d,c,k,r,e,q⟩;cases e
   exact q _ (k.iN r) (.set (aq.refl H) λ_ _ z _=>by cases z))
def g2 (t u:TZ):D->Sl->ao Sl:=λd c=>match d with
 | .ak [x,y]=>t x c>>=λa=>u y a
 |_=> .aj
def wI {a:Expr} {k:Nat} {i:Pos} (z:X.bT=true) (E:DG X a t) (I:DG X b u)
   (J:(eD [a,b] X.env).map (·.2)=iK a X.env::(eD [b] X.env).map (·.2):=by rfl) (j:(eD [b] X.env).map (·.2)=iK b X.env::(eD [] X.env).map (·.2):=by rfl)
   (L:(eD [a,b] X.env).length=2:=by rfl) (m:(eD [a,b] X.env).findIdx? (·.1)=none:=by rfl):DG X (.Tuple [a,b] k i) (g2 t u):=by
 with_unfolding_all exact (
  PG.imp (Cy z (xK E (xK I kq j) J) L m) λv σ H Q=>by
   rintro ⟨G,p,n,d,h,k,r,e,q⟩;unfold g2 at e
   split at e
   . obtain ⟨c,e1,e2⟩:=jd e;obtain ⟨a,xs,rfl,N,O⟩:=r.dR;obtain ⟨U,w,rfl,Y,r2⟩:=O.al;refine ⟨a,_,rfl,.of N,rfl,U,[w],rfl,G,p,n,_,c,k,Y,e1,λoD k1 y=>⟨w,[],rfl,G,p,c,_,h,k1,y.rep k r2,e2,λo k2 f2=>⟨rfl,q o k2 (y.trans f2)⟩⟩⟩
   . cases e)
def fZ (f:T4) (t:TZ):Sl->ao aW:=λa=>f a>>=λd=>t d a>>=λc=> .ok (.nx c)
def uD {a:Pos} (m:DE X .s e f) (n:DG X B t) (p:swapsWithSole [B] e a.line X.env=pure false:=by rfl) (hw:swappedStores [B] e X.env=pure none:=by rfl)
   (u:(eD [B] X.env).map (·.2)=[iK B X.env]:=by rfl):DS X (.Assign [B] e a) (fZ f t):=by
 with_unfolding_all exact (
  PS.imp (GQ m n p hw u) λE N H=>by
   rintro ⟨G,j,c,o,k,w,q⟩;obtain ⟨d,e1,e2⟩:=jd w;obtain ⟨h,y,z⟩:=jd e2;cases z
   exact ⟨G,j,c,d,k,e1,λv I s r _=>⟨G,j,c,d,h,k.am s,r,y,λi J L=>q i I J (L.am s)⟩⟩)
def a5 (c:D->Sl->ao aW):List D->Sl->ao aW
 | [],h=> .ok (.nx h)
 |d::i,h=>c d h>>=λo=>match o with
  | .nx a=>a5 c i a
  | .ct a=>a5 c i a
  | .bk a=> .ok (.nx a)
  | .rt j d=> .ok (.rt j d)
def qG (t:TZ) (g:T2):D->Sl->ao aW:=λd a=>t d a>>=g
def ca (f:T1) (t:TZ) (g:T2):Sl->ao aW:=λa=>f a>>=λc=>a5 (qG t g) c a
def zF (hp:pR (model X.prog X.w) X.A X.env X.xe) (hc:X.bT=true) (hi:DI X B e fi) (hg:DG X B t) (hb:gn X N g)
   (hs: ∀x,oi e X.env x=pure x:=by intro _;rfl):DS X (.For B e N [] pos) (ca fi t g):=by
 with_unfolding_all exact (
  PS.imp (CD hp hc hi hg hb hs) λE σ H=>by
   rintro ⟨G,O,u,o,k,ef,q⟩;obtain ⟨h,e1,e2⟩:=jd ef;refine ⟨G,O,u,h,k,e1,λJ H1 P sm wk p0 oE=>?_⟩;have k1:=k.am sm;have q1:=zZ (be.refl sm) q;refine ⟨λi m j w=>m=h.length-i/\i<=h.length/\ ∃c,ay X.K G O c j w/\be u σ H1 c j w/\a5 (qG t g) (h.drop i) c= .ok o,⟨h.length,by simp,gl _,u,k1,be.refl (aq.refl H1),by simpa using e2⟩,?_⟩;rintro i m j w ⟨rfl,hi,c,k',Q,e'⟩;obtain ⟨w1,w2,w3⟩:=wk i w (oE c j w Q)
   by_cases U:i<h.length
   . refine .inr ⟨w1 U,?_⟩;rw [A8 U] at e';obtain ⟨o1,e3,e4⟩:=jd e';obtain ⟨v,e5,e6⟩:=jd e3;refine ⟨λd I=>h.length-(i+1)=h.length-(i+1)/\i+1<=h.length/\ ∃a,ay X.K G O a d I/\be u σ H1 a d I/\a5 (qG t g) (h.drop (i+1)) a= .ok o,λd I z=>⟨h.length-(i+1),by omega,z⟩,λx I y=>?_⟩
     obtain ⟨Y,rd⟩:aq w I/\aL X.K (Sf G c j) I x h[i]:=by
      rcases w2 _ (cU U) x I y with ⟨rfl,rd⟩| ⟨p,vs,es,hp,rfl,rfl,ed,rk⟩
      . exact ⟨aq.refl _,Q.rep k1 rd⟩
      . refine ⟨aq.aR hp,?_⟩;rw [ed];exact .ak jD ((Q.rg k1 rk).am (aq.aR hp))
     refine ⟨G,O,c,h[i],v,k'.am Y,rd,e5,λoD wg wh=>⟨G,O,v,o1,wg,e6,?_⟩⟩;have L:=(Q.trans (be.refl Y)).trans wh
     cases o1 with
     |nx a=>exact λd H3 n r=>⟨rfl,U,a,n,L.trans r,e4⟩
     |ct a=>exact λd H3 n r=>⟨rfl,U,a,n,L.trans r,e4⟩
     |bk a=>cases e4;exact λd H3 n r=>q1 d H3 n (L.trans r)
     |rt fr dd=>cases e4;exact q1
   . have he:i=h.length:=by omega
     refine .inl ⟨w3 (by omega),?_⟩;rw [A9 (by omega)] at e';cases e'
     exact q1 j w k' Q)
def wV (n:Nat) (t:T3) (g:T2):Sl->ao aW:=λc=>match n with
 |0=> .aj
 |n+1=>t c>>=λb=>if b=true then g c>>=λo=>match o with
   | .nx a=>wV n t g a
   | .ct a=>wV n t g a
   | .bk a=> .ok (.nx a)
   | .rt h d=> .ok (.rt h d)
  else .ok (.nx c)
def Py (n:Nat) (hp:pR (model X.prog X.w) X.A X.env X.xe) (hc:DT X c t) (hb:gn X v g):DS X (.While c v [] pos) (wV n t g):=by
 with_unfolding_all exact (
  PS.imp (vN hp hc hb) λE Q H=>by
   rintro ⟨G,w,r,o,k,ef,q⟩;refine ⟨λm p J=> ∃d,ay X.K G w d p J/\be r Q H d p J/\wV m t g d= .ok o,⟨n,r,k,be.refl (aq.refl H),ef⟩,?_⟩;rintro m p J ⟨d,L,U,Y⟩
   cases m with
   |zero=>cases Y
   |succ m=>
    obtain ⟨b,e1,e2⟩:=jd Y;refine ⟨G,w,d,b,L,e1,λH1 y=>?_⟩
    cases b with
    |false=>
     rw [if_neg eh] at e2 ⊢;cases e2;exact q p H1 (L.am y) (U.trans (be.refl y))
    |true=>
     rw [if_pos rfl] at e2 ⊢;obtain ⟨o1,e3,I⟩:=jd e2;refine ⟨λh N=> ∃a,ay X.K G w a h N/\be r Q H a h N/\wV m t g a= .ok o,λh N z=>⟨m,tZ m,z⟩,G,w,d,o1,L.am y,e3,?_⟩;have u:=U.trans (be.refl y)
     cases o1 with
     |nx a=>exact λh O i j=>⟨a,i,u.trans j,I⟩
     |ct a=>exact λh O i j=>⟨a,i,u.trans j,I⟩
     |bk a=>cases I;exact λh O i j=>q h O i (u.trans j)
     |rt fr dd=>cases I;exact q)
end
def cJ (i:Nat) (a:Sl):Sl:=match a[i]? with
 |some (.aw d)=>a.set i (.ah d)
 |_=>a
def Xl (h:zY (cJ i c) m a):zY c m a:=by
 unfold cJ at h
 split at h
 . rename_i d o;obtain ⟨j,e,l,n⟩:=h
   by_cases z:i=j
   . subst z;obtain ⟨q,_⟩:=jL l;cases q
   . rw [jx z] at l;exact ⟨j,e,l,n⟩
 . exact h
def ay.cJ {K:aC} (i:Nat) (k:ay K G I env u H):ay K G I (cJ i env) u H:=by
 have w: ∀a,Sf G env u a->Sf G (M.cJ i env) u a:=λa n=>⟨λo=>n.1 (Xl o),n.2⟩
 cases m:env[i]? with
 |none=>
  have e:M.cJ i env=env:=by unfold M.cJ;rw [m]
  rw [e];exact k
 |some s=>
  cases s with
  |un=>
   have e:M.cJ i env=env:=by unfold M.cJ;rw [m]
   rw [e];exact k
  |ah d=>
   have e:M.cJ i env=env:=by unfold M.cJ;rw [m]
   rw [e];exact k
  |aw d=>
   have e:M.cJ i env=env.set i (.ah d):=by unfold M.cJ;rw [m]
   obtain ⟨a,h1,J,h2⟩:=k.aw i d m
   have B:Dj (M.cJ i env) u a:=by
     rintro ⟨j,p,l,r⟩;rw [e] at l
     by_cases z:i=j
     . subst z;obtain ⟨q,_⟩:=jL l;cases q
     . rw [jx z] at l;exact z (k.nX i j d p a m l h1 r)
   rw [e] at w B ⊢;refine ⟨by simp [k.len],k.af,k.g0,λj p h=>?_,λj p h=>?_,λj E L d2 b l r N O=>?_⟩
   . by_cases z:i=j
     . subst z;obtain ⟨q,hl⟩:=jL h;cases q;exact ⟨_,h1,h2.rep (λc z=>⟨w c z,Yy k m h1 c z⟩) ⟨B,k.g0 a J⟩⟩
     . rw [jx z] at h;obtain ⟨v,y,g2⟩:=k.ah j p h;exact ⟨v,y,g2.aH w⟩
   . by_cases z:i=j
     . subst z;obtain ⟨q,hl⟩:=jL h;cases q
     . rw [jx z] at h;obtain ⟨v,y,g0,g2⟩:=k.aw j p h;exact ⟨v,y,g0,g2.a9 (λ_ _ e _=>e) w λ_ e=>e⟩
   . have Q:i≠j:=λz=>by subst z;obtain ⟨q,_⟩:=jL l;cases q
     have U:i≠E:=λz=>by subst z;obtain ⟨q,_⟩:=jL r;cases q
     rw [jx Q] at l;rw [jx U] at r;exact k.nX j E L d2 b l r N O
def eN (i:Nat) (g:T2):Sl->ao aW:=λa=>g (cJ i a)
def XV (i:Nat) {st:Stmt} (h:DS X st g):DS X st (eN i g):=by
 with_unfolding_all exact (PS.imp h λE c H=>by
  rintro ⟨G,d,a,o,k,j,q⟩;refine ⟨G,d,cJ i a,o,k.cJ i,j,?_⟩;have f:be a c H (cJ i a) c H:=⟨λ_ _ e _=>e,λb o=> .inl (Xl o),λ_ e=>e⟩
  exact zZ f q)
end M
namespace PySem.AutoSeq1
open PySem Builtin
def en (l:Addr) (c:Array Value) (n:Nat) (b:Addr) (a:Array Value) (m:Nat) (dd:Option Addr) (o:Array (Option Value)) (p: ¬(!c.isEmpty&&va (c.size+a.size))=true) (q:c.size<=aS) (e:c.size+a.size<=aS+1):
  Meets (mM.«list.extend» ⟨[.ref l,.ref b],[]⟩) (λ_ R s=>s.heap.get? l=some {cls:= .type "list",dict:=none,data:= .seq c n,slots:= #[]}/\s.heap.get? b=some {cls:= .type "tuple",dict:=dd,data:= .seq a m,slots:=o}/\R (.ok (.ret kb)) {s with heap:=s.heap.update l (lg λx=>x++a),toks:=s.toks}):=
 .of_wp λi w A R s h=>by
  obtain ⟨v,g,d,tk,os⟩:=s;obtain ⟨j,r,h⟩:=h;have y:=idx_int;have z:=sub_tuple_tuple;have B:=sub_list_list;have E:=sub_tuple_list;have H:=sub_list_tuple;
  have u:(c++a).size<=aS+1:=by rw [Array.size_append];exact e
  wp_walk using (wpAny_updateSeq j rfl),wj j,wj r;exact ⟨_,rfl,h⟩
end PySem.AutoSeq1
namespace M
open PySem PySem.Spec L2
open PyProof.Rows hiding St
theorem iP: ∀ {a:List D},D.dQ a=true↔ ∀d∈a,d.j2=true
 | []=>by simp [D.dQ]
 |d::a=>by simp [D.dQ,iP]
section
variable {X:Cx}
def Pz:V->List V->Hp->VK->Prop:=λx d H Q=> ∃l b a c,x= .ref l/\d=[.ref b]/\H l=some (.ai a)/\H b=some (.ak c)/\a.length+c.length<=aS/\Q .aU (aR H l (.ai (a++c)))
def PB:C6 X "list.extend" Pz:=by
 intro w s σ H x vs v us Q I B E h;obtain ⟨l,b,xs,zs,rfl,rfl,y,J,hz,q⟩:=h;cases B;obtain ⟨u,rfl,L⟩:=E.one;cases L;obtain ⟨z,c,n,r,hl,e⟩:=I.lh y;obtain ⟨a,r2,⟨ob,e2,N,O,U⟩,z2⟩:=I.tuple (.of J);have Y:=r2.length;obtain ⟨c2,i,dt2,j⟩:=ob;have m:=N;have o:=U;subst m o;have p:c.toArray.size+a.toArray.size<=aS:=by rw [b7,b7];omega
 have d: ¬(!c.toArray.isEmpty&&va (c.toArray.size+a.toArray.size))=true:=by
  rw [Kw p,vm];exact eh
 refine sD C8 ⟨_,e,rfl⟩ F.entry_list_extend (F.args_list_extend_2 _ _)
  (AutoSeq1.en l c.toArray n b a.toArray O i j d (by rw [b7];omega) (by omega)) ⟨e,e2,?_⟩
 refine ⟨.aU,_,I.qx y e (by simp) (r.append r2) ?_,rfl,q⟩;rw [cP];omega
def Z1 (m:c[i]?=some (.aw d)):zY (c.set i (.aw n)) o a↔zY c o a:=by
 have p:=(iD.mp m).1
 constructor
 . rintro ⟨j,e,l,h⟩
   by_cases z:i=j
   . subst z;exact ⟨i,d,m,h⟩
   . rw [jx z] at l;exact ⟨j,e,l,h⟩
 . rintro ⟨j,e,l,h⟩
   by_cases z:i=j
   . subst z;exact ⟨i,n,su p,h⟩
   . exact ⟨j,e,by rw [jx z];exact l,h⟩
def ay.ia {K:aC} (k:ay K G O env d H) (l:env[i]?=some (.aw d0)) (y:d[i]?=some (some (.ref a))) (Q:H a=some U) (Y:mG (some U))
   (top: ∀(J:WZ) (I:Hp),eT (Sf G env d) H I->I a=some o'->(∀b,Sf G env d b->J b)->Top K J I a E):ay K G O (env.set i (.aw E)) d (aR H a o')/\be env d H (env.set i (.aw E)) d (aR H a o'):=by
 have hl:=(iD.mp l).1;have L:zY env d a:=⟨i,_,l,y⟩
 have st:eT (Sf G env d) H (aR H a o'):=λc o e m=>by
   rw [j3 ?_]
   . exact e
   . rintro rfl;rw [Q] at e;cases e;exact (m Y).1 L
 have w: ∀c,Sf G env d c->Sf G (env.set i (.aw E)) d c:=λc n=>⟨λo=>n.1 ((Z1 l).mp o),n.2⟩
 refine ⟨⟨by simp [k.len],λc o e=>?_,k.g0,λj p h=>?_,λj p h=>?_,λj N p d2 b q1 q2 q3 q4=>?_⟩,⟨λc o e n=>?_,λc o=> .inl ((Z1 l).mp o),λc e=>?_⟩⟩
 . have u:c≠a:=by
     rintro rfl;obtain ⟨b,h1,B,_⟩:=k.aw i _ l;rw [y] at h1;cases h1;rw [B] at e;cases e
   rw [j3 u];exact k.af c o e
 . by_cases z:i=j
   . subst z;obtain ⟨q,_⟩:=jL h;cases q
   . rw [jx z] at h;obtain ⟨v,h1,h2⟩:=k.ah j p h;exact ⟨v,h1,h2.a9 st w⟩
 . by_cases z:i=j
   . subst z;obtain ⟨q,_⟩:=jL h;cases q;obtain ⟨b,h1,B,_⟩:=k.aw i _ l;rw [y] at h1;cases h1;exact ⟨a,y,B,top _ _ st jD w⟩
   . rw [jx z] at h;obtain ⟨b,h1,B,h2⟩:=k.aw j p h
     have hb:b≠a:=by
       rintro rfl;exact z (k.nX i j _ _ b l h y h1)
     exact ⟨b,h1,B,h2.a9 st w λo e=>by rw [j3 hb];exact e⟩
 . have r: ∀(j:Nat) (p:D),(env.set i (.aw E))[j]?=some (.aw p)-> ∃d0:D,env[j]?=some (.aw d0):=λj p q=>by
     by_cases z:i=j
     . subst z;exact ⟨_,l⟩
     . rw [jx z] at q;exact ⟨_,q⟩
   obtain ⟨e1,z1⟩:=r j p q1;obtain ⟨e2,z2⟩:=r N d2 q2;exact k.nX j N e1 e2 b z1 z2 q3 q4
 . have u:c≠a:=by
     rintro rfl;exact n L
   rw [j3 u];exact e
 . by_cases u:c=a
   . subst u;rw [jD] at e;cases e
   . rw [j3 u] at e;exact e
def ay.write {K:aC} (k:ay K G j env c H) (l:env[i]?=some (.aw (.ai o))) (m:c[i]?=some (some (.ref a))) (n:H a=some (.ai p))
  (r:au K (Sf G env c) H d h):ay K G j (env.set i (.aw (.ai h))) c (aR H a (.ai d))/\be env c H (env.set i (.aw (.ai h))) c (aR H a (.ai d)):=
 k.ia l m n trivial λq u st e w=> .ai e (r.a9 st w)
def J8 {K:aC} {i:Nat} (k:ay K G o c d H) (j:c[i]?=some (.aw (.ai l))): ∃a h,d[i]?=some (some (.ref a))/\H a=some (.ai h)/\au K (Sf G c d) H h l:=by
 obtain ⟨a,m,p,n⟩:=k.aw i _ j
 cases n with
 |ai e r=>exact ⟨a,_,m,e,r⟩
variable {e:Expr} {f:T4} {l:Lv} {O Y U p:Pos} {x:Str}
def dw (i:Nat) (a:Sl):ao (List D):=match a[i]? with
 |some (.aw (.ai c))=> .ok c
 |_=> .aj
def J9 (h:dw i a= .ok c):a[i]?=some (.aw (.ai c)):=by
 unfold dw at h
 split at h
 . cases h;assumption
 . cases h
def jY (i:Nat) (f:T4):Sl->ao aW:=λa=>dw i a>>=λc=>f a>>=λd=>aV (c.length<aS) (.ok (.nx (a.set i (.aw (.ai (c++[d]))))))
def xz (i:Nat) (Q:DE X .s e f) (hN:X.N[i]?=some x:=by rfl) (hv:fL X.env.scope x:=by exact du rfl)
   (hd:Y6 x:=by decide) (u:Y5 x:=by decide)
   (h:l7 (.Name x p) "append" X.env (eval (.Name x p) X.env)=eval (.Name x p) X.env:=by rfl)
   (m:((dA Y (bg [e] X.env)).all (λx=>!x.1)&&(fV Y (fW [] X.env)).all (λx=>x.1.isSome)
    &&decide ([e].length+([]:List fO).length+(if ([]:List fO).isEmpty then 0 else 1)<30))=true:=by exact xt rfl rfl)
   (j:(U.endLine==Y.line)=true:=by rfl) (z:bg [e] X.env=(false,eval e X.env)::bg [] X.env:=by exact jm rfl) (c:(dA Y (bg [] X.env)).any (·.1)=false:=by exact jF rfl)
   (w:g8 (.Call (.Attribute (.Name x p) "append" U) [e] [] Y) none O.line X.env=pure false:=by rfl):
   DS X (.Expr (.Call (.Attribute (.Name x p) "append" U) [e] [] Y) O) (jY i f):=by
 with_unfolding_all exact (
  PS.imp (Kc (kr Ba C7 PySem.F.type_list_append Xs (wE hN hv hd u) (j8 Q wF z) h m j z c) w) λE σ H=>by
   rintro ⟨G,H0,y,o,k,ef,q⟩;obtain ⟨ds,e1,e2⟩:=jd ef;obtain ⟨d,e3,e4⟩:=jd e2;obtain ⟨hz,e5⟩:=ju e4;cases e5;have B:=J9 e1;obtain ⟨a,I,J,L,N⟩:=J8 k B;refine ⟨.ref a,J,.inl ⟨rfl,I,.of L⟩,G,H0,y,d,k,e3,λv H1 r r1 _=>?_⟩;have n:=r _ _ L;refine ⟨a,I,v,rfl,rfl,n,by rw [N.length];exact hz,?_⟩;have W:=(k.am r).write B J n ((N.am r).append (.cons r1 .nil))
   exact q σ _ W.1 (W.2.am r))
def wm (i:Nat) (f:T4):Sl->ao aW:=λa=>dw i a>>=λh=>f a>>=λd=>match d with
 | .ai c=>aV (h.length+c.length<=aS) (.ok (.nx (a.set i (.aw (.ai (h++c))))))
 | .ak c=>aV (h.length+c.length<=aS) (.ok (.nx (a.set i (.aw (.ai (h++c))))))
 |_=> .aj
def XW (i:Nat) (he:DE X .s e f) (hN:X.N[i]?=some x:=by rfl) (hv:fL X.env.scope x:=by exact du rfl)
   (hd:Y6 x:=by decide) (z:Y5 x:=by decide)
   (j:l7 (.Name x p) "extend" X.env (eval (.Name x p) X.env)=eval (.Name x p) X.env:=by rfl)
   (u:((dA Y (bg [e] X.env)).all (λx=>!x.1)&&(fV Y (fW [] X.env)).all (λx=>x.1.isSome)
    &&decide ([e].length+([]:List fO).length+(if ([]:List fO).isEmpty then 0 else 1)<30))=true:=by exact xt rfl rfl)
   (m:(U.endLine==Y.line)=true:=by rfl) (hs:bg [e] X.env=(false,eval e X.env)::bg [] X.env:=by exact jm rfl) (c:(dA Y (bg [] X.env)).any (·.1)=false:=by exact jF rfl)
   (B:g8 (.Call (.Attribute (.Name x p) "extend" U) [e] [] Y) none O.line X.env=pure false:=by rfl):
   DS X (.Expr (.Call (.Attribute (.Name x p) "extend" U) [e] [] Y) O) (wm i f):=by
 with_unfolding_all exact (
  PS.imp (Kc (kr Ba C8 PySem.F.type_list_extend (mJ.or OM PB) (wE hN hv hd z) (j8 he wF hs) j u m hs c) B) λE σ H=>by
   rintro ⟨G,H0,I,o,k,ef,q⟩;obtain ⟨ds,e1,e2⟩:=jd ef;obtain ⟨d,e3,J⟩:=jd e2;have L:=J9 e1;obtain ⟨a,N,Q,hx,y⟩:=J8 k L;refine ⟨.ref a,Q,.inl ⟨rfl,N,.of hx⟩,G,H0,I,d,k,e3,λv H1 n r1 _=>?_⟩;have h:=n _ _ hx
   cases d with
   |ai es=>
    obtain ⟨hz,e5⟩:=ju J;cases e5;obtain ⟨b,ys,rfl,hb,_,w⟩:=r1.cC;have r:=w.low;refine .inl ⟨a,b,N,ys,rfl,rfl,h,hb,by rw [y.length,w.length];exact hz,?_⟩;have W:=(k.am n).write L Q h ((y.am n).append r);exact q σ _ W.1 (W.2.am n)
   |ak es=>
    obtain ⟨hz,e5⟩:=ju J;cases e5;obtain ⟨b,ys,rfl,hb,w⟩:=r1.dR;have r:=w;refine .inr ⟨a,b,N,ys,rfl,rfl,h,hb,by rw [y.length,w.length];exact hz,?_⟩;have W:=(k.am n).write L Q h ((y.am n).append r);exact q σ _ W.1 (W.2.am n)
   |_=>cases J)
end
def UK (I:Nat->aM->Prop)
  (E: ∀n s,I n s->wpAny (model a w) A (pyNext Y) (λr e=>match r with
   |none=>R (.ok .next) e
   |some v=>wpAny (model a w) A (letOwnedTupleGo d Y v) (λ_ i=>wpAny (model a w) A (iK d o v) (λ_ p=>
    wpAny (model a w) A (forIn N true λc r=>if r=true then do let ok<-mH c o (eval c o);pure (Bb ok) else pure (Bb r)) (λok j=>
     if ok=true then wpAny (model a w) A (eval O o) (λx q=>
      wpAny (model a w) A (call (.builtin "list.append") [Q,x]) (λ_ u=> ∃m,m<n/\I m u) (λ_ _=>False) q) (λ_ _=>False) j
     else∃m,m<n/\I m j) (λ_ _=>False) p) (λ_ _=>False) i) (λ_ _=>False) e) (λ_ _=>False) s)
  (n:Nat) (h:I n s):om (model a w) A (.compLoop (.ListComp O [⟨d,iter,N,0⟩] U pos) 0 Y Q o) R s:=by
 refine codeAny_loop rfl I (λn s hI=>?_) n h;refine wpAny_noted ?_;rw [compTurn_list];refine az (wpAny_standAt (az (lM (E n s hI) (λr e y=>?_) λ_ _ l=>l.elim)))
 cases r with
 |none=>exact ba y
 |some v=>
  refine az (lM y (λ_ i B=>?_) λ_ _ l=>l.elim);refine az (lM B (λ_ p H=>az (lM H (λok j z=>?_) λ_ _ l=>l.elim)) λ_ _ l=>l.elim)
  cases ok with
  |false=>exact ba ⟨rfl,z⟩
  |true=>
   exact az (az (lM z (λx q J=>az (lM J (λ_ u L=>ba (ba ⟨rfl,L⟩)) λ_ _ l=>l.elim)) λ_ _ l=>l.elim))
def Ds (X:Cx) (N:List Str) (a:Scope) (c:List (Str×Addr)) (C:Addr) (s:aM) (H:Hp) (d:List Addr):Cx where
 prog:=X.prog
 w:=X.w
 K:=X.K
 mg:=X.mg
 af:=X.af
 A:=X.A
 N:=N
 c9:=s
 mW:=H
 env:=compEnvC a c C X.env
 outer:=X.stack
 stack:=X.stack
 ex:=d
 fn:=λ_=>false
 bT:=true
 pn:=[]
 xe:=λ_ _=>False
@[irreducible] def rm (X:Cx) (d:List Expr) (c:T3):Prop:=
 ∀(a:List (Addr×Obj)) (s:aM) (e:L2.St) (H:Hp) (Q:Bool->Hp->Prop),aA X a e H s->tT X.K c e H Q->
  wpAny (model X.prog X.w) X.A (forIn d true λc r=>if r=true then do let ok<-mH c X.env (eval c X.env);pure (Bb ok) else pure (Bb r)) (TP X a e Q) X.xe s
def qi:Sl->ao Bool:=λ_=> .ok true
def zB:rm X [] qi:=by
 with_unfolding_all exact (λa s e H Q I ⟨G,h,c,b,k,d,q⟩=>by
  cases d
  exact wpAny_tests_nil ⟨H,I,q H (aq.refl H)⟩)
def Hq (h:DT X c g):rm X [c] g:=by
 with_unfolding_all exact (λa s d H Q I q=>wpAny_tests_one (h a s d H Q I q))
def xa (n:Nat) (t:TZ) (c:T3) (i:T4):List D->Sl->ao Sl
 | [],e=> .ok e
 |d::j,e=>t d e>>=λa=>c a>>=λb=>if b=true
  then i a>>=λv=>dw n a>>=λh=>aV (h.length<aS) (xa n t c i j (a.set n (.aw (.ai (h++[v])))))
  else xa n t c i j a
def mj (c:Bool) (a:Sl) (j:Nat):Slot:=match a[j]? with
 |some (.ah d)=> .ah d
 |some (.aw d)=>if c=true then .ah d else .un
 |_=> .un
def ZC (c:Bool) (m:Nat) (d:List Nat) (a:Sl):Sl:=eP m .un++d.map (mj c a)++[.aw (.ai [])]
def qv (i:Bool) (m:Nat) (h:List Nat) (j:T1) (t:TZ) (c:T3) (l:T4):Sl->ao D:=λa=>
 j a>>=λn=>xa (m+h.length) t c l n (ZC i m h a)>>=λd=>dw (m+h.length) d>>=λe=>aV (i=true->D.dQ e=true) (.ok (.ai e))
def yo (m:Nat) (c:List Nat) (d:L2.St) (a:Addr):L2.St:=eP m none++c.map (λj=>(d[j]?).join)++[some (.ref a)]
theorem xn {a:Env}: ∀ {names:List (Str×NameKind)} {x:Str} {k:NameKind},
  (names.map λ(n,k)=>if (k==ro&&a.scope.kind== .function&&a.kindOf n==some .cell) then (n,rp) else (n,k)).lookup x=some k-> ∃d,(x,d)∈names/\(k=d\/d= .free)
 | [],_,_,h=>by simp at h
 | (n,d)::r,x,k,h=>by
  have c:gJ x ((if (d==ro&&a.scope.kind== .function&&a.kindOf n==some .cell)=true then (n,rp) else (n,d))::(r.map λ(n,k)=>if (k==ro&&a.scope.kind== .function&&a.kindOf n==some .cell) then (n,rp) else (n,k)))=some k:=h
  by_cases j:(d==ro&&a.scope.kind== .function&&a.kindOf n==some .cell)=true
  . rw [if_pos j] at c;simp only [ln] at c
    cases i:x==n with
    |true=>
     rw [i] at c;have e:x=n:=by simpa using i
     subst e;refine ⟨d,iC,.inr ?_⟩;simp at j;exact j.1.1
    |false=>
     rw [i] at c;obtain ⟨l,m,o⟩:=xn c;exact ⟨l,fM _ m,o⟩
  . rw [if_neg j] at c;simp only [ln] at c
    cases i:x==n with
    |true=>
     rw [i] at c;have e:x=n:=by simpa using i
     subst e;cases c;exact ⟨_,iC,.inl rfl⟩
    |false=>
     rw [i] at c;obtain ⟨l,m,o⟩:=xn c;exact ⟨l,fM _ m,o⟩
def pe (z:Option Str) (a:List (Str×Addr)) (C:Addr):List (Str×Addr):=match z with
 |none=>a
 |some y=>(y,C+1)::a
def Dt (z:Option Str) (h:Heap):Heap:=match z with
 |none=>h
 |some _=>h.push {cls:= .type "cell",data:= .cell none}
abbrev j9 (z:Option Str) (X:Cx) (N:List Str) (a:Scope) (c:List (Str×Addr)) (C:Addr) (s:aM) (H:Hp) (d:List Addr):Cx:={Ds X N a (pe z c C) C s H d with fn:=λx=>some x==z}
def rq (h:gJ x (pe z a C)=some c):(z=some x/\c=C+1)\/(z≠some x/\a.lookup x=some c):=by
 cases z with
 |none=>exact .inr ⟨nofun,h⟩
 |some z=>
  have h:gJ x ((z,C+1)::a)=some c:=h;rw [ln] at h
  cases e:x==z with
  |true=>rw [e] at h;cases h;exact .inl ⟨by rw [show x=z by simpa using e],rfl⟩
  |false=>rw [e] at h;exact .inr ⟨λq=>by simp at e;exact e (fj q).symm,h⟩
def Bc (d:z≠some x) (h:a.lookup x=some c):gJ x (pe z a C)=some c:=by
 cases z with
 |none=>exact h
 |some z=>
  show gJ x ((z,C+1)::a)=some c;rw [ln,show (x==z)=false by simpa using λq=>d (by rw [q])];exact h
def PC {code:Value}
  (made: ∀n,cellsFrom (n+1) a.names q=pe z q n) (d: ∀h,pushCells h a.names=Dt z h)
  (v: ∀p,p.Ns s.heap.objs.size (λ_=>none)->(∀b o,s.heap.get? b=some o->p.get? b=some o)->(∀y,z=some y->p.IsCell (s.heap.objs.size+1) none)->Q (newEnv a s.heap.objs.size globals (pe z q s.heap.objs.size) j l code (some i) c) {s with heap:=p}):
  wpAny M A (newFunctionEnv a globals q [] j l code (some i) c) Q E s:=by
 simp only [newFunctionEnv,Option.isSome_some,if_true];refine az (wpAny_alloc ?_);refine az (wpAny_layCells _ (λname m r=>by cases u:m==rp<;>simp [u]) _ _ _ _ ?_);have w:(s.heap.push {cls:= .type "dict",data:= .dict #[]}).objs.size=s.heap.objs.size+1:=oo ..;have B:=made s.heap.objs.size;rw [<-w] at B;rw [B,d];simp;refine ba ?_;have H:=Heap.Ns.new s.heap (.type "dict")
 cases z with
 |none=>exact v _ H (λb o e=>bW _ e) nofun
 |some z=>
  refine v ((s.heap.push {cls:= .type "dict",data:= .dict #[]}).push {cls:= .type "cell",data:= .cell none}) (H.keeps λb o e=>bW _ e) (λb o e=>bW _ (bW _ e)) λ_ _=>⟨_,by rw [<-w];exact dn _ rfl,rfl⟩
structure et (z:Option Str) (X:Cx) (scope:Scope) (cl:List (Str×Addr)) (N:List Str) (m:Nat) (js:List Nat):Prop where
 Du:closureFor scope X.env=pure cl
 kind:scope.kind= .function
 names: ∀x∈scope.names,x.2= .local->scope.names.lookup x.1=some .local
 rA: ∀y∈scope.names,y.2= .cell->z=some y.1
 made: ∀n,cellsFrom (n+1) scope.names cl=pe z cl n
 rB: ∀h,pushCells h scope.names=Dt z h
 zk: ∀y,z=some y->scope.names.lookup y=some .cell
 cls: ∀x c,cl.lookup x=some c->X.env.cells.lookup x=some c
 free: ∀y∈scope.names,y.2= .free-> ∃c,cl.lookup y.1=some c
 nd:N.Nodup
 len:N.length=m+js.length+1
 PD: ∀(k j:Nat),js[k]?=some j-> ∃y,N[m+k]?=some y/\X.N[j]?=some y/\(X.env.scope.names.lookup y=some .cell\/X.env.scope.names.lookup y=some .free)/\scope.names.lookup y=some .free
 last: ∀y,N[m+js.length]?=some y-> ∀p∈scope.names,p.1≠y
section
variable {X:Cx} {tg iter elt:Expr} {ifs:List Expr} {L:Scope} {cl:List (Str×Addr)} {N:List Str} {m:Nat} {js:List Nat} {pos:Pos} {im:Bool} {z:Option Str}
 {fi:T1} {t:TZ} {c:T3} {fe:T4}
def PF {σ:L2.St} {C:Addr} {E:List Addr} (S:et z X L cl N m js) (J:X.bT=true) (I:aA X p σ H s) (r:s.heap.objs.size<=C) (B: ∀b∈E,cQ X p H b) (w: ∀b∈E,b<s.heap.objs.size):
  (j9 z X N L cl C s H E).Ok where
 mod:=I.ok.mod
 kind:=S.kind
 glob:=I.ok.glob
 blt:=I.ok.blt
 above:=r
 inj:=λx y c d a=>by
  have Y: ∀u,X.env.cells.lookup u=some (C+1)->False:=λu e=>by
    obtain ⟨v,o,ho,_⟩:=I.cell u _ e;exact absurd (b6 ho) (Nat.not_lt_of_le (cY r (nS _)))
  rcases rq d with ⟨ex,O⟩| ⟨_,Q⟩
  . rcases rq a with ⟨U,_⟩| ⟨_,g2⟩
    . rw [ex] at U;exact fj U
    . rw [O] at g2;exact (Y _ (S.cls _ _ g2)).elim
  . rcases rq a with ⟨U,O⟩| ⟨_,g2⟩
    . rw [O] at Q;exact (Y _ (S.cls _ _ Q)).elim
    . exact I.ok.inj x y c (S.cls x c Q) (S.cls y c g2)
 has:=λx h=>by
  have mem:z=some x\/ ∃j,(x,j)∈L.names/\j= .free:=by
    rcases h with h|h<;>obtain ⟨j,d,a⟩:=xn h
    . rcases a with z|z
      . exact .inl (S.rA _ d z.symm)
      . exact .inr ⟨j,d,z⟩
    . rcases a with z|z
      . exact .inr ⟨j,d,z.symm⟩
      . exact .inr ⟨j,d,z⟩
  by_cases l:z=some x
  . subst l;exact ⟨C+1,by show gJ x ((x,C+1)::cl)=_;simp [ln]⟩
  . obtain ⟨j,d,a⟩:=mem.resolve_left l;obtain ⟨c,J⟩:=S.free _ d a;exact ⟨c,Bc l J⟩
 oe:=λx c h a=>by
  have e:some x=z:=by simpa using h
  rcases rq a with ⟨_,rfl⟩| ⟨n,_⟩
  . exact cY r (nS _)
  . exact (n e.symm).elim
 hd:=λ_=>I.ok.hd J
 frames:=I.ok.frames
 oZ:= .inl rfl
 o3:=λb i=>⟨λz=>absurd (fS (w b i) (by rw [z];exact r)) (lZ _),λx c h=>by
  rcases rq h with ⟨_,rfl⟩| ⟨_,h⟩
  . exact λe=>absurd (w b i) (Nat.not_lt_of_le (by rw [<-e];exact cY r (nS _)))
  . exact (B b i).2.2.2.2.1 x c (S.cls x c h)⟩
 bs:=I.bs
 l0:=cY I.ok.l0 I.sz
 gX:=λb o e i=>by
  rcases (B b i).2.2.2.1 with z|z
  . exact I.ok.gX b o e z
  . exact absurd (fS (b6 e) (cY I.ok.l0 z)) (lZ _)
 gY:=λb i z=>by
  rcases bJ.mp (I.gZ b z) with q|q
  . exact (B b i).2.1 q
  . exact (B b i).2.2.1 q
 dO:=I.stack
 mX:=I.eI
def Hr (h:mj im a j= .aw d):False:=by
 unfold mj at h
 split at h
 . cases h
 . split at h<;>cases h
 . cases h
def PH (h:zY (ZC im m js p) (yo m js q a) b):b=a:=by
 obtain ⟨i,d,h,l⟩:=h
 have r:i=m+js.length:=by
  unfold ZC at h
  by_cases o:i<m
  . rw [hJ,g9 (by simpa using o),ox] at h
    split at h<;>cases h
  . rw [hJ,iL (by simpa using o)] at h;simp at h
    by_cases l:i-m<js.length
    . rw [g9 (by simpa using l),iE] at h
      cases e:js[i-m]? with
      |none=>rw [e] at h;cases h
      |some j=>
        rw [e] at h;have u:=fj h;exact (Hr u).elim
    . rw [iL (by simpa using l)] at h;simp at h
      by_cases v:i-m-js.length=0
      . omega
      . rw [mP (by simp;omega)] at h;cases h
 subst r
 have n:(yo m js q a)[m+js.length]?=some (some (.ref a)):=by
  unfold yo;rw [hJ,iL (by simp),iL (by simp)];simp
 rw [n] at l;cases l;rfl
abbrev Gc (im:Bool) (G:WZ) (a:Sl) (d:L2.St):Addr->Prop:=λc=>G c/\(im=false-> ¬zY a d c)
def PJ {K:aC} (k:ay K G H0 l p H) (Q:H a=none):
   ay K (Gc im G l p) H (ZC im m js l) (yo m js p a) (aR H a (.ai [])):=by
 have n: ∀(i:Nat) (d:D),(ZC im m js l)[i]?=some (.aw d)->i=m+js.length/\d= .ai []:=λi d h=>by
   unfold ZC at h
   by_cases u:i<m
   . rw [hJ,g9 (by simpa using u),ox] at h
     split at h<;>cases h
   . rw [hJ,iL (by simpa using u)] at h;simp at h
     by_cases q:i-m<js.length
     . rw [g9 (by simpa using q),iE] at h
       cases e:js[i-m]? with
       |none=>rw [e] at h;cases h
       |some j=>
         rw [e] at h;have w:=fj h;exact (Hr w).elim
     . rw [iL (by simpa using q)] at h;simp at h
       by_cases y:i-m-js.length=0
       . rw [y] at h;cases h;exact ⟨by omega,rfl⟩
       . rw [mP (by simp;omega)] at h;cases h
 have B:(yo m js p a)[m+js.length]?=some (some (.ref a)):=by
   unfold yo;rw [hJ,iL (by simp),iL (by simp)];simp
 have E: ∀b,zY (ZC im m js l) (yo m js p a) b->b=a:=λb ⟨i,d,u,q⟩=>by
   obtain ⟨rfl,rfl⟩:=n i d u;rw [B] at q;cases q;rfl
 have sm:aq H (aR H a (.ai [])):=aq.aR Q;refine ⟨by simp [ZC,yo],sm,λc z=>⟨(k.new c z).2,λ_=>(k.new c z).1⟩,λi d h=>?_,λi d h=>?_,λi j d e b u q y J=>(n i d u).1.trans (n j e q).1.symm⟩
 . unfold ZC at h
   by_cases u:i<m
   . rw [hJ,g9 (by simpa using u),ox] at h
     split at h<;>cases h
   . rw [hJ,iL (by simpa using u)] at h;simp at h
     by_cases q:i-m<js.length
     . rw [g9 (by simpa using q),iE] at h
       cases e:js[i-m]? with
       |none=>rw [e] at h;cases h
       |some j=>
         rw [e] at h;have w:=fj h
         have U:(yo m js p a)[i]?=some ((p[j]?).join):=by
           unfold yo;rw [hJ,iL (by simpa using u)];simp;rw [g9 (by simpa using q),iE,e];rfl
         have I: ∀v,p[j]?=some (some v)->aL K (Gc im G l p) H v d-> ∃v,(yo m js p a)[i]?=some (some v)/\aL K (Sf (Gc im G l p) (ZC im m js l) (yo m js p a)) (aR H a (.ai [])) v d:=λv e1 r=>by
           refine ⟨v,by rw [U,e1];rfl,(r.cw.am sm).aH λb z=>⟨λo=>?_,z.1⟩⟩;rw [E b o] at z;exact z.2 Q
         unfold mj at w
         split at w
         . rename_i d' O;cases w;obtain ⟨v,y,J⟩:=k.ah j d O;exact I v y (J.aH λc z=>⟨z.2,λ_=>z.1⟩)
         . rename_i d' O
           split at w
           . rename_i Y;cases w;obtain ⟨v,y,h0,J⟩:=k.aw j d O;exact I _ y (J.rep (λc z=>⟨⟨z.2,λ_=>z.1⟩,Yy k O y c z⟩) ⟨k.g0 _ h0,λz=>by rw [Y] at z;cases z⟩)
           . cases w
         . cases w
     . rw [iL (by simpa using q)] at h;simp at h
       by_cases y:i-m-js.length=0
       . rw [y] at h;cases h
       . rw [mP (by simp;omega)] at h;cases h
 . obtain ⟨rfl,rfl⟩:=n i d h;exact ⟨a,B,Q,.ai jD .nil⟩
def UJ (use:Option (Value->Sem Unit)) (Q':Vt) (im:Bool) (N:List Str) (m:Nat) (js:List Nat) (S:et z X L cl N m js) (hc:X.bT=true) (hi:PI X tg iter (tI X.K fi))
   (hb: ∀(C:Addr) (s:aM) (H:Hp) (fp:List Addr),PG (j9 z X N L cl C s H fp) tg (tG X.K t)/\rm (j9 z X N L cl C s H fp) ifs c/\PE (j9 z X N L cl C s H fp) elt (tE X.K .s fe))
   (hs: ∀x,oi iter X.env x=pure x) {pins:List (Addr×Obj)} {Y:L2.St} {H:Hp} (I:aA X pins Y H s) (k:ay X.K G H0 E Y H) (ef:qv im m js fi t c fe E= .ok d)
   (Dv: ∀(a C:Addr) (s':aM) (Q:Hp) (mm:W0) (r:Flow),s'.heap.Ns C mm->(∀h',pO C s'.heap h'->aA X pins Y Q {s' with heap:=h'})->cQ X pins Q C->aq H Q->aL X.K (Sf G E Y) Q (.ref a) d->bh H (.ref a)->compPost (model X.prog X.w) X.A X.xe use Q' (.ref a) C (.ok r) s'):
   wpAny (model X.prog X.w) X.A (comprehension (.ListComp elt [⟨tg,iter,ifs,0⟩] L pos) L X.env (firstIterPos [⟨tg,iter,ifs,0⟩] pos) (newList []) (firstAsync [⟨tg,iter,ifs,0⟩]) (firstIter [⟨tg,iter,ifs,0⟩] X.env) use) Q' X.xe s:=by
 with_unfolding_all exact (by
  obtain ⟨ds,e1,ef⟩:=jd ef;obtain ⟨rC,e2,ef⟩:=jd ef;obtain ⟨PL,e3,e4⟩:=jd ef;obtain ⟨Dw,e4⟩:=ju e4;cases e4;refine wpAny_comprehension_free rfl hs S.Du S.kind S.names ?_;refine bc (hi pins s Y H (λJ H1=> ∃P,aq H H1/\Dr X.K (Sf G E Y) H1 J ds P/\P H1/\ ∀w O Q,be E Y H1 w O Q->P Q) I ⟨G,H0,E,ds,k,e1,λJ H1 P a b c' d'=>⟨P,a,b,c',d'⟩⟩) λv s1 h1=>bc h1 λNR s2 h2=>?_
  obtain ⟨it,fp,tn,J,H2,rfl,I2,T,tM,f2,P,sm,wk,p0,oE⟩:=h2;have k2:=k.am sm;refine nU (PC S.made S.rB (λrD nc nh ni=>?_));dsimp only at nc nh ni ⊢;have nj:=I2.aY.fresh (br _)
  let a:=s2.heap.objs.size
  have ha:=nj;have I3:=I2.qE (t':=s2.toks) .nil (gl _)
  let s3:aM:={s2 with heap:=s2.heap.push {cls:= .type "list",dict:=none,data:= .seq ([]:List Value).toArray}}
  let C:=s3.heap.objs.size
  have f3: ∀b∈fp,cQ X pins (aR H2 a (.ai [])) b:=λb l=>by
   obtain ⟨z0,z⟩:=f2 b l;refine ⟨?_,z⟩
   have PM:b≠a:=by
     obtain ⟨o,ho,_⟩:=T.obj 0 _ tM b l;exact eB (b6 ho)
   rw [j3 PM];exact z0
  have Dy: ∀b∈fp,b<s3.heap.objs.size:=λb l=>by
   obtain ⟨o,ho,_⟩:=T.obj 0 _ tM b l;refine fS (b6 ho) ?_;rw [oo];exact nS _
  have XO:=PF S hc I3 (br _) f3 Dy;obtain ⟨PN,PP,PQ⟩:=hb C s3 (aR H2 a (.ai [])) fp;have old: ∀b o,s3.heap.get? b=some o->rD.get? b=some o:=λb o e=>nh b o e
  have I4:aA (j9 z X N L cl C s3 (aR H2 a (.ai [])) fp) [] (yo m js Y a) (aR H2 a (.ai [])) {s2 with heap:=rD,toks:=s2.toks+([]:List (Str×Value)).length}:=by
   refine ⟨XO,rfl,I3.bare,Un.kept old,⟨_,nc,λi y v' h1 h2 h3=>?_⟩,λy c' h=>?_,I3.aY.fresh (br _),λy c' h=>(by
     rcases rq h with ⟨_,rfl⟩| ⟨_,h⟩
     . exact I3.aY.fresh (nS _)
     . exact I3.cG y c' (S.cls y c' h)),λp hp=>absurd hp (by simp [Ds]),I3.aY.kept old,?_⟩
   . --a wl name
     have Dz:N[i]?=some y:=h1;unfold yo at h2
     by_cases q1:i<m
     . rw [hJ,g9 (by simpa using q1),ox] at h2
       split at h2<;>cases h2
     . rw [hJ,iL (by simpa using q1)] at h2;simp at h2
       by_cases q2:i-m<js.length
       . rw [g9 (by simpa using q2),iE] at h2
         cases e:js[i-m]? with
         |none=>rw [e] at h2;cases h2
         |some j=>
           rw [e] at h2;have wr:(Y[j]?).join=some v':=fj h2
           have hj:Y[j]?=some (some v'):=by
             cases z:Y[j]? with
             |none=>rw [z] at wr;cases wr
             |some w'=>rw [z] at wr;simp at wr;rw [wr]
           obtain ⟨y',g1,g2,g3,g4⟩:=S.PD (i-m) j e
           have ey:y'=y:=by
             rw [show m+(i-m)=i by omega,Dz] at g1;exact (fj g1).symm
           subst ey;obtain ⟨mm,hn,hl⟩:=I3.loc
           have PR:fL X.env.scope y':=by
             rcases g3 with z|z
             . exact .inr (.inl z)
             . exact .inr (.inr z)
           obtain ⟨u,ru,lk⟩:=hl j y' v' g2 hj PR;refine ⟨u,ru,.inr ⟨?_,?_⟩⟩
           . rcases h3 with z|z
             . exfalso;obtain ⟨k',m1,m2⟩:=xn z;have Bc:=S.names _ m1;rcases m2 with w'|w'
               . subst w';have:=Bc rfl;rw [g4] at this;cases this
               . subst w'
                 have: ∀ {names:List (Str×NameKind)},names.lookup y'=some .free->(names.map λ(n,k)=>if (k==ro&&X.env.scope.kind== .function&&X.env.kindOf n==some .cell) then (n,rp) else (n,k)).lookup y'≠some .local:=by
                  intro names
                  induction names with
                  |nil=>intro h;cases h
                  |cons p r ih=>
                   obtain ⟨n,kk⟩:=p;intro h h';have nk:gJ y' ((if (kk==ro&&X.env.scope.kind== .function&&X.env.kindOf n==some .cell)=true then (n,rp) else (n,kk))::(r.map λ(n,k)=>if (k==ro&&X.env.scope.kind== .function&&X.env.kindOf n==some .cell) then (n,rp) else (n,k)))=some .local:=h';simp only [ln] at h
                   cases hx:y'==n with
                   |true=>
                    rw [hx] at h;cases h
                    split at nk<;>simp [ln,hx] at nk
                   |false=>
                    rw [hx] at h
                    split at nk<;>(simp only [ln,hx] at nk;exact ih h nk)
                 exact this g4 z
             . exact z
           . rcases lk with ⟨kk,_⟩| ⟨kk,c',sv,wB⟩
             . exfalso;have Hs:X.env.scope.names.lookup y'=some .local:=kk;rcases g3 with z|z<;>(rw [z] at Hs;cases Hs)
             . obtain ⟨c2,Bd⟩:=S.free (y',.free) (p4 g4) rfl
               have:c2=c':=by
                 have:=S.cls _ _ Bd;rw [sv] at this;exact (fj this).symm
               subst this;obtain ⟨o,ho,hd⟩:=wB;exact ⟨c2,Bc (λq=>by rw [S.zk _ q] at g4;cases g4) Bd,o,old _ _ ho,hd⟩
       . exfalso
         have Ht:i=m+js.length:=by
           have hl:=(iD.mp Dz).1;rw [S.len] at hl;omega
         subst Ht;have no:=S.last y Dz;rcases h3 with z|z|z<;>
         . obtain ⟨k',m1,_⟩:=xn z;exact no _ m1 rfl
   . rcases rq h with ⟨q,rfl⟩| ⟨_,h⟩
     . exact ⟨none,ni _ q⟩
     . obtain ⟨v',o,ho,hd⟩:=I3.cell y c' (S.cls y c' h);exact ⟨v',o,old _ _ ho,hd⟩
   . show (yo m js Y a).length=N.length;rw [S.len];simp [yo];omega
  have kC:ay X.K (Gc im G E Y) H2 (ZC im m js E) (yo m js Y a) (aR H2 a (.ai [])):=PJ k2 ha
  have fC: ∀b∈fp,cQ (j9 z X N L cl C s3 (aR H2 a (.ai [])) fp) [] (aR H2 a (.ai [])) b:=λb l=>by
   obtain ⟨z0,z1,z2,z3,z4,z5⟩:=f3 b l;exact ⟨z0,(XO.o3 b l).1,XO.gY b l,.inl l,(XO.o3 b l).2,λp hp=>absurd hp (by simp [Ds])⟩
  have stC:=T.keep 0 _ _ tM λb l o e=>old b o (bW _ e)
  have loop:om (model X.prog X.w) X.A (.compLoop (.ListComp elt [⟨tg,iter,ifs,0⟩] L pos) 0 (.ref it) (.ref a) (compEnvC L (pe z cl C) C X.env))
     (compPost (model X.prog X.w) X.A X.xe use Q' (.ref a) C) {s2 with heap:=rD,toks:=s2.toks+([]:List (Str×Value)).length}:=by
   refine UK (λn s'=> ∃i O Q w,n=ds.length+1-i/\i<=ds.length/\aA (j9 z X N L cl C s3 (aR H2 a (.ai [])) fp) [] O Q s'/\tn i s'.heap/\(∀b∈fp,Q b=none)/\(∀b,zY w O b->b=a)/\
       ay X.K (Gc im G E Y) H2 w O Q/\be (ZC im m js E) (yo m js Y a) (aR H2 a (.ai [])) w O Q/\xa (m+js.length) t c fe (ds.drop i) w= .ok rC) ?_ (ds.length+1)
     ⟨0,_,_,_,rfl,gl _,I4,stC,λb l=>(fC b l).1,?_,kC,be.refl (aq.refl _),by simpa using e2⟩
   . rintro n s' ⟨i,O,Q,w,rfl,Ht,Ic,st,fr,wQ,kc,fc,ec⟩;have hP:=oE E Y Q (be.refl kc.af);obtain ⟨w1,w2,w3⟩:=wk i Q hP;have DB: ∀ {Q:Hp},(∀b∈fp,Q b=none)-> ∀b∈fp,cQ (j9 z X N L cl C s3 (aR H2 a (.ai [])) fp) [] Q b:=λhn b l=>⟨hn b l,(fC b l).2⟩
     by_cases cV:i<ds.length
     . have hd:i<ds.length:=by omega
       rw [A8 hd] at ec;obtain ⟨ic,e5,ec⟩:=jd ec;obtain ⟨b,e6,ec⟩:=jd ec;refine bc (T.item (j9 z X N L cl C s3 (aR H2 a (.ai [])) fp) rfl rfl rfl rfl i [] s' O Q (λ_ _=>False) Ic (DB fr) st (w1 cV)) λr s4 h9=>?_;obtain ⟨u,hr,h4⟩:=h9
       subst hr;refine bc h4 λ_ s5 h9=>?_;obtain ⟨x,H5,I5,r5,y5,DC,CF⟩:=h9
       have Hu: ∀b,(Sf G E Y b/\H2 b≠none)->Sf (Gc im G E Y) w O b:=λb z=>⟨λo=>(by
         rw [wQ b o] at z
         exact z.2 ha),z.1.2,λ_=>z.1.1⟩
       obtain ⟨wW,w4⟩:aq Q H5/\aL X.K (Sf (Gc im G E Y) w O) H5 x ds[i]:=by
         rcases w2 _ (cU hd) x H5 y5 with ⟨rfl,rd⟩| ⟨p,vs,es,hp,rfl,rfl,ed,rk⟩
         . exact ⟨aq.refl _,(rd.cw.am kc.af).aH Hu⟩
         . refine ⟨aq.aR hp,?_⟩;rw [ed];exact .ak jD (((rk.cw.am kc.af).aH Hu).am (aq.aR hp))
       have PU:=kc.am wW;have PV:=I5.pinned (DB CF) (T.obj _ _ DC);refine bc (PN _ s5 O H5 x u (λoD Hn=>Hn=H5/\ay X.K (Gc im G E Y) H2 ic oD H5/\be w O H5 ic oD H5) PV r5 ⟨_,H2,w,ds[i],ic,PU,w4,e5,λoD k1 f1=>⟨rfl,k1,f1⟩⟩) λ_ s6 h9=>?_;obtain ⟨pT,H6,I6,z6,k6,Hv⟩:=h9
       subst z6
       have DD: ∀b,zY ic pT b->b=a:=λb o=>by
         rcases Hv.more b o with z|z
         . exact wQ b z
         . obtain ⟨uu,hu⟩:=k6.there o;rw [z] at hu;cases hu
       refine bc (PP _ s6 pT H6 (λb' Hn=>b'=b/\aq H6 Hn) I6 ⟨_,H2,ic,b,k6,e6,λHn sn=>⟨rfl,sn⟩⟩) λok s7 h9=>?_;obtain ⟨H7,I7,z7,Hw⟩:=h9
       subst z7;have k7:=k6.am Hw;have Hx:=((fc.trans (be.refl wW)).trans Hv).trans (be.refl Hw)
       have out: ∀ {s8:aM} {sO:L2.St} {H8:Hp} {ml:Sl},aA (j9 z X N L cl C s3 (aR H2 a (.ai [])) fp) ([]++Vz fp s5.heap) sO H8 s8->(∀b,zY ml sO b->b=a)->ay X.K (Gc im G E Y) H2 ml sO H8->
           be (ZC im m js E) (yo m js Y a) (aR H2 a (.ai [])) ml sO H8->xa (m+js.length) t c fe (ds.drop (i+1)) ml= .ok rC->
           ∃mm,mm<ds.length+1-i/\ ∃i O Q w,mm=ds.length+1-i/\i<=ds.length/\aA (j9 z X N L cl C s3 (aR H2 a (.ai [])) fp) [] O Q s8/\tn i s8.heap/\(∀b∈fp,Q b=none)/\(∀b,zY w O b->b=a)/\
             ay X.K (Gc im G E Y) H2 w O Q/\be (ZC im m js E) (yo m js Y a) (aR H2 a (.ai [])) w O Q/\xa (m+js.length) t c fe (ds.drop i) w= .ok rC:=by
         intro s8 sO H8 ml I8 PX k8 f8 e8;refine ⟨ds.length+1-(i+1),by omega,i+1,sO,H8,ml,rfl,cV,I8.eJ,T.keep _ _ _ DC λb l o e=>(I8.pin (b,o) (nR _ (nR _ (Qc l e)))).1,λb l=>?_,PX,k8,f8,e8⟩;obtain ⟨o,e,_⟩:=T.obj _ _ DC b l;exact (I8.pin (b,o) (nR _ (nR _ (Qc l e)))).2.1
       cases ok with
       |false=>
         rw [if_neg eh] at ec ⊢;exact out I7 DD k7 Hx ec
       |true=>
         rw [if_pos rfl] at ec ⊢;obtain ⟨vd,e7,ec⟩:=jd ec;obtain ⟨acc,e8,ec⟩:=jd ec;obtain ⟨hz,ec⟩:=ju ec;refine bc (PQ _ s7 pT H7 (λy Hn=>aq H7 Hn/\aL X.K (Sf (Gc im G E Y) ic pT) Hn y vd) I7 ⟨_,H2,ic,vd,k7,e7,λy Hn sn rn _=>⟨sn,rn⟩⟩) λyv s8 h9=>?_;obtain ⟨y,H8,I8,ry,Hy,DF⟩:=h9
         have k8:=k7.am Hy;have Be:=J9 e8;obtain ⟨a8,Hz,HA,HC,HD⟩:=J8 k8 Be;have ea:=DD a8 ⟨_,_,Be,HA⟩;subst ea;have W:=k8.write Be HA HC (HD.append (.cons DF .nil))
         refine bc (Xs _ s8 pT H8 (.ref a) [y] (.ref a) [yv] (λ_ Hn=>Hn=aR H8 a (.ai (Hz++[y]))) I8 rfl (.cons ry .nil)
           ⟨a,Hz,y,rfl,rfl,HC,by rw [HD.length];exact hz,rfl⟩) λ_ s9 ⟨_,H9,I9,_,z9⟩=>?_
         subst z9;exact out I9 (λb o=>DD b ((Z1 Be).mp o)) W.1 ((Hx.trans (be.refl Hy)).trans W.2) ec
     . have he:i=ds.length:=by omega
       rw [A9 (by omega)] at ec;cases ec;refine bc (T.done (j9 z X N L cl C s3 (aR H2 a (.ai [])) fp) rfl rfl rfl rfl i [] s' O Q (λ_ _=>False) Ic (DB fr) st (w3 (by omega))) λr s4 ⟨hr,I5⟩=>?_
       subst hr;have DH:=J9 e3;obtain ⟨aF,xsF,HE,PY,HF⟩:=J8 kc DH;have ea:=wQ aF ⟨_,_,DH,HE⟩;subst ea;obtain ⟨mm,hn,_⟩:=I5.loc;refine Dv a C s4 Q mm _ hn (λh' Bf=>?_) (I3.eQ (br _) I5.free) (sm.trans kc.af) (.ai PY (k.new a (aq.free sm ha)) ?_) (qH sm ha)
       rotate_left
       . cases HG:im with
         |true=>exact HF.j2 (Dw HG)
         |false=>exact HF.aH λc z=>⟨⟨z.2.2 HG,z.2.1⟩,Yy kc DH HE c z⟩
       have nC: ∀b o,Q b=some o->b≠C:=λb o e z=>by
         have:=I5.free;rw [z] at e;have e':Q C=none:=this;rw [e] at e';cases e'
       have B:=I5.af;have DJ: ∀b o,s3.heap.get? b=some o->b≠C:=λb o e=>eB (b6 e)
       have U:Un (dj X.stack) fp (aR H2 a (.ai [])) Q s3.heap h':=⟨λb o e n l mn=>(Bf.2 b (DJ b o e)).trans (B.keep b o e n l mn),
         λb o e n l mn=>let ⟨sl,z⟩:=B.slot b o e n l mn;⟨sl,(Bf.2 b (DJ b o e)).trans z⟩,B.free,
         λb o e mn=>let ⟨o',z⟩:=B.there b o e mn;⟨o',(Bf.2 b (DJ b o e)).trans z⟩,B.eH,B.fE,B.fT⟩
       refine aA.iI I3 I5.os U (λb o e=>(I5.aY b o e).a9 (λc' u sv qq=>(Bf.2 c' ?_).trans qq) (λ_ z=>z) λ_ _ z=>z) I5.bare (λb l=>?_)
       . rcases sv with z|z
         . rw [z];exact nC b o e
         . exact nC c' _ z
       . obtain ⟨z0,z1,z2,z3,z4,z5⟩:=f3 b l;exact ⟨z3,z1,z4,z5⟩
   . exact λb o=>PH o
  exact codeAny_compStart_list loop (T.self _ 0 _ _ _ stC loop))
def wq (im:Bool) (N:List Str) (m:Nat) (js:List Nat) (S:et z X L cl N m js) (n:X.bT=true) (o:DI X tg iter fi)
   (p: ∀(C:Addr) (s:aM) (H:Hp) (e:List Addr),N.Nodup->DG (j9 z X N L cl C s H e) tg t/\rm (j9 z X N L cl C s H e) ifs c/\DE (j9 z X N L cl C s H e) .s elt fe)
   (u: ∀x,oi iter X.env x=pure x:=by intro _;rfl):
   DE X .t (.ListComp elt [⟨tg,iter,ifs,0⟩] L pos) (qv im m js fi t c fe):=by
 with_unfolding_all exact (by
  rintro h s v H Q I ⟨G,H0,w,d,k,y,q⟩;rw [eval_ListComp]
  exact UJ none (EP X h v Q) im N m js S n o (λC s H e=>p C s H e S.nd) u I k y λa C s' l B r E i J O rep U=>⟨B,E,λY j=>⟨.ref a,l,i Y j,rfl,q _ l O rep U⟩⟩)
def uC (J:D->Slot) (i:Nat) (hW: ∀ {G:WZ} {O H y:Hp} {h:Sl} {l:L2.St} {v:V} {d:D},ay X.K G O h l H->aq H y->aL X.K (Sf G h l) y v d->bh H v->ay X.K G O (h.set i (J d)) (l.set i (some v)) y/\be h l H (h.set i (J d)) (l.set i (some v)) y) (hN:X.N.Nodup) (im:Bool) (N:List Str) (m:Nat) (js:List Nat) (S:et z X L cl N m js) (hc:X.bT=true) (hi:DI X tg iter fi)
   (Q: ∀(C:Addr) (s:aM) (H:Hp) (n:List Addr),N.Nodup->DG (j9 z X N L cl C s H n) tg t/\rm (j9 z X N L cl C s H n) ifs c/\DE (j9 z X N L cl C s H n) .s elt fe)
   (U:X.N[i]?=some x) (hx:Loc X.env.scope x) (hf:T9 X x)
   (Y:g8 (.ListComp elt [⟨tg,iter,ifs,0⟩] L pos) (some (.Name x p)) ps.line X.env=pure true) (hs: ∀x,oi iter X.env x=pure x):
   DS X (.Assign [.Name x p] (.ListComp elt [⟨tg,iter,ifs,0⟩] L pos) ps) (λh=>qv im m js fi t c fe h>>=λd=> .ok (.nx (h.set i (J d)))):=by
 with_unfolding_all exact (by
  rintro u s l H E I ⟨G,O,h,o,k,ef,q⟩;obtain ⟨d,e1,e2⟩:=jd ef;cases e2;rw [exec_Assign_Name_used _ _ _ _ Y];refine az (wpAny_standAt (az ?_));refine az (bc (UJ (some (iK (.Name x p) X.env)) (λ_ B=>SP X u E .next B) im N m js S hc hi (λC s H n=>Q C s H n S.nd) hs I k e1 λa C B H' mm r hn w Dy sm rep nt=>?_) λ_ B hq=>ba (ba hq));have I':=w B.heap ⟨rfl,λ_ _=>rfl⟩;obtain ⟨W1,W2⟩:=hW k sm rep nt;obtain ⟨f0,f1,f2,f3,f4,f5⟩:=Dy;refine wpAny_assign_Name (Vn I' hN U hx (show aK (.ref a) (.ref a) from rfl) (λs2 I2 j=>?_) hf);obtain ⟨b,j,sJ⟩:=j
  have PZ:C≠b:=by
   rcases sJ with z|z
   . rw [z];exact f1
   . exact λe=>f4 _ _ z e.symm
  refine ⟨mm,hn.sameBut j PZ,λh' wQ=>⟨_,H',?_,q _ _ W1 W2⟩⟩
  exact I2.turned (λb o Q e=>(wQ.2 b Q).trans e) f0 f1 f3 f4 f5)
def HH (i:Nat) {p h:Pos} (j:X.N.Nodup) (im:Bool) (N:List Str) (m:Nat) (js:List Nat) (S:et z X L cl N m js) (l:X.bT=true) (n:DI X tg iter fi)
  (o: ∀(C:Addr) (s:aM) (H:Hp) (a:List Addr),N.Nodup->DG (j9 z X N L cl C s H a) tg t/\rm (j9 z X N L cl C s H a) ifs c/\DE (j9 z X N L cl C s H a) .s elt fe)
  (d:X.N[i]?=some x:=by rfl) (q:Loc X.env.scope x:=by exact h8 rfl) (u:T9 X x:=by first|exact .inl rfl|exact .inr rfl|assumption)
  (e:g8 (.ListComp elt [⟨tg,iter,ifs,0⟩] L pos) (some (.Name x p)) h.line X.env=pure true:=by rfl) (v: ∀x,oi iter X.env x=pure x:=by intro _;rfl):
  DS X (.Assign [.Name x p] (.ListComp elt [⟨tg,iter,ifs,0⟩] L pos) h) (b8 i (qv im m js fi t c fe)):=
 uC Qs i (λk s r w=>k.ll s r w) j im N m js S l n o d q u e v
def uB (i:Nat) {p h:Pos} (j:X.N.Nodup) (im:Bool) (N:List Str) (m:Nat) (js:List Nat) (S:et z X L cl N m js) (l:X.bT=true) (n:DI X tg iter fi)
  (o: ∀(C:Addr) (s:aM) (H:Hp) (a:List Addr),N.Nodup->DG (j9 z X N L cl C s H a) tg t/\rm (j9 z X N L cl C s H a) ifs c/\DE (j9 z X N L cl C s H a) .s elt fe)
  (d:X.N[i]?=some x:=by rfl) (q:Loc X.env.scope x:=by exact h8 rfl) (u:T9 X x:=by first|exact .inl rfl|exact .inr rfl|assumption)
  (e:g8 (.ListComp elt [⟨tg,iter,ifs,0⟩] L pos) (some (.Name x p)) h.line X.env=pure true:=by rfl) (v: ∀x,oi iter X.env x=pure x:=by intro _;rfl):
  DS X (.Assign [.Name x p] (.ListComp elt [⟨tg,iter,ifs,0⟩] L pos) h) (jr i (qv im m js fi t c fe)):=
 uC .ah i (λk s r w=>⟨(k.am s).iN r,.set s λ_ _ z _=>by cases z⟩) j im N m js S l n o d q u e v
end
def j4 (n:Nat) (a:List D):Sl:=a.map .ah++eP (n-a.length) .un
def Zx {K:aC} (r:au K B H m c):ay K (λa=>H a=none\/B a) H (j4 N.length c) (start N m) H:=by
 have n:=r.length
 have l: ∀(i:Nat) (d:D),(j4 N.length c)[i]?≠some (.aw d):=λi d h=>by
   unfold j4 at h
   by_cases q:i<c.length
   . rw [g9 (by simpa using q),iE] at h
     cases e:c[i]? with
     |none=>rw [e] at h;cases h
     |some x=>rw [e] at h;cases h
   . rw [iL (by simpa using q),ox] at h
     split at h<;>cases h
 refine ⟨by simp [L2.start,j4,n],aq.refl H,λ_ z=> .inl z,λi d h=>?_,λi d h=>(l i d h).elim,λi j d e a h=>(l i d h).elim⟩;unfold j4 at h
 by_cases q:i<c.length
 . rw [g9 (by simpa using q),iE] at h
   cases e:c[i]? with
   |none=>rw [e] at h;cases h
   |some x=>
     rw [e] at h;cases h;obtain ⟨v,p,u⟩:=r.get e;refine ⟨v,?_,u.aH λa z=>⟨λo=>?_,.inr z⟩⟩
     . unfold L2.start;rw [g9 (by simp;omega),iE,p];rfl
     . obtain ⟨w,y,z,_⟩:=o;exact l w y z
 . rw [iL (by simpa using q),ox] at h
   split at h<;>cases h
section
variable {P:bH} {w:World} {K:aC} {mg:W0} {af:Heap}
def Meets (h:Bool) (n:Nat) (g:T2) (e:List D) (d:D):Prop:=(∃a,g (j4 n e)= .ok (.rt a d)/\(h=true->a=true))\/(d= .aU/\ ∃c,g (j4 n e)= .ok (.nx c))
def DK {st:Stmt} (y:hZ K x j st f I) (S:ar N m (jg st))
    (J: ∀(i:Value) (A:bQ) (c:List Env) (s:aM) (H:Hp) (E:XK),aE k (A.deeper (fF j (jg st) s.heap.objs.size f i))->gn (bA fQ P w K mg af N j (jg st) f i A c s H E).kf (jQ st) g)
    (L: ∀l d,l.length=m.length->F l= .ok d->Meets O N.length g l d):
    bR P w K mg af fQ (k+1) f I m (lj K O m.length F):=by
 with_unfolding_all exact (by
  refine y.ok S (λU H Q E ⟨B,l,d,n,_⟩=>n) (λi A c s H U Q E Y h=>?_);obtain ⟨B,l,d,n,r,e,q⟩:=h;refine ⟨_,J i A c s H E Y,?_⟩;have p:=Zx (N:=N) r;rcases L l d (by rw [<-r.length];exact n) e with ⟨DL,z,hf⟩| ⟨rfl,u,z⟩
  . exact ⟨_,H,_,_,p,z,λv o s r nt=>q v o s r λhh=>nt (hf hh)⟩
  . exact ⟨_,H,_,_,p,z,λfR o k' f'=>q .aU o k'.af .aU λ_ a e=>by cases e⟩)
end
open PySem.W in
theorem P0 {a:List Int} (h:WData.layableAll [WData.list (a.map WData.int)]=true): ∀n∈a,rE n<=2^20:=λn c=>by
 have d:=layableW_arg h _ iC;have e:=layableW_item d (.int n) (gO.mpr ⟨n,c,rfl⟩);have i:=(layableW_iff.mp e).2.2;simpa only [WData.weight,rE] using i
open PySem.W PySem.Calls Att in
theorem vi {l:vu}
  (hn:l.most=some n) (J:d.params.defaults=[])
  (call: ∀(w:World) (e c:aM) (E L:W0) (p:Addr) (o:Obj) (N H h:Value) (a:Addr) (m:List Value) (u:List Int),
   Ground q i [] XP w e E L c.heap->YP w c.heap->
   c.heap.get? p=some o->o.data= .func (docDef d.name d.params d.body d.scope N H h)->c.heap.CodeRec H d.name->E d.name=some (.ref p)->
   c.heap.get? a=some {cls:= .type "list",data:= .seq m.toArray}->IntsAre m u->u.length<=n->(∀n∈u,rE n<=2^20)->c.gens= #[]->
   om (model l.prog w) callerA (.call (.ref p) ⟨[.ref a],[]⟩) (λr I=>r= .ok (.ret (.bool true))/\OldK c.heap I.heap/\I.os=c.os/\nQ I.gens) c):
  WalkO q i XP YP l.row.toRowW d [] (λf m=>PySem.call f m):=by
 intro w e c E L G Y p o N H h dV kV ho hd O hD Q hg args vals as v y hrd U hlo;obtain rfl:dV= .none:=Dflts.none hD J;obtain rfl:kV= .none:=Dflts.noKw hD;obtain ⟨a,m,u,rfl,rfl,z,j,B⟩:=O5 hn v U;refine enter_call (o8 (call w e c E L p o N H h a m u G Y ho (fd_plain hd) O Q z j B (P0 y) hg) λr I hq=>?_);obtain ⟨rfl,h2,h3,h4⟩:=hq;exact ⟨.inl ⟨.bool true,.bool true,[],rfl,λ_=>rfl,.bool true,O6 l _,λ_=>⟨List.Pairwise.nil,λ_ hm=>(nomatch hm)⟩⟩,h2,h3,h4⟩
def P1 {K:aC} (c:q8 H) (h:da K H a d):m6 K H a d:=by
 rcases h with (h|h)|h
 . rcases c a with z| ⟨o,e,z⟩
   . rw [z] at h;cases h
   . rw [z] at h;cases h
 . exact .inl h
 . exact .inr h
theorem uf {K:aC}: ∀a:List Int,au K A H (a.map V.int) (a.map D.int)
 | []=> .nil
 |n::r=> .cons (.int n) (uf r)
def nn {l:vu} {K:Params->aC}
  (hn:l.most=some n) (I:n<=aS) (J:d.params.defaults=[]) (hr:aE k callerA)
  (hY: ∀(w:World) (h:Heap),YP w h->(K w.params).In h)
  (hF: ∀(w:World) (y:W0) (E:Addr) (h:Heap),(K w.params).In h->h.Ns bM y->y d.name=some (.ref E)->
   ∃L:lc,(∀(s:aM) (u:Value),BindsTo s L ⟨[u],[]⟩ [(x,u)])/\
    ∀c:Heap,(K w.params).In c->c.Ns bM y->bR l.prog w (K w.params) y c fQ k E L [x] (lj (K w.params) true 1 F))
  (ht: ∀z:List Int,z.length<=n->(∀i∈z,rE i<=2^20)->F [.ei (z.map D.int)]= .ok (.bl true)):
  PySem.W.WalkO q N XP YP l.row.toRowW d [] (λf U=>PySem.call f U):=by
 refine vi hn J λw c9 P2 y mb E o pm cd doc a U z G Y ho hd AU O B m j p hg=>?_
 have KX:=hY w _ Y;obtain ⟨L,hb,Q⟩:=hF w y E _ KX G.T.g O;refine O7 KX G.T.g G.T.b G.T.builtins G.T.nolimit hg B m (cY j I) hr Q hb (λH hO hS=>?_) λH e s' h=>h
 exact ⟨Any,_,_,rfl,.cons (.Di (P1 hO hS) (uf z)) .nil,ht z j p,λv H' _ r _=>r.re⟩
section
variable {X:Cx} {K:aC}
def eV (C:Int->Int->Prop) [∀i j,Decidable (C i j)] (g:Int->Int->D):D->D->ao D
 | .int i,.int j=>aV (C i j) (.ok (g i j))
 |_,_=> .aj
def HI {C:Int->Int->Prop} [∀i j,Decidable (C i j)] {g:Int->Int->D} {a b d:D} (h:eV C g a b= .ok d): ∃i j,a= .int i/\b= .int j/\C i j/\d=g i j:=by
 unfold eV at h
 split at h
 . obtain ⟨c,e⟩:=ju h;cases e;exact ⟨_,_,rfl,rfl,c,rfl⟩
 . cases h
def nq {C c:Int->Int->Prop} [∀i j,Decidable (C i j)] {h:Int->Int->V} {g:Int->Int->D} (w: ∀i j,C i j->c i j) (r: ∀i j,Sc K (h i j) (g i j)):ej K (rI c h) (eV C g):=by
 intro x y H a b d Q l m e q;obtain ⟨i,j,rfl,rfl,n,rfl⟩:=HI e;exact ⟨i,j,l.cM,m.cM,w i j n,q _ (r i j)⟩
abbrev WF:Int->Int->Prop:=λ_ _=>True
instance: ∀i j,Decidable (WF i j):=λ_ _=>inferInstanceAs (Decidable True)
def xc (r: ∀i j,Sc K (h i j) (g i j)):ej K (j1 h) (eV WF g):=by
 intro x y H a b d Q c l e q;obtain ⟨i,j,rfl,rfl,m,rfl⟩:=HI e;exact ⟨i,j,c.cM,l.cM,q _ (r i j)⟩
def DM (h:Sc K v d):bh H v:=λa e=>absurd e (h.2 a)
def aX:D->D->ao D
 | .int i,.int j=> .ok (.int (i+j))
 | .str i,.str j=>aV (i.length+j.length<=aS) (.ok (.str (i++j)))
 | .ai a,.ai b=>aV (a.length+b.length<=aS) (.ok (.ai (a++b)))
 | .ak a,.ak b=>aV (a.isEmpty=false/\a.length+b.length<=aS) (.ok (.ak (a++b)))
 |_,_=> .aj
def jX:cp X (gI .Add) (λx y H Q=>j1 (λi j=> .int (i+j)) x y H Q\/(∃i j,x= .str i/\y= .str j/\i.length+j.length<=aS/\Q (.str (i++j)) H)\/qL x y H Q\/C4 X.K x y H Q):=
 pV.or (kv.or (qP.or OD))
def au.len_app (r:au K A H c a) (s:au K A H d b) (h:a.length+b.length<=aS):c.length+d.length<=aS:=by rw [r.length,s.length];exact h
def sP {A:WZ} {H:Hp}: ∀c,A c->(H c=none\/A c):=λ_ z=> .inr z
def qj:A4 K (λx y H Q=>j1 (λi j=> .int (i+j)) x y H Q\/(∃i j,x= .str i/\y= .str j/\i.length+j.length<=aS/\Q (.str (i++j)) H)\/qL x y H Q\/C4 K x y H Q) aX:=by
 intro A x y H a b d Q B E e q;unfold aX at e
 split at e
 . cases e;exact .inl ⟨_,_,B.cM,E.cM,q _ H (aq.refl H) (.int _) (DM (j5 (K:=K) _))⟩
 . obtain ⟨I,h2⟩:=ju e;cases h2;have n: ∀i j:Str,i.length+j.length<=aS->(i++j).length<=aS:=λi j h=>by rw [strLen_append];exact h
   exact .inr (.inl ⟨_,_,B.fY.1,E.fY.1,I,q _ H (aq.refl H) (.str _ (n _ _ I)) (DM (A3 (K:=K) _ (n _ _ I)))⟩)
 . obtain ⟨J,L⟩:=ju e;cases L;obtain ⟨l,N,rfl,n,_,u⟩:=B.cC;obtain ⟨O,U,rfl,v,_,w⟩:=E.cC;refine .inr (.inr (.inl ⟨l,O,N,U,rfl,rfl,n,v,u.low.len_app w.low J,λp r=>q _ _ (aq.aR r) ?_ (qH (aq.refl H) r)⟩));exact .ai jD (.inl r) (((u.low.append w.low).laid r).aH λc z=>⟨.inr z.1,z.2⟩)
 . obtain ⟨⟨J,L⟩,h5⟩:=ju e;cases h5;obtain ⟨l,N,rfl,n,u⟩:=B.dR;obtain ⟨O,U,rfl,v,w⟩:=E.dR;refine .inr (.inr (.inr ⟨l,O,N,U,rfl,rfl,.of n,.of v,λz=>?_,u.len_app w L,λz=>?_,λz p r=>q _ _ (aq.aR r) ?_ (qH (aq.refl H) r)⟩))
   . subst z;cases u;cases J
   . subst z;cases w;rw [fN] at q;refine q _ H (aq.refl H) (.ak n (u.aH sP)) λa e o Y m=>?_
     cases e;rw [n] at Y;cases Y;exact m
   . exact .ak jD (((u.append w).aH sP).am (aq.aR r))
 . cases e
def VQ:ej K (j1 λi j=> .int (i-j)) (eV WF λi j=> .int (i-j)):=xc λi j=>j5 _
abbrev mo:Int->Int->Prop:=λi j=>rE i+rE j<=134217728
def Xm:cp X (gI .Mult) (rI mo λi j=> .int (i*j)):=tN λ_ _ _ _ _ _ _ a q=>mul_int q (IntMulOk.of_le (br _) (br _) a)
def VR:ej K (rI mo λi j=> .int (i*j)) (eV mo λi j=> .int (i*j)):=nq (λ_ _ h=>h) λi j=>j5 _
abbrev xf:Int->Int->Prop:=λ_ j=>0<j/\j<1073741824
def Xq:ej K (rI tQ λi j=> .int (i/j)) (eV xf λi j=> .int (i/j)):=nq (λ_ _ h=>h) λi j=>j5 _
abbrev xq:Int->Int->Prop:=λ_ j=>0<j
def Zj:ej K (rI (λ_ j=>0<j) λi j=> .int (i%j)) (eV xq λi j=> .int (i%j)):=nq (λ_ _ h=>h) λi j=>j5 _
abbrev rF:Int->Int->Prop:=λi j=>0<=j/\j<=1000000/\i.natAbs<2^64
def P4:ej K (rI tR λi j=> .int (i^j.toNat)) (eV rF λi j=> .int (i^j.toNat)):=nq (λ_ _ h=>h) λi j=>j5 _
def xr:ej K (j1 λi j=> .bl (decide (i<j))) (eV WF λi j=> .bl (decide (i<j))):=xc λi j=>iM _
def VS:ej K (j1 λi j=> .bl (decide (i<=j))) (eV WF λi j=> .bl (decide (i<=j))):=xc λi j=>iM _
def VT:ej K (j1 λi j=> .bl (decide (j<i))) (eV WF λi j=> .bl (decide (j<i))):=xc λi j=>iM _
def P5:ej K (j1 λi j=> .bl (decide (j<=i))) (eV WF λi j=> .bl (decide (j<=i))):=xc λi j=>iM _
def oF (i j:Str):Bool:=!(CK j i 0 j.length 1).isEmpty
def inD:D->D->ao D
 | .str i,.str j=> .ok (.bl (oF i j))
 |_,_=> .aj
def P6:ej K (λx y H Q=> ∃i j,x= .str i/\y= .str j/\Q (.bl (!(CK j i 0 j.length 1).isEmpty)) H) inD:=by
 intro x y H a b d Q c h e q;unfold inD at e
 split at e
 . cases e;exact ⟨_,_,c.fY.1,h.fY.1,q _ (iM _)⟩
 . cases e
def D.nu:D->Bool
 | .aU=>true
 |_=>false
def Bg:D->D->ao D
 |a,.aU=> .ok (.bl a.nu)
 |_,_=> .aj
def Vv (r:aL K A H x a):decide (x=V.aU)=a.nu:=by
 have r:=r.f
 cases a with
 |aU=>cases r;rfl
 |bl b=>cases r;rfl
 |int i=>cases r;rfl
 |str z=>cases r.1;rfl
 |mem B d=>obtain ⟨_,rfl,_⟩:=r;rfl
 |gm c=>obtain ⟨_,_,_,_,rfl,_⟩:=r;rfl
 |obj c e h=>obtain ⟨_,_,_,_,rfl,_⟩:=r;rfl
 |_=>obtain ⟨_,_,rfl,_⟩:=r;rfl
def P7:ej K (λx y H Q=>y= .aU/\Q (.bl (decide (x= .aU))) H) Bg:=by
 intro x y H a b d Q c h e q;unfold Bg at e
 split at e
 . cases e;refine ⟨h.rf,?_⟩;rw [Vv c];exact q _ (iM _)
 . cases e
def aT:List D->ao D
 | [.ai a]=> .ok (.int a.length)
 | [.ei a]=> .ok (.int a.length)
 | [.ak a]=> .ok (.int a.length)
 | [.str z]=> .ok (.int z.length)
 |_=> .aj
def jE:bK X (.builtin "len") (λc H Q=>(∃p a,c=[.ref p]/\(da X.K H p a\/ee X.K H p a)/\Q (.int a.length) H)\/(∃z,c=[.str z]/\z.length<=aS/\Q (.int z.length) H)):=hH.or UN
def qA:A5 K (λj H Q=>(∃p a,j=[.ref p]/\(da K H p a\/ee K H p a)/\Q (.int a.length) H)\/(∃z,j=[.str z]/\z.length<=aS/\Q (.int z.length) H)) aT:=by
 intro j H m d Q r e q;unfold aT at e
 split at e
 . cases e;obtain ⟨v,rfl,c⟩:=r.one;obtain ⟨p,a,rfl,h,_,i⟩:=c.cC;exact .inl ⟨p,a,rfl,.inl (.of h),by rw [i.length];exact q _ (j5 _)⟩
 . cases e;obtain ⟨v,rfl,c⟩:=r.one;obtain ⟨p,a,rfl,h,i⟩:=c.m7;exact .inl ⟨p,a,rfl,.inl h.nW,by rw [i.length];exact q _ (j5 _)⟩
 . cases e;obtain ⟨v,rfl,c⟩:=r.one;obtain ⟨p,a,rfl,h,i⟩:=c.dR;exact .inl ⟨p,a,rfl,.inr (.of h),by rw [i.length];exact q _ (j5 _)⟩
 . cases e;obtain ⟨v,rfl,c⟩:=r.one;obtain ⟨rfl,l⟩:=c.fY;exact .inr ⟨_,rfl,l,q _ (j5 _)⟩
 . cases e
def Yq:List D->ao D
 | [.ai a]=>(.ok (.ak a))
 | [.ak a]=>(.ok (.ak a))
 |_=> .aj
def HJ (h:H p=some (.ak c)):bh H (.ref p):=λa e o q m=>by
 cases e;rw [h] at q;cases q;exact m
def K1:Ve K (λm H Q=> ∃p a,m=[.ref p]/\((da K H p a/\ ∀l,H l=none->Q (.ref l) (aR H l (.ak a)))\/(ee K H p a/\Q (.ref p) H))) Yq:=by
 intro A m H n d Q r e q;unfold Yq at e
 split at e
 . cases e;obtain ⟨v,rfl,h⟩:=r.one;obtain ⟨p,a,rfl,c,_,i⟩:=h.cC;exact ⟨p,a,rfl,.inl ⟨.of c,λl j=>q _ _ (aq.aR j) (.ak jD ((i.low.aH sP).am (aq.aR j))) (qH (aq.refl H) j)⟩⟩
 . cases e;obtain ⟨v,rfl,h⟩:=r.one;obtain ⟨p,a,rfl,c,i⟩:=h.dR;exact ⟨p,a,rfl,.inr ⟨.of c,q _ H (aq.refl H) (.ak c (i.aH sP)) (HJ c)⟩⟩
 . cases e
def Yj:List D->ao D
 | [.ai a]=>(.ok (.ai a))
 | [.ak a]=>(.ok (.ai a))
 |_=> .aj
def X1:Ve K (λn H Q=> ∃p h,n=[.ref p]/\(da K H p h\/ee K H p h)/\ ∀l,H l=none->Q (.ref l) (aR H l (.ai h))) Yj:=by
 intro A n H o d Q r e q;unfold Yj at e
 split at e
 . cases e;obtain ⟨v,rfl,i⟩:=r.one;obtain ⟨p,h,rfl,j,_,m⟩:=i.cC;exact ⟨p,h,rfl,.inl (.of j),λl a=>q _ _ (aq.aR a) (.ai jD (.inl a) ((m.low.laid a).aH λc z=>⟨.inr z.1,z.2⟩)) (qH (aq.refl H) a)⟩
 . cases e;obtain ⟨v,rfl,i⟩:=r.one;obtain ⟨p,h,rfl,j,m⟩:=i.dR;exact ⟨p,h,rfl,.inr (.of j),λl a=>q _ _ (aq.aR a) (.ai jD (.inl a) ((m.laid a).aH λc z=>⟨.inr z.1,z.2⟩)) (qH (aq.refl H) a)⟩
 . cases e
def DN:D->Option String
 | .aU=>some "NoneType"
 | .bl _=>some "bool"
 | .int _=>some "int"
 | .str _=>some "str"
 | .ak _=>some "tuple"
 | .ai _=>some "list"
 | .ei _=>none
 | .aP _ _=>some "dict"
 | .bV _ _=>some "dict"
 | .gm _=>none
 | .gL _ _=>none
 | .gM _ _=>none
 | .obj _ _ _=>none
 | .mem _ _=>none
 | .cZ _=>none
def P8 (r:aL K A H v d) (h:DN d=some n):eS K H v (.type n):=by
 have r:=r.f;cases d<;>cases h
 . cases r;exact .aU
 . cases r;exact .bl _
 . cases r;exact .int _
 . cases r.1;exact .str _
 . obtain ⟨_,_,rfl,e,_⟩:=r;exact .ak e
 . obtain ⟨_,_,rfl,e,_⟩:=r;exact .ai e
 . obtain ⟨_,_,rfl,e,_⟩:=r;exact .dK e
 . obtain ⟨_,_,rfl,e,_⟩:=r;exact .dT e
def ie (T n:String):Bool:=n==T|| (T== "int" &&n== "bool")
def iQ (T:String):Prop:= ∀(K:aC) (n:String),n∈["NoneType", "bool", "int", "str", "tuple", "list", "dict"]->op K (.type n) (.type T)=some (ie T n)
def P9 (h:DN d=some n):n∈["NoneType", "bool", "int", "str", "tuple", "list", "dict"]:=by
 cases d<;>first| (cases h;done)| (cases h;decide)
def Xx (h: ∀(K:aC),op K (.type "NoneType") (.type T)=some (ie T "NoneType")/\op K (.type "bool") (.type T)=some (ie T "bool")/\op K (.type "int") (.type T)=some (ie T "int")/\
  op K (.type "str") (.type T)=some (ie T "str")/\op K (.type "tuple") (.type T)=some (ie T "tuple")/\op K (.type "list") (.type T)=some (ie T "list")/\op K (.type "dict") (.type T)=some (ie T "dict")):iQ T:=by
 intro K n a;obtain ⟨c,d,e,i,j,l,m⟩:=h K;simp at a;rcases a with rfl|rfl|rfl|rfl|rfl|rfl|rfl<;>assumption
def ue:iQ "int" :=Xx λK=>⟨rfl,rfl,rfl,rfl,rfl,rfl,rfl⟩
def Xy:iQ "bool" :=Xx λK=>⟨rfl,rfl,rfl,rfl,rfl,rfl,rfl⟩
def Qr:iQ "str" :=Xx λK=>⟨rfl,rfl,rfl,rfl,rfl,rfl,rfl⟩
def jP:iQ "tuple" :=Xx λK=>⟨rfl,rfl,rfl,rfl,rfl,rfl,rfl⟩
def Uh:iQ "list" :=Xx λK=>⟨rfl,rfl,rfl,rfl,rfl,rfl,rfl⟩
def fI (T:String) (d:D):ao D:=match DN d with
 |some n=> .ok (.bl (ie T n))
 |none=> .aj
def Qv (T:String) (h:iQ T):bK X (.builtin "isinstance") (λa H Q=> ∃x d,a=[x,.ty T]/\aL X.K Any H x d/\ ∃b,fI T d= .ok (.bl b)/\Q (.bl b) H):=by
 rintro c s p H a v Q I r ⟨x,d,j,l,b,e,q⟩;subst j;obtain ⟨u,m,rfl,o,r2⟩:=CO r;cases (show m=n8 T from r2);unfold fI at e
 split at e
 . rename_i n i;cases e;refine Oh I o (P8 l i) (h X.K n (P9 i)) λtk=>⟨.bl _,H,I.tok tk,rfl,q⟩
 . cases e
def a7 (T:String) (f:T4):Sl->ao D:=λa=>f a>>=fI T
def qz (T:String) (Ty:Str) {l':Lv} {p c h:Pos} (w:iQ T) (y:DE X l e f) (z:Gl X "isinstance") (B:X.mg "isinstance" =none) (i:Gl X Ty) (j:X.mg Ty=none) (E:jW Ty=some (.type T))
   (I:Ty≠ "__name__" :=by decide) (J:Y6 Ty:=by decide) (u:bg [e,.Name Ty c] X.env=(false,eval e X.env)::bg [.Name Ty c] X.env:=by exact jm rfl)
   (m:bg [.Name Ty c] X.env=(false,eval (.Name Ty c) X.env)::bg [] X.env:=by exact jm rfl) (n:(dA h (bg [.Name Ty c] X.env)).any (·.1)=false:=by exact jF rfl):
   DE X l' (.Call (.Name "isinstance" p) [e,.Name Ty c] [] h) (a7 T f):=by
 with_unfolding_all exact (
  PE.imp (WJ (Qv T w) z B boot_isinstance (j8 y (j8 (Np (v:= .ty T) i j E rfl I J) wF m) u) (by decide) (by decide) u n) λY H Q=>by
   rintro ⟨G,L,o,d,k,N,q⟩;obtain ⟨a,e1,e2⟩:=jd N;refine ⟨G,L,o,a,k,e1,λv O s r _=>?_⟩
   have U: ∃b,d= .bl b:=by
    unfold fI at e2
    split at e2
    . cases e2;exact ⟨_,rfl⟩
    . cases e2
   obtain ⟨b,rfl⟩:=U
   exact ⟨v,a,rfl,r.aH Lv.aZ,b,e2,q _ O s (.bl b) (iM (K:=X.K) b).T⟩)
def Yk:List D->Option (List Bool)
 | []=>some []
 | .bl b::r=>(Yk r).map (b:: ·)
 |_=>none
theorem UQ: ∀ {a:List D} {bs:List Bool},Yk a=some bs->a=bs.map D.bl
 | [],bs,h=>by cases h;rfl
 |d::r,bs,h=>by
  cases d with
  |bl b=>
   simp only [Yk,Db] at h;obtain ⟨c,e,rfl⟩:=h;rw [UQ e];rfl
  |_=>cases h
def QN (bs:List Bool):Yk (bs.map D.bl)=some bs:=by
 induction bs with
 |nil=>rfl
 |cons b r a=>simp [Yk,a]
def iS:List D->ao D
 | [.ai a]=>match Yk a with
  |some bs=> .ok (.bl (bs.all id))
  |none=> .aj
 |_=> .aj
theorem Yu: ∀ {bs:List Bool} {a:List V},au K A H a (bs.map D.bl)->a=bs.map V.bl
 | [],_,.nil=>rfl
 |b::bs,_,.cons h t=>by rw [h.re,Yu t];rfl
theorem Yo: ∀ {bs:List Bool} {a:List Value},aI (bs.map V.bl) a->a=bs.map oW
 | [],_,.nil=>rfl
 |b::bs,_,.cons h t=>by
  rw [Yo t];have:_=oW b:=h;rw [this];rfl
def X2 (J:X.bT=true):bK X (.builtin "all") (λB H Q=> ∃(p:Addr) (bs:List Bool),B=[.ref p]/\da X.K H p (bs.map V.bl)/\Q (.bl (bs.all id)) H):=by
 rintro E s σ H B us Q I r ⟨p,bs,L,N,q⟩;subst L;obtain ⟨u,rfl,O⟩:=ZK r;cases O;obtain ⟨U,Y,j,hz⟩:=I.list N;have c:=Yo Y;subst c;refine call_all_walk (wpAny_pyIter_list j.isList ?_)
 have l:p≠s.heap.objs.size:=by
   obtain ⟨o,n,e,_⟩:=j;exact eB (b6 e)
 refine ⟨s.heap.objs.size,_,_,_,_,_,λi=>(bs[i]?).getD true,rfl,Walks.list (show X.A.in1.handled=none from I.ok.hd J) s.heap.objs.size p l (bs.map oW).toArray,⟨⟨_,dn _ rfl,rfl,rfl⟩,j.isList.at λo e=>bW _ e⟩,?_,λh' tk kk=>?_⟩
 . intro i v s' Q' E' hP m;have a:(bs.map oW)[i]?=some v:=by simpa using hP
   rw [iE] at a
   cases e:bs[i]? with
   |none=>rw [e] at a;cases a
   |some b=>
    rw [e] at a;cases a;dsimp only at m;rw [e] at m;exact og m
 . have hn:(bs.map oW).toArray.size=bs.length:=by simp
   have e:((ke (bs.map oW).toArray.size).all λi=>(bs[i]?).getD true)=bs.all id:=by
    rw [hn,Bool.eq_iff_iff,m9,m9]
    constructor
    . intro w b y;obtain ⟨i,h,rfl⟩:=List.mem_iff_getElem.mp y;have:=w i (n9.mpr h);rw [cU h] at this;exact this
    . intro w i h;have d:=n9.mp h;rw [cU d];exact w _ (nY d)
   rw [e];refine ⟨.bl _,H,?_,rfl,q⟩
   exact I.kept λb o e=>kk b o (by
    intro z;have y:b=s.heap.objs.size:=by simpa using z
    exact absurd (b6 e) (by rw [y];exact lZ _)) (bW _ e)
def DP:A5 K (λc H Q=> ∃(p:Addr) (bs:List Bool),c=[.ref p]/\da K H p (bs.map V.bl)/\Q (.bl (bs.all id)) H) iS:=by
 intro c H l d Q r e q;unfold iS at e
 split at e
 . split at e
   . rename_i bs a;cases e;obtain ⟨v,rfl,i⟩:=r.one;obtain ⟨p,m,rfl,j,_,h⟩:=i.cC;rw [UQ a] at h;have:=Yu h;subst this;exact ⟨p,bs,rfl,.of j,q _ (iM _)⟩
   . cases e
 . cases e
end
end M
namespace M
open PySem PySem.Spec L2
open PyProof.Rows hiding St
open PySem.SeqAt (EqAt RcAt RcNeAt)
mutual
theorem D.ind {P:D->Prop} (j:P .aU) (h1: ∀b,P (.bl b)) (h2: ∀i,P (.int i)) (l: ∀x,P (.str x)) (m: ∀a,(∀d∈a,P d)->P (.ak a)) (n: ∀a,(∀d∈a,P d)->P (.ai a))
  (o: ∀a,(∀d∈a,P d)->P (.ei a)) (e:(∀h a,(∀d∈a,P d)->P (.aP h a))/\(∀h a,(∀d∈a,P d)->P (.bV h a))/\(∀c,P (.gm c))/\(∀h a,(∀d∈a,P d)->P (.gL h a))/\(∀h a,(∀d∈a,P d)->P (.gM h a))/\(∀c ns a,(∀d∈a,P d)->P (.obj c ns a))/\(∀B p,P (.mem B p))/\ ∀a,P (.cZ a)): ∀d,P d
 | .aU=>j
 | .bl b=>h1 b
 | .int i=>h2 i
 | .str x=>l x
 | .ak a=>m a (D.ig j h1 h2 l m n o e a)
 | .ai a=>n a (D.ig j h1 h2 l m n o e a)
 | .ei a=>o a (D.ig j h1 h2 l m n o e a)
 | .aP h a=>e.1 h a (D.ig j h1 h2 l m n o e a)
 | .bV h a=>e.2.1 h a (D.ig j h1 h2 l m n o e a)
 | .gm c=>e.2.2.1 c
 | .gL h a=>e.2.2.2.1 h a (D.ig j h1 h2 l m n o e a)
 | .gM h a=>e.2.2.2.2.1 h a (D.ig j h1 h2 l m n o e a)
 | .obj c ns a=>e.2.2.2.2.2.1 c ns a (D.ig j h1 h2 l m n o e a)
 | .mem B p=>e.2.2.2.2.2.2.1 B p
 | .cZ a=>e.2.2.2.2.2.2.2 a
theorem D.ig {P:D->Prop} (j:P .aU) (h1: ∀b,P (.bl b)) (h2: ∀i,P (.int i)) (l: ∀x,P (.str x)) (m: ∀a,(∀d∈a,P d)->P (.ak a)) (n: ∀a,(∀d∈a,P d)->P (.ai a))
  (o: ∀a,(∀d∈a,P d)->P (.ei a)) (u:(∀e a,(∀d∈a,P d)->P (.aP e a))/\(∀e a,(∀d∈a,P d)->P (.bV e a))/\(∀c,P (.gm c))/\(∀e a,(∀d∈a,P d)->P (.gL e a))/\(∀e a,(∀d∈a,P d)->P (.gM e a))/\(∀c ns a,(∀d∈a,P d)->P (.obj c ns a))/\(∀B v,P (.mem B v))/\ ∀a,P (.cZ a)): ∀a:List D,∀d∈a,P d
 | [],_,h=>by cases h
 |x::r,d,h=>by
  have p:=D.ind j h1 h2 l m n o u x;have q:=D.ig j h1 h2 l m n o u r;rcases bJ.mp h with z|z
  . rw [z];exact p
  . exact q d z
end
mutual
def D.dE:D->Nat
 | .ak a=>D.cE a+1
 | .ai a=>D.cE a+1
 |_=>0
def D.cE:List D->Nat
 | []=>0
 |d::a=>max (D.dE d) (D.cE a)
end
mutual
def D.cm:D->Bool
 | .ei _=>false
 | .aP _ _=>false
 | .bV _ _=>false
 | .gm _=>false
 | .gL _ _=>false
 | .gM _ _=>false
 | .obj _ _ _=>false
 | .mem _ _=>false
 | .cZ _=>false
 | .ak a=>D.bS a
 | .ai a=>D.bS a
 |_=>true
def D.bS:List D->Bool
 | []=>true
 |d::a=>D.cm d&&D.bS a
end
mutual
def bG:D->D->Bool
 | .aU,.aU=>true
 | .bl a,.bl b=>a==b
 | .bl a,.int j=>(if a then 1 else 0)==j
 | .int i,.bl b=>i==(if b then 1 else 0)
 | .int i,.int j=>i==j
 | .str x,.str y=>x==y
 | .ak a,.ak b=>bY a b
 | .ai a,.ai b=>bY a b
 |_,_=>false
def bY:List D->List D->Bool
 | [],[]=>true
 |a::c,b::bs=>bG a b&&bY c bs
 |_,_=>false
end
def QO:(∀i,D.cm (.int i)=true)/\(∀x,D.cm (.str x)=true)/\(∀a,D.cm (.ak a)=D.bS a)/\(∀a,D.cm (.ai a)=D.bS a):=by and_intros<;>intros<;>rfl
def kZ:(∀i d,bG (.int i) (.int d)=(i==d))/\(∀i e,bG (.int i) (.str e)=false)/\(∀i a,bG (.int i) (.ak a)=false)/\(∀x d,bG (.str x) (.int d)=false)/\(∀x e,bG (.str x) (.str e)=(x==e))/\(∀x a,bG (.str x) (.ak a)=false)/\(∀c d,bG (.ak c) (.int d)=false)/\(∀c e,bG (.ak c) (.str e)=false)/\(∀c a,bG (.ak c) (.ak a)=bY c a)/\(∀c a,bG (.ai c) (.ai a)=bY c a):=by and_intros<;>intros<;>rfl
theorem yP: ∀ {a:List D} {d:D},d∈a->D.dE d<=D.cE a
 |x::r,d,h=>by
  simp only [D.cE];rcases bJ.mp h with rfl|h
  . omega
  . have:=yP h;omega
theorem yM: ∀ {c:List D} {d:D},D.bS c=true->d∈c->D.cm d=true
 |x::r,d,a,h=>by
  simp only [D.bS,dD] at a;rcases bJ.mp h with rfl|h
  . exact a.1
  . exact yM a.2 h
theorem JL: ∀ {a:List D},(∀d∈a,D.cm d=true->bG d d=true)->D.bS a=true->bY a a=true
 | [],_,_=>by simp [bY]
 |d::a,h,c=>by
  simp only [D.bS,dD] at c;simp only [bY,dD];exact ⟨h d iC c.1,JL (λx e=>h x (fM _ e)) c.2⟩
def dF (d:D):D.cm d=true->bG d d=true:=by
 refine D.ind (P:=λd=>D.cm d=true->bG d d=true) ?_ ?_ ?_ ?_ ?_ ?_ ?_ ?_ d
 . intro _;rfl
 . intro b _;exact beq_self_eq_true b
 . intro i _;exact beq_self_eq_true i
 . intro x _;exact beq_self_eq_true x
 . intro h e a;exact JL e a
 . intro h e a;exact JL e a
 . intro h e a;cases a
 . exact ⟨(by intro j h e a;cases a),(by intro j h e a;cases a),(by intro c a;cases a),(by intro j h e a;cases a),(by intro j h e a;cases a),(by intro c l h e a;cases a),(by intro B m a;cases a),(by intro h a;cases a)⟩
section
variable {K:aC} {H:Hp}
def au.lp (h: ∀d∈e,∀(A n:WZ) v j,D.cm d=true->D.cm j=true->aL K A H v d->aL K n H v j->d=j) (l:D.bS e=true) (a:D.bS c=true) (r:au K A H m e) (i:au K n H m c):e=c:=by
 induction m generalizing e c with
 |nil=>cases r.eU;cases i.eU;rfl
 |cons v m o=>
  obtain ⟨_,_,rfl,r,t⟩:=r.cH;obtain ⟨_,_,rfl,i,p⟩:=i.cH;simp only [D.bS,dD] at l a;rw [h _ iC _ _ _ _ l.1 a.1 r i,o (λd hd=>h d (fM _ hd)) l.2 a.2 t p]
def YM (h:gv K A H v d/\D.cm d=true):(v= .aU/\d= .aU)\/(∃b,v= .bl b/\d= .bl b)\/(∃b,v= .int b/\d= .int b)\/(∃b,v= .str b/\d= .str b)\/(∃a i j,v= .ref a/\d= .ak j/\H a=some (.ak i)/\au K A H i j)\/(∃a i j,v= .ref a/\d= .ai j/\H a=some (.ai i)/\au K (λc=>A c/\c≠a) H i j):=by
 obtain ⟨r,h⟩:=h
 cases d with
 |aU=>exact .inl ⟨r,rfl⟩
 |bl b=>exact .inr (.inl ⟨_,r,rfl⟩)
 |int b=>exact .inr (.inr (.inl ⟨_,r,rfl⟩))
 |str b=>exact .inr (.inr (.inr (.inl ⟨_,r.1,rfl⟩)))
 |ak j=>
  obtain ⟨a,i,r,e,l⟩:=r;exact .inr (.inr (.inr (.inr (.inl ⟨_,_,_,r,rfl,e,l⟩))))
 |ai j=>
  obtain ⟨a,i,r,e,_,l⟩:=r;exact .inr (.inr (.inr (.inr (.inr ⟨_,_,_,r,rfl,e,l⟩))))
 |_=>cases h
def QP (h:gv K A H .aU d/\D.cm d=true): .aU=d:=by
 rcases YM h with ⟨_,e⟩| ⟨_,z,_⟩| ⟨_,z,_⟩| ⟨_,z,_⟩| ⟨_,_,_,z,_⟩| ⟨_,_,_,z,_⟩
 . exact e.symm
 all_goals cases z
def QQ (h:gv K A H (.bl b) d/\D.cm d=true): .bl b=d:=by
 rcases YM h with ⟨z,_⟩| ⟨_,z,e⟩| ⟨_,z,_⟩| ⟨_,z,_⟩| ⟨_,_,_,z,_⟩| ⟨_,_,_,z,_⟩<;>cases z;exact e.symm
def Q0 (h:gv K A H (.int b) d/\D.cm d=true): .int b=d:=by
 rcases YM h with ⟨z,_⟩| ⟨_,z,_⟩| ⟨_,z,e⟩| ⟨_,z,_⟩| ⟨_,_,_,z,_⟩| ⟨_,_,_,z,_⟩<;>cases z;exact e.symm
def Q1 (h:gv K A H (.str b) d/\D.cm d=true): .str b=d:=by
 rcases YM h with ⟨z,_⟩| ⟨_,z,_⟩| ⟨_,z,_⟩| ⟨_,z,e⟩| ⟨_,_,_,z,_⟩| ⟨_,_,_,z,_⟩<;>cases z;exact e.symm
def Q2 (h:gv K A H (.ref a) d/\D.cm d=true) (i:H a=some (.ak j)): ∃c,d= .ak c/\au K A H j c:=by
 rcases YM h with ⟨z,_⟩| ⟨_,z,_⟩| ⟨_,z,_⟩| ⟨_,z,_⟩| ⟨_,_,_,z,e,q,r⟩| ⟨_,_,_,z,e,q,r⟩<;>cases z<;>rw [i] at q<;>cases q;exact ⟨_,e,r⟩
def Q5 (h:gv K A H (.ref a) d/\D.cm d=true) (j:H a=some (.ai l)): ∃i,d= .ai i/\au K (λc=>A c/\c≠a) H l i:=by
 rcases YM h with ⟨z,_⟩| ⟨_,z,_⟩| ⟨_,z,_⟩| ⟨_,z,_⟩| ⟨_,_,_,z,e,q,r⟩| ⟨_,_,_,z,e,q,r⟩<;>cases z<;>rw [j] at q<;>cases q;exact ⟨_,e,r⟩
def aL.inj (d:D): ∀(A l:WZ) v i,D.cm d=true->D.cm i=true->aL K A H v d->aL K l H v i->d=i:=by
 have w: ∀ {v A i I},aL K A H v i->D.cm i=true->v=I->gv K A H I i/\D.cm i=true:=λr h e=>⟨e▸r.f,h⟩
 refine D.ind (P:=λd=> ∀(A l:WZ) v i,D.cm d=true->D.cm i=true->aL K A H v d->aL K l H v i->d=i) ?_ ?_ ?_ ?_ ?_ ?_ ?_ ?_ d
 . intro A l v i _ h r m;exact QP (w m h r.f)
 . intro b A l v i _ h r m;exact QQ (w m h r.f)
 . intro b A l v i _ h r m;exact Q0 (w m h r.f)
 . intro b A l v i _ h r m;exact Q1 (w m h r.f.1)
 . intro o p A l v i j n r m;obtain ⟨a,J,rfl,y,z⟩:=r.dR;have q:D.bS o=true:=j;obtain ⟨L,rfl,u⟩:=Q2 (w m n rfl) y;rw [au.lp p q n z u]
 . intro o p A l v i j n r m;obtain ⟨a,J,rfl,y,_,z⟩:=r.cC;have q:D.bS o=true:=j;obtain ⟨L,rfl,u⟩:=Q5 (w m n rfl) y;rw [au.lp p q n z u]
 . intro o p A l v i j;cases j
 . exact ⟨(by intro E o p A l v i j;cases j),(by intro E o p A l v i j;cases j),(by intro c A l v i j;cases j),(by intro E o p A l v i j;cases j),(by intro E o p A l v i j;cases j),(by intro c ns o p A l v i j;cases j),(by intro B N A l v i j;cases j),(by intro o A l v i j;cases j)⟩
end
def xu (a b:List D) (j:Nat):Bool:=match a[j]?,b[j]? with
 |some x,some y=>bG x y
 |_,_=>true
theorem Qg: ∀(a b:List D),a.length=b.length->bY a b=(ke a.length).all (xu a b)
 | [],[],_=>by simp [bY]
 |x::a,y::b,h=>by
  have c:a.length=b.length:=by simpa using h
  rw [bO,List.range_succ_eq_map,v4,List.all_map];simp only [bY];rw [Qg a b c];congr 1
theorem Zw: ∀(a b:List D),a.length≠b.length->bY a b=false
 | [],[],h=>absurd rfl h
 | [],y::b,_=>by simp [bY]
 |x::a,[],_=>by simp [bY]
 |x::a,y::b,h=>by
  simp only [bY];rw [Zw a b (by simpa using h),vm]
def uw (a b:List D):bY a b=((ke (min a.length b.length)).all (xu a b)&&a.length==b.length):=by
 by_cases h:a.length=b.length
 . rw [Qg a b h,h];simp
 . rw [Zw a b h];simp [h]
section
variable {X:Cx} {Y:List (Addr×Obj)} {U:L2.St} {H:Hp} {s:aM}
inductive Cm (X:Cx) (H:Hp) (s:aM):Value->D->Prop where
 |aU:Cm X H s .none .aU
 |bl (b:Bool):Cm X H s (.bool b) (.bl b)
 |int (i:Int) (t:Tok):Cm X H s (.int i t) (.int i)
 |str (x:Str) (t:Tok):Cm X H s (.str x t) (.str x)
 |ak {a:Addr} {xs:List V} {mL:List Value} {ds:List D}:H a=some (.ak xs)->s.heap.IsTuple a mL.toArray->aI xs mL->au X.K Any H xs ds->Cm X H s (.ref a) (.ak ds)
 |ai {a:Addr} {xs:List V} {mL:List Value} {ds:List D}:H a=some (.ai xs)->s.heap.IsList a mL.toArray->aI xs mL->au X.K Any H xs ds->Cm X H s (.ref a) (.ai ds)
def ZD (I:aA X Y U H s) (r:aL X.K Any H v d) (a:aK v u) (l:D.cm d=true):Cm X H s u d:=by
 have r:=r.f
 cases d with
 |aU=>cases r;cases a;exact .aU
 |bl b=>cases r;cases a;exact .bl b
 |int i=>cases r;obtain ⟨t,rfl⟩:=a;exact .int i t
 |str x=>cases r.1;obtain ⟨t,rfl⟩:=a;exact .str x t
 |ak m=>
  obtain ⟨_,_,rfl,e,c⟩:=r;cases a;obtain ⟨h,j,p,n⟩:=I.tuple (.of e);exact .ak e p j c
 |ai m=>
  obtain ⟨_,_,rfl,e,_,c⟩:=r;cases a;obtain ⟨h,j,p,n⟩:=I.list (.of e);exact .ai e p.isList j c.low
 |_=>cases l
def Bh {A:bQ} (p:au X.K Any H B a) (r:au X.K Any H E b) (w:aI B h) (vb:aI E c)
  (I: ∀d∈a,∀(v l:V) (u i:Value) (n:D),aL X.K Any H v d->aK v u->aL X.K Any H l n->aK l i->D.cm d=true->D.cm n=true->EqAt A.in1 s u i (bG d n)) (J:D.bS a=true) (L:D.bS b=true):
  ∀j (y:j<h.toArray.size) (z:j<c.toArray.size),EqAt A.in1 s h.toArray[j] c.toArray[j] (xu a b j):=by
 intro j y z;have l1:=w.length;have l2:=vb.length;have l3:=p.length;have l4:=r.length;have m:j<a.length:=by simp at y;omega
 have o:j<b.length:=by simp at z;omega
 obtain ⟨v,e1,N⟩:=p.get (cU m);obtain ⟨l,e2,r2⟩:=r.get (cU o);obtain ⟨u,O,r3⟩:=w.get e1;obtain ⟨i,Q,r4⟩:=vb.get e2
 have g1:h.toArray[j]=u:=by
  have:=iD.mp O;obtain ⟨_,q⟩:=this;simpa using q
 have g2:c.toArray[j]=i:=by
  have:=iD.mp Q;obtain ⟨_,q⟩:=this;simpa using q
 rw [g1,g2];have e:xu a b j=bG a[j] b[j]:=by unfold xu;rw [cU m,cU o]
 rw [e];exact I _ (nY m) v l u i _ N r3 r2 r4 (yM J (nY m)) (yM L (nY o))
def WT (I:aA X Y U H s) (d:D): ∀(A:bQ) (v n:V) (u o:Value) (m:D),A.units+d.dE<cLine->aL X.K Any H v d->aK v u->aL X.K Any H n m->aK n o->D.cm d=true->D.cm m=true->EqAt A s u o (bG d m):=by
 refine D.ind (P:=λd=> ∀(A:bQ) (v n:V) (u o:Value) (m:D),A.units+d.dE<cLine->aL X.K Any H v d->aK v u->aL X.K Any H n m->aK n o->D.cm d=true->D.cm m=true->EqAt A s u o (bG d m)) ?_ ?_ ?_ ?_ ?_ ?_ ?_ ?_ d
 . intro A v n u o m w r y E h j l;cases ZD I r y j;have a:A.units<cLine:=by simp only [D.dE] at w;omega
   cases ZD I E h l
   . exact EqAt.same _
   . exact EqAt.none_bool _
   . exact EqAt.none_int _ _
   . exact EqAt.none_str _ _
   . exact EqAt.none_tuple (by assumption) a
   . exact EqAt.none_list (by assumption) a
 . intro b A v n u o m w r y E h j l;cases ZD I r y j;have a:A.units<cLine:=by simp only [D.dE] at w;omega
   cases ZD I E h l
   . exact EqAt.bool_none _
   . exact EqAt.bool_bool _ _
   . exact EqAt.bool_int _ _ _
   . exact EqAt.bool_str _ _ _
   . exact EqAt.bool_tuple _ (by assumption) a
   . exact EqAt.bool_list _ (by assumption) a
 . intro i A v n u o m w r y E h j l;cases ZD I r y j;have a:A.units<cLine:=by simp only [D.dE] at w;omega
   cases ZD I E h l
   . exact EqAt.int_none _ _
   . exact EqAt.int_bool _ _ _
   . exact EqAt.int_int _ _ _ _
   . exact EqAt.int_str _ _ _ _
   . exact EqAt.int_tuple _ _ (by assumption) a
   . exact EqAt.int_list _ _ (by assumption) a
 . intro x A v n u o m w r y E h j l;cases ZD I r y j;have a:A.units<cLine:=by simp only [D.dE] at w;omega
   cases ZD I E h l
   . exact EqAt.str_none _ _
   . exact EqAt.str_bool _ _ _
   . exact EqAt.str_int _ _ _ _
   . exact EqAt.str_str _ _ _ _
   . exact EqAt.str_tuple _ _ (by assumption) a
   . exact EqAt.str_list _ _ (by assumption) a
 . intro O ih A v n u o m w r y E h j l;have a:A.units<cLine:=by simp only [D.dE] at w;omega
   have c1:=ZD I r y j;have c2:=ZD I E h l
   cases c1 with
   |ak e p rv rs=>
     cases c2 with
     |aU=>exact EqAt.tuple_none p a
     |bl b=>exact EqAt.tuple_bool _ p a
     |int i t=>exact EqAt.tuple_int _ _ p a
     |str x t=>exact EqAt.tuple_str _ _ p a
     |ai e2 p2 L J=>exact EqAt.tuple_list p p2 a
     | @ak a2 DQ Q N e2 p2 L J=>
      rename_i a1 DR mq
      by_cases z:a1=a2
      . subst z;have ed:=aL.inj _ Any Any _ _ j l (aL.ak e rs) (aL.ak e2 J);rw [<-ed,dF _ j];exact EqAt.same _
      . have q:=RcAt.tuples p p2 a (Bh rs J rv L (λd hd v n u o m g1 g2 g3 g4 g5 g6=>ih d hd A.in1 v n u o m (by
          have:=yP hd;simp only [D.dE] at w;show A.units+1+d.dE<cLine
          omega) g1 g2 g3 g4 g5 g6) j l)
        have n1:mq.toArray.size=O.length:=by rw [b7,<-rv.length,rs.length]
        have n2:Q.toArray.size=N.length:=by rw [b7,<-L.length,J.length]
        rw [n1,n2,<-uw] at q;exact EqAt.of_refs z q
 . intro O ih A v n u o m w r y E h j l;have a:A.units<cLine:=by simp only [D.dE] at w;omega
   have c1:=ZD I r y j;have c2:=ZD I E h l
   cases c1 with
   |ai e p rv rs=>
     cases c2 with
     |aU=>exact EqAt.list_none p a
     |bl b=>exact EqAt.list_bool _ p a
     |int i t=>exact EqAt.list_int _ _ p a
     |str x t=>exact EqAt.list_str _ _ p a
     |ak e2 p2 L J=>exact EqAt.list_tuple p p2 a
     | @ai a2 DQ Q N e2 p2 L J=>
      rename_i a1 DR mq;have n1:mq.toArray.size=O.length:=by rw [b7,<-rv.length,rs.length]
      have n2:Q.toArray.size=N.length:=by rw [b7,<-L.length,J.length]
      by_cases z:a1=a2
      . subst z
        have ed:D.ai O=D.ai N:=by
          rw [e] at e2;cases e2;rw [au.lp (λd _ A A' v m=>aL.inj d A A' v m) j l rs J]
        rw [<-ed,dF _ j];exact EqAt.same _
      . simp only [kZ]
        by_cases hl:O.length=N.length
        . have q:=RcAt.lists p p2 (by rw [n1,n2];exact hl) a (Bh rs J rv L (λd hd v n u o m g1 g2 g3 g4 g5 g6=>ih d hd A.in1 v n u o m (by
           have:=yP hd;simp only [D.dE] at w;show A.units+1+d.dE<cLine
           omega) g1 g2 g3 g4 g5 g6) j l)
          rw [n1,<-Qg O N hl] at q;exact EqAt.of_refs z q
        . rw [Zw O N hl];exact EqAt.of_refs z (DU p p2 (by rw [n1,n2];simp [hl]) a)
 . intro O ih A v n u o m w r y E h j;cases j
 . exact ⟨(by intro ks O ih A v n u o m w r y E h j;cases j),(by intro ks O ih A v n u o m w r y E h j;cases j),(by intro c A v n u o m w r y E h j;cases j),(by intro ks O ih A v n u o m w r y E h j;cases j),(by intro ks O ih A v n u o m w r y E h j;cases j),(by intro c ns O ih A v n u o m w r y E h j;cases j),(by intro B Φ A v n u o m w r y E h j;cases j),(by intro O A v n u o m w r y E h j;cases j)⟩
def vG (I:aA X Y U H s) {A:bQ} (hu:A.units+d.dE<cLine) (r:aL X.K Any H v d) (ru:aK v u) (r':aL X.K Any H N o) (Q6:aK N z) (hb:D.cm d=true) (w:D.cm o=true):
  RcAt A s u z (bG d o)/\RcNeAt A s u z (!bG d o):=by
 have a:A.units<cLine:=by omega
 have c1:=ZD I r ru hb;have B:=ZD I r' Q6 w
 cases c1 with
 |aU=>
  cases B
  . exact ⟨RcAt.none_none,RcNeAt.none_none⟩
  . exact ⟨RcAt.none_bool _,RcNeAt.none_bool _⟩
  . exact ⟨RcAt.none_int _ _,RcNeAt.none_int _ _⟩
  . exact ⟨RcAt.none_str _ _,RcNeAt.none_str _ _⟩
  . exact ⟨RcAt.none_tuple (by assumption) a,RcNeAt.none_tuple (by assumption) a⟩
  . exact ⟨RcAt.none_list (by assumption) a,RcNeAt.none_list (by assumption) a⟩
 |bl b=>
  cases B
  . exact ⟨RcAt.bool_none _,RcNeAt.bool_none _⟩
  . exact ⟨RcAt.bool_bool _ _,RcNeAt.bool_bool _ _⟩
  . exact ⟨RcAt.bool_int _ _ _,RcNeAt.bool_int _ _ _⟩
  . exact ⟨RcAt.bool_str _ _ _,RcNeAt.bool_str _ _ _⟩
  . exact ⟨RcAt.bool_tuple _ (by assumption) a,RcNeAt.bool_tuple _ (by assumption) a⟩
  . exact ⟨RcAt.bool_list _ (by assumption) a,RcNeAt.bool_list _ (by assumption) a⟩
 |int i t=>
  cases B
  . exact ⟨RcAt.int_none _ _,RcNeAt.int_none _ _⟩
  . exact ⟨RcAt.int_bool _ _ _,RcNeAt.int_bool _ _ _⟩
  . exact ⟨RcAt.int_int _ _ _ _,RcNeAt.int_int _ _ _ _⟩
  . exact ⟨RcAt.int_str _ _ _ _,RcNeAt.int_str _ _ _ _⟩
  . exact ⟨RcAt.int_tuple _ _ (by assumption) a,RcNeAt.int_tuple _ _ (by assumption) a⟩
  . exact ⟨RcAt.int_list _ _ (by assumption) a,RcNeAt.int_list _ _ (by assumption) a⟩
 |str x t=>
  cases B
  . exact ⟨RcAt.str_none _ _,RcNeAt.str_none _ _⟩
  . exact ⟨RcAt.str_bool _ _ _,RcNeAt.str_bool _ _ _⟩
  . exact ⟨RcAt.str_int _ _ _ _,RcNeAt.str_int _ _ _ _⟩
  . exact ⟨RcAt.str_str _ _ _ _,RcNeAt.str_str _ _ _ _⟩
  . exact ⟨RcAt.str_tuple _ _ (by assumption) a,RcNeAt.str_tuple _ _ (by assumption) a⟩
  . exact ⟨RcAt.str_list _ _ (by assumption) a,RcNeAt.str_list _ _ (by assumption) a⟩
 | @ak a1 DR m E e p O Q=>
  cases B with
  |aU=>exact ⟨RcAt.tuple_none p a,RcNeAt.tuple_none p a⟩
  |bl b=>exact ⟨RcAt.tuple_bool _ p a,RcNeAt.tuple_bool _ p a⟩
  |int i t=>exact ⟨RcAt.tuple_int _ _ p a,RcNeAt.tuple_int _ _ p a⟩
  |str x t=>exact ⟨RcAt.tuple_str _ _ p a,RcNeAt.tuple_str _ _ p a⟩
  |ai e2 j c h=>exact ⟨RcAt.tuple_list p j a,RcNeAt.tuple_list p j a⟩
  | @ak a2 DQ n l e2 j c h=>
    have y:m.toArray.size=E.length:=by rw [b7,<-O.length,Q.length]
    have J:n.toArray.size=l.length:=by rw [b7,<-c.length,h.length]
    have el:=Bh Q h O c (λd hd v N u z o g1 g2 g3 g4 g5 g6=>WT I d A.in1 v N u z o (by
      have:=yP hd;simp only [D.dE] at hu;show A.units+1+d.dE<cLine
      omega) g1 g2 g3 g4 g5 g6) hb w
    have q:=RcAt.tuples p j a el;have q2:=RcNeAt.tuples p j a el;rw [y,J,<-uw] at q q2;exact ⟨q,q2⟩
 | @ai a1 DR m E e p O Q=>
  cases B with
  |aU=>exact ⟨RcAt.list_none p a,RcNeAt.list_none p a⟩
  |bl b=>exact ⟨RcAt.list_bool _ p a,RcNeAt.list_bool _ p a⟩
  |int i t=>exact ⟨RcAt.list_int _ _ p a,RcNeAt.list_int _ _ p a⟩
  |str x t=>exact ⟨RcAt.list_str _ _ p a,RcNeAt.list_str _ _ p a⟩
  |ak e2 j c h=>exact ⟨RcAt.list_tuple p j a,RcNeAt.list_tuple p j a⟩
  | @ai a2 DQ n l e2 j c h=>
    have y:m.toArray.size=E.length:=by rw [b7,<-O.length,Q.length]
    have J:n.toArray.size=l.length:=by rw [b7,<-c.length,h.length]
    simp only [kZ]
    by_cases L:E.length=l.length
    . have el:=Bh Q h O c (λd hd v N u z o g1 g2 g3 g4 g5 g6=>WT I d A.in1 v N u z o (by
       have:=yP hd;simp only [D.dE] at hu;show A.units+1+d.dE<cLine
       omega) g1 g2 g3 g4 g5 g6) hb w
      have q:=RcAt.lists p j (by rw [y,J];exact L) a el;have q2:=RcNeAt.lists p j (by rw [y,J];exact L) a el;rw [y,<-Qg E l L] at q q2;exact ⟨q,q2⟩
    . rw [Zw E l L];exact ⟨DU p j (by rw [y,J];simp [L]) a,RcNeAt.lists_lengths p j (by rw [y,J];simp [L]) a⟩
end
section
variable {X:Cx}
def Yp:D->D->Bool
 | .ai a,.ai b=>a.length !=b.length
 |_,_=>false
def Vk (h:Yp a b=true):bG a b=false:=by
 unfold Yp at h
 split at h
 . exact Zw _ _ (by simpa using h)
 . cases h
def ph (a b:D):Prop:=(D.cm a=true/\D.cm b=true/\a.dE<=190)\/Yp a b=true
instance (a b:D):Decidable (ph a b):=inferInstanceAs (Decidable (_\/_))
def oG (K:aC) (neg:Bool):R2:=λx y H Q=> ∃a b,aL K Any H x a/\aL K Any H y b/\ph a b/\Q (.bl (if neg then !bG a b else bG a b)) H
def Vl {z:L2.St} (I:aA X o z H s) (q:A.units<cLine) (r:aL X.K Any H v d) (B:aK v u) (E:aL X.K Any H J L) (i:aK J w) (h:Yp d L=true):
   RcAt A s u w false/\RcNeAt A s u w true:=by
 unfold Yp at h
 split at h
 . obtain ⟨a,Y,rfl,N,_,O⟩:=r.cC;obtain ⟨a',Q,rfl,j,_,l⟩:=E.cC;cases B;cases i;obtain ⟨m,U,p,_⟩:=I.list (.of N);obtain ⟨c,n,y,_⟩:=I.list (.of j)
   have e:(m.toArray.size !=c.toArray.size)=true:=by
    rw [b7,b7,<-U.length,<-n.length,O.length,l.length];exact h
   exact ⟨DU p.isList y.isList e q,RcNeAt.lists_lengths p.isList y.isList e q⟩
 . cases h
def qY (n:X.A.units+200<cLine):cp X (eR .Eq) (oG X.K false):=by
 rintro c s o H x y v u Q I d e ⟨a,b,h,i,hc,q⟩;rcases hc with ⟨j,l,p⟩|hc
 . exact (vG I (by omega) h d i e j l).1 X.prog X.w X.xe _ ⟨.bl _,H,I,rfl,q⟩
 . have m:Q (.bl false) H:=by have:=Vk hc;simpa [this] using q
   exact (Vl I (by omega) h d i e hc).1 X.prog X.w X.xe _ ⟨.bl _,H,I,rfl,m⟩
def xL (n:X.A.units+200<cLine):cp X (eR .NotEq) (oG X.K true):=by
 rintro c s o H x y v u Q I d e ⟨a,b,h,i,hc,q⟩;rcases hc with ⟨j,l,p⟩|hc
 . exact (vG I (by omega) h d i e j l).2 X.prog X.w X.xe _ ⟨.bl _,H,I,rfl,q⟩
 . have m:Q (.bl true) H:=by have:=Vk hc;simpa [this] using q
   exact (Vl I (by omega) h d i e hc).2 X.prog X.w X.xe _ ⟨.bl _,H,I,rfl,m⟩
def ce (a b:D):ao D:=aV (ph a b) (.ok (.bl (bG a b)))
def de (a b:D):ao D:=aV (ph a b) (.ok (.bl (!bG a b)))
def xo {K:aC}:ej K (oG K false) ce:=λx y H a b d Q c h e q=>by
 obtain ⟨i,e2⟩:=ju e;cases e2;exact ⟨a,b,c,h,i,q _ (iM _)⟩
def Zi {K:aC}:ej K (oG K true) de:=λx y H a b d Q c h e q=>by
 obtain ⟨i,e2⟩:=ju e;cases e2;exact ⟨a,b,c,h,i,q _ (iM _)⟩
def aE.bp (r:aE k A):A.units+200<cLine:=by have:=r.un;omega
end
end M
namespace M
open PySem PySem.Spec L2
open PyProof.Rows hiding St
section
variable {X:Cx} {K:aC}
def KM {lo:Option Int} (c:IsTup s.heap t a) (m:s.heap.IsSliceOf n vl p .none) (q:IsPart vl lo) (r:IsPart p e)
  (hw:HT.bI a.size 0 lo=0/\HT.bI a.size a.size e=a.size) (h:Q (.ref t) s):wpAny (model o w) A (getItem (.ref t) (.ref n)) Q E s:=by
 obtain ⟨os,i,j,u⟩:=id m;have l:s.TypeIs (.ref n) "slice" :=⟨os,i,j⟩
 unfold getItem
 try with_reducible refine mI ?_
 first|refine az (ba ?_)|skip
 refine az (wpAny_sequenceKey c.typeIs (by decide) ?_)
 refine az (pc c.typeIs p5
  (m5 p5 c.typeIs entry_tuple_getitem ?_ (args_tuple_getitem _ _)))
 show wpAny _ _ (G4 (.ref t)>>=_) _ _ s;refine az (tupleItemsOf_ c ?_);refine az (wpAny_typeOf l ?_);rw [if_pos (by decide)];refine az (HT.cR m q r ?_)
 have d:(((HT.bI a.size 0 lo:Nat):Int)==0&&(1:Int)==1&&(HT.bI a.size a.size e-HT.bI a.size 0 lo)==a.size)=true:=by
  rw [hw.1,hw.2];simp
 show wpAny _ _ (if (((HT.bI a.size 0 lo:Nat):Int)==0&&(1:Int)==1&&(HT.bI a.size a.size e-HT.bI a.size 0 lo)==a.size)=true then _ else _) _ _ s;rw [if_pos d];unfold Builtin.Tuple.tupleIsExact;refine az (az (wpAny_typeOf c.typeIs (ba ?_)));rw [if_pos (by decide)]
 first
  |exact az (rG (az (ba (ba ⟨_,rfl,ba h⟩))))
  |exact az (rG (ba ⟨_,rfl,ba h⟩))
  |exact az (rG (az (ba ⟨_,rfl,ba h⟩)))
def xv (K:aC):V->Option Int->Option Int->Hp->VK->Prop:=λx lo d H Q=> ∃a c,x= .ref a/\ee K H a c/\(HT.bI c.length 0 lo=0/\HT.bI c.length c.length d=c.length)/\Q (.ref a) H
def nv:oz X (xv X.K):=by
 rintro e s u H x v vl w lo y z Q I i j l m ⟨a,n,o,p,hw,q⟩;subst o;cases i;obtain ⟨d,r,h,B⟩:=I.tuple p;have c:d.toArray.size=n.length:=by rw [b7];exact r.length.symm
 exact ⟨"tuple",_,p5.lookup,h.typeIs,KM h j l m (by rw [c];exact hw) ⟨.ref a,H,I,rfl,q⟩⟩
def cW (z:Str) (lo a:Option Int):Str:=
 if ((mQ lo a 1 z.length).length==z.length)=true then z else ⟨((mQ lo a 1 z.length).filterMap (z.cps[·]?)).toArray⟩
def uH (z:Str) (lo a:Option Int):(cW z lo a).length<=z.length:=by
 unfold cW
 split
 . exact br _
 . show ((mQ lo a 1 z.length).filterMap (z.cps[·]?)).toArray.size<=z.length;rw [b7];exact cY (List.length_filterMap_le _ _) (PyProof.Rows.indices_len_le lo a z.length)
def xw:V->Option Int->Option Int->Hp->VK->Prop:=λx lo a H Q=> ∃z,x= .str z/\z.length<=aS/\Q (.str (cW z lo a)) H
def HK (h:IsPart v o): ∃p:Option (Int×Tok),v=partValue p/\p.map (·.1)=o:=by
 cases h with
 |none=>exact ⟨none,rfl,rfl⟩
 |int i t=>exact ⟨some (i,t),rfl,rfl⟩
def Ra:oz X xw:=by
 rintro d s B H x v vl E lo a J Q I i j m n ⟨z,o,p,q⟩;subst o;obtain ⟨t,rfl⟩:=i;obtain ⟨l,rfl,r⟩:=HK m;obtain ⟨u,rfl,w⟩:=HK n;refine ⟨"str",_,F.slot_str_getitem.lookup,typeIs_str s z t,wpAny_getItem_str_slice (st:=none) j rfl ?_⟩;have y:slicePicked z l u none=mQ lo a 1 z.length:=by unfold slicePicked;rw [r,w];rfl
 unfold sliceMade;rw [y]
 by_cases c:((mQ lo a 1 z.length).length==z.length)=true
 . have e:cW z lo a=z:=by unfold cW;rw [if_pos c]
   rw [e] at q;rw [if_pos (by simpa using c)];exact ⟨.str z,H,I,⟨t,rfl⟩,q⟩
 . have e:cW z lo a=⟨((mQ lo a 1 z.length).filterMap (z.cps[·]?)).toArray⟩:=by unfold cW;rw [if_neg c]
   have h:=uH z lo a;rw [e] at q h;rw [if_neg (by simpa using c)];exact ⟨cY h p,.str _,H,I.tok _,⟨_,rfl⟩,q⟩
def eW:D->Option Int->Option Int->ao D
 | .ak c,lo,a=>(.ok (.ak (cutD c lo a)))
 | .ai c,lo,a=>(.ok (.ai (cutD c lo a)))
 | .str z,lo,a=> .ok (.str (cW z lo a))
 |_,_,_=> .aj
def Rb {lo:Option Int} (c:HT.bI a.length 0 lo=0) (d:HT.bI a.length a.length e=a.length):cutD a lo e=a:=by
 unfold cutD;rw [c,d];simp
def Rc {lo:Option Int} (r3:aL X.K A H x a) (m:eW a lo i= .ok d) (q: ∀v o,aq H o->aL X.K (λc=>H c=none\/A c) o v d->bh H v->Q v o):
  t7 X.K x lo i H Q\/xv X.K x lo i H Q\/u3 X.K x lo i H Q\/xw x lo i H Q:=by
 cases a with
 |ak u=>
  cases m;obtain ⟨b,e,rfl,j,l⟩:=r3.dR;have n:=l.length
  by_cases hw:HT.bI e.length 0 lo=0/\HT.bI e.length e.length i=e.length
  . refine .inr (.inl ⟨b,e,rfl,.of j,hw,?_⟩);rw [n] at hw;rw [Rb hw.1 hw.2] at q;exact q _ H (aq.refl H) (.ak j (l.aH sP)) (HJ j)
  . exact .inl ⟨b,e,rfl,.of j,hw,λp h=>q _ _ (aq.aR h) (.ak jD (((vg l).aH sP).am (aq.aR h))) (qH (aq.refl H) h)⟩
 |ai u=>
  cases m;obtain ⟨b,e,rfl,j,_,l⟩:=r3.cC;exact .inr (.inr (.inl ⟨b,e,rfl,.of j,λp h=>q _ _ (aq.aR h) (.ai jD (.inl h) (((vg l.low).laid h).aH λc z=>⟨.inr z.1,z.2⟩)) (qH (aq.refl H) h)⟩))
 |str z=>
  cases m;obtain ⟨rfl,r⟩:=r3.fY;have n:=cY (uH z lo i) r;exact .inr (.inr (.inr ⟨z,rfl,r,q _ H (aq.refl H) (.str _ n) (DM (A3 (K:=X.K) _ n))⟩))
 |_=>cases m
def zP {lo:Option Expr} (u:DE X .s e f) (w:DO X lo y) (B:DO X E I):
   DE X .t (.Subscript e (.Slice lo E none p2) J) (qp f y I eW):=by
 with_unfolding_all exact (
  PE.imp (vQ (p6.or (nv.or (lR.or Ra))) u w B) λσ H Q=>by
   rintro ⟨G,j,h,d,k,i,q⟩;obtain ⟨a,e1,i⟩:=jd i;obtain ⟨l,e2,i⟩:=jd i;obtain ⟨m,L,N⟩:=jd i;refine ⟨G,j,h,a,k,e1,λx H1 n O _=>⟨G,j,h,l,k.am n,e2,λH2 o=>⟨G,j,h,m,(k.am n).am o,L,λH3 r=>?_⟩⟩⟩;have p:=n.trans (o.trans r)
   exact Rc ((O.am o).am r) N λv U Y r4 nt=>q v U (p.trans Y) (r4.aH λc z=>z.elim (λz=>k.new c (aq.free p z)) λz=>z) (nt.am p))
def HL (K:aC) (r:V->List V->Hp->VK->Prop) (g:D->List D->ao D):Prop:= ∀(x:V) (c:List V) (H:Hp) (a:D) (e:List D) (d:D) (Q:VK),aL K Any H x a->au K Any H c e->g a e= .ok d->(∀v,Sc K v d->Q v H)->r x c H Q
def Rf (r:aL K A H v (.str z)):C5 K "str" v H:=by rw [r.fY.1];exact rfl
def Bi (f:T4) (d:T1) (g:Str->List D->ao D):Sl->ao D:=λc=>f c>>=λa=>match a with
 | .str z=>d c>>=λe=>g z e
 |_=> .aj
def Rg {l':Lv} {i c:Pos} {id:String}
   (slot:PySem.Slot "str" name id) (w:typeOf (.builtin id)=pure (.type "method_descriptor")) (N:mJ X id r) (O:HL X.K r (λa u=>match a with| .str z=>g z u|_=> .aj)) (U:DE X l1 o f) (Y:DA X l2 (e::m) fa)
   (j:l7 o name X.env (eval o X.env)=eval o X.env:=by rfl)
   (n:((dA c (bg (e::m) X.env)).all (λx=>!x.1)&&(fV c (fW [] X.env)).all (λx=>x.1.isSome)
    &&decide ((e::m).length+([]:List fO).length+(if ([]:List fO).isEmpty then 0 else 1)<30))=true:=by exact xt rfl rfl)
   (l:(i.endLine==c.line)=true:=by rfl) (hs:Vs X e m:=by exact jm rfl) (h:Vr X c m:=by exact jF rfl):
   DE X l' (.Call (.Attribute o name i) (e::m) [] c) (Bi f fa g):=by
 with_unfolding_all exact (
  PE.imp (kr PySem.F.plainAttrs_str slot w N U Y j n l hs h) λσ H Q=>by
   rintro ⟨G,y,p,d,k,ef,q⟩;obtain ⟨a,e1,e2⟩:=jd ef
   cases a with
   |str z=>
    obtain ⟨u,e3,e4⟩:=jd e2;refine ⟨G,y,p,_,k,e1,λx H1 B E _=>⟨Rf E,G,y,p,u,k.am B,e3,λxs I J r2=>?_⟩⟩;exact O x xs I (.str z) u d Q ((E.am J).aH Lv.aZ) (r2.aH Lv.aZ) e4 λv L=>q v I (B.trans J) (L.1 _ _) L.T
   |_=>cases e2)
def Rh:mJ X "str.find" (λx c H Q=> ∃z y,x= .str z/\c=[.str y]/\Q (.int (Txt.find z y)) H):=by
 rintro d s l H x c v m Q I e h ⟨z,y,i,a,q⟩;subst i a;obtain ⟨t,rfl⟩:=e;obtain ⟨u,rfl,j⟩:=ZK h;obtain ⟨n,rfl⟩:=j;exact SC.find ⟨.int _,H,I.tok _,⟨_,rfl⟩,q⟩
def Bj (z:Str):List D->ao D
 | [.str y]=> .ok (.int (Txt.find z y))
 |_=> .aj
def Ri:HL K (λx c H Q=> ∃z y,x= .str z/\c=[.str y]/\Q (.int (Txt.find z y)) H) (λa h=>match a with| .str z=>Bj z h|_=> .aj):=by
 intro x c H a h d Q i j e q
 cases a with
 |str z=>
  dsimp only at e;unfold Bj at e
  split at e
  . cases e;obtain ⟨v,rfl,l⟩:=j.one;exact ⟨z,_,i.fY.1,by rw [l.fY.1],q _ (j5 _)⟩
  . cases e
 |_=>cases e
def cD:Sl->ao D:=λ_=> .ok (.aP [] [])
def KW:DE X .t (.Dict [] [] c) cD:=by
 with_unfolding_all exact (PE.imp OW λi H Q=>by
  rintro ⟨G,j,e,d,k,h,q⟩;cases h
  exact λp a=>q _ _ (aq.aR a) (.aP jD (k.new p a) rfl rfl .nil) (qH (aq.refl H) a))
def DV:D->ao D
 | .int i=> .ok (.int (-i))
 |_=> .aj
def iT (f:T4):Sl->ao D:=λa=>f a>>=DV
def HM (h:DE X l e f):DE X l' (.UnaryOp .USub e j) (iT f):=by
 with_unfolding_all exact (PE.imp (NT NW h) λp H Q=>by
  rintro ⟨G,m,c,d,k,n,q⟩;obtain ⟨a,e1,e2⟩:=jd n;refine ⟨G,m,c,a,k,e1,λv o s r _=>?_⟩
  cases a with
  |int i=>cases e2;exact ⟨i,r.cM,q _ o s (.int _) (j5 (K:=X.K) _).T⟩
  |_=>cases e2)
end
abbrev ii:D->D->ao D:=eV WF λi j=> .int (i-j)
abbrev f6:D->D->ao D:=eV mo λi j=> .int (i*j)
abbrev iU:D->D->ao D:=eV xf λi j=> .int (i/j)
abbrev bf:D->D->ao D:=eV xq λi j=> .int (i%j)
abbrev fJ:D->D->ao D:=eV rF λi j=> .int (i^j.toNat)
abbrev ltI:D->D->ao D:=eV WF λi j=> .bl (decide (i<j))
abbrev mr:D->D->ao D:=eV WF λi j=> .bl (decide (i<=j))
abbrev gw:D->D->ao D:=eV WF λi j=> .bl (decide (j<i))
abbrev DX:D->D->ao D:=eV WF λi j=> .bl (decide (j<=i))
structure Av (P:bH) (w:World) (K:aC) (mg:W0) (af:Heap) (k:Nat) (x:Str) (ps:List Str) (fr:Bool) (F:T0):Prop where
 ex: ∃f fd,bR P w K mg af fQ k f fd ps (lj K fr ps.length F)/\mg x=some (.ref f)/\gj K (.ref f)=true/\Binds K fd ps []
def Av.mono {K:aC} (h:Av P w K mg af j x c d F) (e:j<=k):Av P w K mg af k x c d F:=
 let ⟨f,i,a,b⟩:=h.ex
 ⟨f,i,a.mono e,b⟩
section
variable {X:Cx} {k:Nat} {x:Str} {Q:List Str} {O:Bool} {F:T0} {e:Expr} {U:List Expr} {p Y:Pos} {g:T1}
def Av.call (A:Av X.prog X.w X.K X.mg X.af k x Q O F) (hr:aE k X.A) (d:DA X .s (e::U) g) (h:Q.length=n:=by rfl) (i:Gl X x:=by rfl) (a:Y6 x:=by decide)
  (j:Vs X e U:=by exact jm rfl) (c:Vr X Y U:=by exact jF rfl):DE X .s (.Call (.Name x p) (e::U) [] Y) (jk n F g):=by
 subst h;obtain ⟨f,o,h1,h2,l,m⟩:=A.ex;exact Po h1 hr i h2 l m VA d a j c
def Av.aB (A:Av X.prog X.w X.K X.mg X.af k x Q true F) (hr:aE k X.A) (d:DA X .s (e::U) g) (h:Q.length=n:=by rfl) (i:Gl X x:=by rfl) (a:Y6 x:=by decide)
  (j:Vs X e U:=by exact jm rfl) (c:Vr X Y U:=by exact jF rfl):DE X .t (.Call (.Name x p) (e::U) [] Y) (jk n F g):=by
 subst h;obtain ⟨f,o,h1,h2,l,m⟩:=A.ex;exact Pp h1 hr i h2 l m VA d a j c
def Av.xG (A:Av X.prog X.w X.K X.mg X.af k x Q O F) (hr:aE k X.A) (d:DA X .b (e::U) g) (h:Q.length=n:=by rfl) (i:Gl X x:=by rfl) (a:Y6 x:=by decide)
  (j:Vs X e U:=by exact jm rfl) (c:Vr X Y U:=by exact jF rfl):DE X .b (.Call (.Name x p) (e::U) [] Y) (jk n F g):=by
 subst h;obtain ⟨f,o,h1,h2,l,m⟩:=A.ex;exact Pq h1 hr i h2 l m VA d a j c
end
def aD (c:Bool) (n:Nat) (g:T2) (e:List D):ao D:=match g (j4 n e) with
 | .ok (.rt a d)=>if c=true/\a=false then .aj else .ok d
 | .ok (.nx _)=> .ok .aU
 |_=> .aj
def ZV (h:aD i n g j= .ok d):Meets i n g j d:=by
 unfold aD at h
 split at h
 . rename_i a o e
   split at h
   . cases h
   . rename_i l;cases h;refine .inl ⟨a,e,λm=>?_⟩
     cases a with
     |true=>rfl
     |false=>exact absurd ⟨m,rfl⟩ l
 . rename_i c e;cases h;exact .inr ⟨rfl,c,e⟩
 . cases h
section
variable {P:bH} {w:World} {K:aC} {mg:W0} {af:Heap}
def Rj {st:Stmt} (j:Bool) (l:hZ K x x st f m) (e:mg x=some (.ref f)) (S:ar N n (jg st)) (i:Binds K m n [])
  (o: ∀(c:Value) (A:bQ) (a:List Env) (s:aM) (H:Hp) (E:XK),aE k (A.deeper (fF x (jg st) s.heap.objs.size f c))->gn (bA fQ P w K mg af N x (jg st) f c A a s H E).kf (jQ st) g):
  Av P w K mg af (k+1) x n j (aD j N.length g):=
 ⟨f,m,DK l S o λp d _ h=>ZV h,e,l.kp,i⟩
def Rk {st:Stmt} (j:Bool) (l:hZ K x x st f i) (a:mg x=some (.ref f)) (c:Binds K i m []):Av P w K mg af k x m j (λ_=> .aj):=
 ⟨f,i,⟨λn H Q E ⟨B,o,d,p,_⟩=>p,λA h s H args q n Q E _ _ _ _ ⟨B,o,d,_,_,e,_⟩=>by cases e⟩,a,l.kp,c⟩
end
def Rl {K:aC} {st:Stmt} (i:Bool) (l:hZ K x x st f m) (S:ar N j (jg st))
 (n: ∀(c:Value) (A:bQ) (a:List Env) (s:aM) (H:Hp) (E:XK),aE k (A.deeper (fF x (jg st) s.heap.objs.size f c))->gn (bA fQ P w K o e N x (jg st) f c A a s H E).kf (jQ st) g):
 bR P w K o e fQ (k+1) f m j (lj K i j.length (aD i N.length g)):=DK l S n λp d _ h=>ZV h
def HN {p n:Pos} (i:Nat) (O:DE X l2 b U) (Y:X.N[i]?=some x:=by rfl) (hv:fL X.env.scope x:=by exact du rfl)
   (hd:Y6 x:=by decide) (o:Y5 x:=by decide) (hs:X4 b:=by intro _ _;rfl):DE X .s (.Subscript (.Name x p) b n) (al (cy i) U aG):=by
 with_unfolding_all exact (
  PE.imp (AW G7 (wE Y hv hd o) O hs) λσ H Q=>by
   rintro ⟨G,I,h,d,k,u,q⟩;obtain ⟨w,e1,u⟩:=jd u;obtain ⟨c,e2,a⟩:=jd u;rcases Kb e1 with z|z
   . obtain ⟨v,m,J⟩:=k.ah i w z;exact ⟨v,m,G,I,h,c,k,e2,λy B l r2 _=>Hk (J.am l) (r2.aH Lv.aZ) a λv r3=>q v B l r3 trivial⟩
   . obtain ⟨v,m,h0,J⟩:=k.aw i w z;refine ⟨_,m,G,I,h,c,k,e2,λy B l r2 _=>?_⟩;have h3:=(k.am l).aw i w z;obtain ⟨v2,L,_,g2⟩:=h3;rw [m] at L;cases L
     cases g2 with
     |ai e r=>
      cases c with
      |int j=>
       cases (r2.aH Lv.aZ).cM;unfold aG at a;dsimp only at a
       cases E:fX _ j with
       |none=>rw [E] at a;cases a
       |some d'=>
        rw [E] at a;cases a;obtain ⟨N,e6,r6⟩:=K7 r E;exact .inl ⟨_,_,j,N,rfl,rfl,.of e,e6,q N B l r6 trivial⟩
      |_=>cases a
     |aP e _ _ r=>cases c<;>cases a
     |bV e _ _ r=>cases c<;>cases a
     |obj e _ _ r=>cases c<;>cases a
     |cZ e _ _ r=>cases c<;>cases a)
def zG:jW "list" =some (.type "list"):=by decide+kernel
def Rm (d:List Str) (HP a:Scope) (N:List Str) (m:Nat) (c:List Nat):Bool:=(ke c.length).all λk=>match N[m+k]?,(c[k]?).bind (d[·]?) with
 |some y,some e=>y==e&&(HP.names.lookup y==some .cell||HP.names.lookup y==some .free)&&a.names.lookup y==some .free
 |_,_=>false
def xY (z:Option Str) (d:List Str) (a scope:Scope) (cl:List (Str×Addr)) (N:List Str) (m:Nat) (c:List Nat):Bool:=
 (scope.names.all λx=>x.2 != .local||scope.names.lookup x.1==some .local)&&(scope.names.all λx=>x.2 != .cell||z==some x.1)&&(match z with
   |some y=>scope.names.lookup y==some .cell
   |none=>true)&&(scope.names.all λy=>y.2 != .free||cl.any λp=>p.1==y.1)&&
  Rm d a scope N m c&&(match N[m+c.length]? with
   |some y=>scope.names.all λp=>p.1 !=y
   |none=>true)&&N.length==m+c.length+1
def Rn {a:List (Str×Addr)} (h:(a.any λp=>p.1==y)=true): ∃c,a.lookup y=some c:=by
 induction a with
 |nil=>cases h
 |cons p r d=>
  obtain ⟨n,c⟩:=p;rw [sF,Bool.or_eq_true] at h;simp only [ln]
  cases e:y==n with
  |true=>exact ⟨c,rfl⟩
  |false=>
   rcases h with h|h
   . have:n=y:=by simpa using h
     subst this;simp at e
   . exact d h
def nw (a:List (Str×Addr)):List (Str×Addr)->Prop
 | []=>True
 |p::r=>a.lookup p.1=some p.2/\nw a r
theorem nw.mem: ∀ {c:List (Str×Addr)},nw a c-> ∀p∈c,a.lookup p.1=some p.2
 |_::_,h,p,d=>(bJ.mp d).elim (λe=>e▸h.1) (nw.mem h.2 p)
def zf (z:Option Str) {X:Cx} (i:closureFor a X.env=pure l) (o:a.kind= .function) (w:N.Nodup) (q:nw X.env.cells l)
   (h:xY z X.N X.env.scope a l N m B=true) (made: ∀n,cellsFrom (n+1) a.names l=pe z l n:=by intro _;rfl) (d: ∀h,pushCells h a.names=Dt z h:=by intro _;rfl):et z X a l N m B:=by
 simp only [xY,dD,m9,beq_iff_eq] at h;obtain ⟨⟨⟨⟨⟨⟨E,H⟩,u⟩,I⟩,J⟩,v⟩,L⟩:=h;refine ⟨i,o,λx O e=>?_,λy r e=>?_,made,d,λy e=>by rw [e] at u;exact beq_iff_eq.mp u,λx c e=>q.mem (x,c) (p4 e),λy r e=>?_,w,L,λk j e=>?_,λy e p Q=>?_⟩
 . have:=E x O;rw [e] at this;simpa using this
 . have:=H y r;rw [e] at this;simpa using this
 . have:=I y r;rw [e] at this;exact Rn (by simpa using this)
 . have U:=(iD.mp e).1;have:=m9.mp J k (n9.mpr U);rw [e] at this;simp at this
   cases e1:N[m+k]? with
   |none=>rw [e1] at this;cases this
   |some y=>
    cases e2:X.N[j]? with
    |none=>rw [e1,e2] at this;cases this
    |some y'=>
     rw [e1,e2] at this;simp at this;obtain ⟨⟨Y,g2⟩,g3⟩:=this;subst Y;exact ⟨y,rfl,rfl,g2,g3⟩
 . rw [e] at v;have:=m9.mp v p Q;simpa using this
end M
namespace M
open PySem PySem.Spec L2
def qf (h:a d c= .ok (.nx env')):a5 a (d::e) c=a5 a e env':=by
 show (a d c>>=_)=_;rw [h];rfl
def Ro (h:a d c= .ok (.rt e v)):a5 a (d::i) c= .ok (.rt e v):=by
 show (a d c>>=_)=_;rw [h];rfl
theorem XQ {e:Type} (E:e->Sl) (step:e->D->e) (P:List D->e->Prop)
  (i: ∀d c a,P (d::c) a->body d (E a)= .ok (.nx (E (step a d)))/\P c (step a d)): ∀(c:List D) (a:e),P c a->a5 body c (E a)= .ok (.nx (E (c.foldl step a)))
 | [],a,_=>rfl
 |d::c,a,h=>by
  obtain ⟨j,l⟩:=i d c a h;rw [qf j,XQ E step P i c _ l];rfl
theorem XZ {E:D->List D->Sl} (h:D->D) (P:D->Prop)
  (l: ∀x a,dw n (E x a)= .ok a) (m: ∀x a c,(E x a).set n (.aw (.ai c))=E x c)
  (o: ∀x d a,t d (E x a)= .ok (E d a)) (p: ∀d a,P d->j (E d a)= .ok (h d)):
  ∀(i:List D) (x:D) (a:List D),(∀d∈i,P d)->a.length+i.length<=aS-> ∃y,xa n t qi j i (E x a)= .ok (E y (a++i.map h))
 | [],x,a,_,_=>⟨x,by simp [xa]⟩
 |d::i,x,a,q,r=>by
  simp at r;obtain ⟨y,u⟩:=XZ h P l m o p i d (a++[h d]) (λe v=>q e (by simp [v])) (by simp;omega);refine ⟨y,?_⟩
  have w:xa n t qi j (d::i) (E x a)=xa n t qi j i (E d (a++[h d])):=by
   show (t d (E x a)>>=_)=_;rw [o];show (j (E d a)>>=_)=_;rw [p d a (q d (by simp))];rw [l];show aV _ _=_;rw [jl (by omega),m]
  rw [w,u];simp
def xZ {a:List D} (h:D->D) (P:D->Prop) (q:m i= .ok a) (o: ∀d∈a,P d) (r:a.length<=aS)
  (p: ∀d l,P d->j [.ah d,.aw (.ai l)]= .ok (h d)):qv false 1 [] m (gN 0) qi j i= .ok (.ai (a.map h)):=by
 show (m i>>=_)=_;rw [q];show (xa 1 (gN 0) qi j a [.un,.aw (.ai [])]>>=_)=_
 cases a with
 |nil=>rfl
 |cons d a=>
  simp at r;obtain ⟨y,u⟩:=XZ (n:=1) (t:=gN 0) h P (λ_ _=>rfl) (λ_ _ _=>rfl) (λ_ _ _=>rfl) p a d [h d] (λe v=>o e (by simp [v])) (by simp;omega)
  have w:xa 1 (gN 0) qi j (d::a) [.un,.aw (.ai [])]=xa 1 (gN 0) qi j a [.ah d,.aw (.ai [h d])]:=by
   show (j [.ah d,.aw (.ai [])]>>=_)=_;rw [p d [] (o d (by simp))];exact jl (c:=([]:List D).length<aS) (by simp;omega)
  rw [w,u];rfl
variable {env env':Sl} {f U Q J:T4} {g O g2:T2} {t L N:T3} {Y:T1} {i:Nat} {d:D} {b:Bool}
@[simp] theorem qy {c e:Type} {a:c} {f:c->ao e}:(ao.ok a>>=f)=f a:=rfl
@[simp] theorem DY {e h:Type} {c:Prop} [Decidable c] {a b:ao e} {f:e->ao h}:((if c then a else b)>>=f)=if c then a>>=f else b>>=f:=by split<;>rfl
def iV (g:T2):aW->ao aW
 | .nx e=>g e
 |o=> .ok o
@[simp] theorem HQ:iV g (.nx env)=g env:=rfl
@[simp] theorem kA {a:Bool}:iV g (.rt a d)= .ok (.rt a d):=rfl
@[simp] theorem yn:ap O g2 env=(O env>>=iV g2):=by
 show (O env>>=_)=_;congr 1;funext o;cases o<;>rfl
@[simp] theorem Rp:b8 i f env=(f env>>=λd=> .ok (.nx (env.set i (Qs d)))):=rfl
@[simp] theorem yJ:jr i f env=(f env>>=λd=> .ok (.nx (env.set i (.ah d)))):=rfl
@[simp] theorem XT:aJ f env=(f env>>=λd=> .ok (.rt true d)):=rfl
@[simp] theorem HR:retS f env=(f env>>=λd=> .ok (.rt false d)):=rfl
@[simp] theorem HS:bo env= .ok (.nx env):=rfl
@[simp] theorem YL:bu t O g2 env=(t env>>=λb=>if b=true then O env else g2 env):=rfl
@[simp] theorem Rq:ek L N env=(L env>>=λb=>if b=true then N env else .ok false):=rfl
@[simp] theorem DZ:fq L N env=(L env>>=λb=>if b=true then .ok true else N env):=rfl
@[simp] theorem kU:a6 t env=(t env>>=λb=> .ok (!b)):=rfl
def x8:D->ao Bool
 | .bl b=> .ok b
 |_=> .aj
@[simp] theorem vk:x8 (.bl b)= .ok b:=rfl
@[simp] theorem ut:aO f env=(f env>>=x8):=rfl
@[simp] theorem Ux {h:D->D->ao D}:al U Q h env=(U env>>=λx=>Q env>>=λy=>h x y):=rfl
@[simp] theorem D0 {j:Int}:cI j env= .ok (.int j):=rfl
@[simp] theorem HU:cB b env= .ok (.bl b):=rfl
@[simp] theorem yK:jb f Y env=(f env>>=λd=>Y env>>=λa=> .ok (d::a)):=rfl
@[simp] theorem kW:ag env= .ok []:=rfl
@[simp] theorem Uz {h:T0}:app Y h env=(Y env>>=h):=rfl
@[simp] theorem ur {n:Nat} {F:T0}:jk n F Y env=(Y env>>=λa=>aV (a.length=n) (F a)):=rfl
@[simp] theorem HV:aN Y env=(Y env>>=λa=>aV (a.length<=aS) (.ok (.ak a))):=rfl
@[simp] theorem Rt:ci Y env=(Y env>>=λa=>aV (a.length<=aS) (.ok (.ai a))):=rfl
@[simp] theorem wn {T:String}:a7 T f env=(f env>>=fI T):=rfl
@[simp] theorem D1:b9 f env=(f env>>=sM):=rfl
@[simp] theorem kX {a:TZ} {c:T1}:ca c a g env=(c env>>=λe=>a5 (qG a g) e env):=rfl
@[simp] theorem Rv {c e:Sl->ao (Option Int)} {h:D->Option Int->Option Int->ao D}:qp f c e h env=(f env>>=λa=>c env>>=λlo=>e env>>=λj=>h a lo j):=rfl
@[simp] theorem Rw:zI f env=(f env>>=Hl):=rfl
@[simp] theorem D2:ae i env=match env[i]? with|some (.ah d)=> .ok d|_=> .aj:=rfl
def toK (g:ao D) (w:Bool):D->ao D
 | .bl b=>if b=w then g else .ok (.bl b)
 |_=> .aj
@[simp] theorem HW {r:ao D} {w:Bool}:toK r w (.bl b)=if b=w then r else .ok (.bl b):=rfl
@[simp] theorem Uy {w:Bool}:mK U Q w env=(U env>>=toK (Q env) w):=by
 show (U env>>=_)=_;congr 1
def D3 (f:ao D) (a:D->D->ao D) (y:D):D->ao D
 | .bl true=>f>>=λw=>a y w
 | .bl false=> .ok (.bl false)
 |_=> .aj
@[simp] theorem uJ {r:ao D} {h:D->D->ao D} {y:D}:D3 r h y (.bl b)=if b=true then r>>=λw=>h y w else .ok (.bl false):=by cases b<;>rfl
@[simp] theorem Zv {h a:D->D->ao D}:WE U Q J h a env=(U env>>=λx=>Q env>>=λy=>h x y>>=D3 (J env) a y):=by
 show (U env>>=_)=_;congr 1
@[simp] theorem Rx {a:Type} {c:Prop} [Decidable c] {r:ao a}:aV c r=if c then r else .aj:=rfl
@[simp] theorem D4 {C:Int->Int->Prop} [∀i j,Decidable (C i j)] {h:Int->Int->D} {m n:Int}:eV C h (.int m) (.int n)=if C m n then .ok (h m n) else .aj:=rfl
def runK (c:Bool):aW->ao D
 | .rt a d=>if c=true/\a=false then .aj else .ok d
 | .nx _=> .ok .aU
 |_=> .aj
def JJ (h:g (j4 n a)= .ok o):aD c n g a=runK c o:=by
 unfold aD;rw [h];cases o<;>rfl
end M
namespace M
def Ry (d:t a= .ok true) (h:g a= .ok (.nx c)):wV (n+1) t g a=wV n t g c:=by
 rw [wV,d,qy,if_pos rfl,h];rfl
def Rz (c:t a= .ok true) (h:g a= .ok (.rt e d)):wV (n+1) t g a= .ok (.rt e d):=by
 rw [wV,c,qy,if_pos rfl,h];rfl
def uV (c:t a= .ok false):wV (n+1) t g a= .ok (.nx a):=by
 rw [wV,c,qy,if_neg (by simp)]
end M
namespace M
open PySem PySem.Spec L2
def bx:D->List D
 | .ak (_::r)=>r
 |_=>[]
mutual
def num:D->Nat
 | .ak (_::r)=>1+nums r
 |_=>1
def nums:List D->Nat
 | []=>0
 |d::r=>num d+nums r
end
mutual
def bz:D->Nat
 | .ak (_::r)=>1+bi r
 |_=>1
def bi:List D->Nat
 | []=>0
 |d::r=>max (bz d) (bi r)
end
mutual
def bv:D->List D
 | .ak (x::r)=> .ak (x::r)::cX r
 |d=>[d]
def cX:List D->List D
 | []=>[]
 |d::r=>bv d++cX r
end
def Bk:D->Bool| .ei _=>false| .gm _=>false| .gL _ _=>false| .gM _ _=>false| .obj _ _ _=>false| .mem _ _=>false| .cZ _=>false|_=>true
mutual
def cn:D->Bool
 | .ei _=>false
 | .gm _=>false
 | .gL _ _=>false
 | .gM _ _=>false
 | .obj _ _ _=>false
 | .mem _ _=>false
 | .cZ _=>false
 | .ak a=>decide (a.length<=11)&&bt a
 |_=>true
def bt:List D->Bool
 | []=>true
 |d::r=>cn d&&bt r
end
def YA (d:D):num d=1+nums (bx d):=by
 cases d with
 |ak a=>cases a<;>simp [num,bx,nums]
 |_=>simp [num,bx,nums]
def Uq (d:D):bz d=1+bi (bx d):=by
 cases d with
 |ak a=>cases a<;>simp [bz,bx,bi]
 |_=>simp [bz,bx,bi]
def RA (d:D):bv d=d::cX (bx d):=by
 cases d with
 |ak a=>cases a<;>simp [bv,bx,cX]
 |_=>simp [bv,bx,cX]
def vW (a b:List D):nums (a++b)=nums a+nums b:=by
 induction a with
 |nil=>simp [nums]
 |cons d r c=>simp [nums,c];omega
def RB (a b:List D):bi (a++b)=max (bi a) (bi b):=by
 induction a with
 |nil=>simp [bi]
 |cons d r c=>simp [bi,c]
def Zs (h:cn d=true):Bk d=true:=by
 cases d<;>first|rfl| (simp [cn] at h)
theorem ym: ∀ {a:List D} {d:D},bt a=true->d∈a->cn d=true
 |x::r,d,h,hm=>by
  simp only [bt,dD] at h;rcases bJ.mp hm with rfl|hm
  . exact h.1
  . exact ym h.2 hm
theorem WR: ∀ {a:List D},(∀d∈a,cn d=true)->bt a=true
 | [],_=>rfl
 |x::r,h=>by simp only [bt,dD];exact ⟨h x (by simp),WR λd c=>h d (by simp [c])⟩
def Zt (h:cn d=true):bt (bx d)=true/\(bx d).length<=10:=by
 cases d with
 |ak a=>
  cases a with
  |nil=>exact ⟨rfl,by simp [bx]⟩
  |cons x r=>
   simp only [cn,bt,dD,decide_eq_true_eq,bO] at h;exact ⟨h.2.2,by simp only [bx];omega⟩
 |_=>exact ⟨rfl,by simp [bx]⟩
def xb (a:List D):List D:=a.flatMap bx
def RC (a:List D):nums a=a.length+nums (xb a):=by
 induction a with
 |nil=>rfl
 |cons d r c=>
  have:xb (d::r)=bx d++xb r:=rfl;rw [this,vW];simp only [nums,bO,c,YA d];omega
def RD (a:List D) (h:a≠[]):bi a=1+bi (xb a):=by
 induction a with
 |nil=>exact absurd rfl h
 |cons d r c=>
  have e:xb (d::r)=bx d++xb r:=rfl;rw [e,RB];simp only [bi,Uq d]
  cases r with
  |nil=>simp [bi,xb]
  |cons x r=>rw [c (by simp)];omega
def kT (h:bt a=true):bt (xb a)=true:=
 WR λd c=>by
  obtain ⟨x,e,i⟩:=yr.mp c;exact ym (Zt (ym h e)).1 i
def RE (h:bt a=true):(xb a).length<=10*a.length:=by
 induction a with
 |nil=>simp [xb]
 |cons d r c=>
  simp only [bt,dD] at h;have e:xb (d::r)=bx d++xb r:=rfl;have:=c h.2;have:=(Zt h.1).2;rw [e,cP,bO];omega
def kI (d:D):1<=num d:=by rw [YA];omega
def Jx (d:D):1<=bz d:=by rw [Uq];omega
mutual
theorem QG: ∀d:D,(bv d).length=num d
 | .ak (x::r)=>by simp [bv,num,iW r];omega
 | .ak []=>by simp [bv,num]
 | .aU=>by simp [bv,num]
 | .bl _=>by simp [bv,num]
 | .int _=>by simp [bv,num]
 | .str _=>by simp [bv,num]
 | .ai _=>by simp [bv,num]
 | .ei _=>by simp [bv,num]
 | .aP _ _=>by simp [bv,num]
 | .bV _ _=>by simp [bv,num]
 | .gm _=>by simp [bv,num]
 | .gL _ _=>by simp [bv,num]
 | .gM _ _=>by simp [bv,num]
 | .obj _ _ _=>by simp [bv,num]
 | .mem _ _=>by simp [bv,num]
 | .cZ _=>by simp [bv,num]
theorem iW: ∀a:List D,(cX a).length=nums a
 | []=>rfl
 |d::r=>by simp [cX,nums,QG d,iW r]
end
mutual
theorem vL: ∀d:D,cn d=true->bt (bv d)=true
 | .ak (x::r),h=>by
  have a:=(Zt h).1;simp only [bx] at a;simp only [bv,bt,dD];exact ⟨h,gP r a⟩
 | .ak [],h=>rfl
 | .aU,h=>rfl
 | .bl _,h=>rfl
 | .int _,h=>rfl
 | .str _,h=>rfl
 | .ai _,h=>rfl
 | .ei _,h=>by simp [cn] at h
 | .aP _ _,h=>rfl
 | .bV _ _,h=>rfl
 | .gm _,h=>by simp [cn] at h
 | .gL _ _,h=>by simp [cn] at h
 | .gM _ _,h=>by simp [cn] at h
 | .obj _ _ _,h=>by simp [cn] at h
 | .mem _ _,h=>by simp [cn] at h
 | .cZ _,h=>by simp [cn] at h
theorem gP: ∀a:List D,bt a=true->bt (cX a)=true
 | [],_=>rfl
 |d::r,h=>by
  simp only [bt,dD] at h;refine WR λe he=>?_
  rcases j0.mp (show e∈bv d++cX r from he) with he|he
  . exact ym (vL d h.1) he
  . exact ym (gP r h.2) he
end
def cc {a:Type} {xs:List a} {k:Nat}:fX xs (k:Int)=xs[k]?:=by
 unfold fX lQ
 by_cases h:k<xs.length
 . rw [if_pos (by omega),if_pos (by omega)];simp
 . rw [if_pos (by omega),if_neg (by omega)];simp;omega
def fu {x:D} {r:List D}:aG (.ak (x::r)) (.int 0)= .ok x:=by
 have:=cc (xs:=x::r) (k:=0);simp only [aG];rw [show ((0:Int))=((0:Nat):Int) from rfl,this];rfl
section
variable {env env':Sl} {f f1 f2 f3:T4} {g U g2:T2} {t t1 Q:T3} {Y:T1} {i:Nat} {d x y z:D} {b:Bool} {ds:List D}
def jh (a:f1 env= .ok x) (c:f2 env= .ok y) (e:h x y= .ok z):al f1 f2 h env= .ok z:=by rw [Ux,a,qy,c,qy,e]
def jA (h:f env= .ok d):jr i f env= .ok (.nx (env.set i (.ah d))):=by rw [yJ,h];rfl
def Qt (h:f env= .ok d):b8 i f env= .ok (.nx (env.set i (Qs d))):=by rw [Rp,h];rfl
def qm (h:f env= .ok d):aJ f env= .ok (.rt true d):=by rw [XT,h];rfl
def yz (h:f env= .ok d):retS f env= .ok (.rt false d):=by rw [HR,h];rfl
def jj (h:U env= .ok (.nx env')):ap U g2 env=g2 env':=by rw [yn,h];rfl
def xJ (h:U env= .ok (.rt a d)):ap U g2 env= .ok (.rt a d):=by rw [yn,h];rfl
def cu (h:t env= .ok true):bu t U g2 env=U env:=by rw [YL,h];rfl
def dG (h:t env= .ok false):bu t U g2 env=g2 env:=by rw [YL,h];rfl
def jc (a:f env= .ok d) (c:Y env= .ok ds):jb f Y env= .ok (d::ds):=by rw [yK,a,qy,c];rfl
def qC (a:Y env= .ok ds) (c:h ds= .ok d):app Y h env= .ok d:=by rw [Uz,a,qy,c]
def jn (a:Y env= .ok ds) (c:ds.length=n) (e:F ds= .ok d):jk n F Y env= .ok d:=by rw [ur,a,qy,jl c,e]
def zJ (a:Y env= .ok ds) (c:ds.length<=aS):aN Y env= .ok (.ak ds):=by rw [HV,a,qy,jl c]
def Ua (a:Y env= .ok ds) (c:ds.length<=aS):ci Y env= .ok (.ai ds):=by rw [Rt,a,qy,jl c]
def jC (h:f env= .ok (.bl b)):aO f env= .ok b:=by rw [ut,h];rfl
def Kg (a:t1 env= .ok b) (c:Q env= .ok b2):fq t1 Q env= .ok (b||b2):=by rw [DZ,a,qy,c];cases b<;>rfl
def YT (a:t1 env= .ok b) (c:Q env= .ok e):ek t1 Q env= .ok (b&&e):=by rw [Rq,a,qy,c];cases b<;>rfl
def zc (a:t1 env= .ok b):a6 t1 env= .ok (!b):=by rw [kU,a];rfl
def ZE (a:dw i env= .ok ds) (c:f env= .ok d) (e:ds.length<aS):jY i f env= .ok (.nx (env.set i (.aw (.ai (ds++[d]))))):=by
 show (dw i env>>=_)=_;rw [a];rw [c];exact jl e
def wz (a:f env= .ok x) (c:e env= .ok lo) (j:l env= .ok m) (n:h x lo m= .ok z):qp f e l h env= .ok z:=by
 rw [Rv,a,qy,c,qy,j,qy,n]
def wy (h:f env= .ok (.int j)):zI f env= .ok (some j):=by rw [Rw,h];rfl
def wH (h:a env= .ok ds):ca a c g env=a5 (qG c g) ds env:=by rw [kX,h];rfl
def y9 (h:f env= .ok d) (a:sM d= .ok ds):b9 f env= .ok ds:=by rw [D1,h,qy,a]
def RF (h:f env= .ok d) (a:d.j2=true):v3 f env= .ok d:=by
 show (f env>>=_)=_;rw [h];exact jl a
def RG (a:f env= .ok (.str c)) (e:Y env= .ok ds) (j:h c ds= .ok d):Bi f Y h env= .ok d:=by
 show (f env>>=_)=_;rw [a];rw [e];exact j
end
def D5 {C:Int->Int->Prop} [∀i j,Decidable (C i j)] {g:Int->Int->D} {i j:Int} (h:C i j):eV C g (.int i) (.int j)= .ok (g i j):=if_pos h
def HX (h:rF i j):fJ (.int i) (.int j)= .ok (.int (i^j.toNat)):=D5 h
def D6 (h:mo i j):f6 (.int i) (.int j)= .ok (.int (i*j)):=D5 h
def YB (h:0<j):bf (.int i) (.int j)= .ok (.int (i%j)):=D5 h
def qU (h:t d a= .ok env'):qG t g d a=g env':=by
 show (t d a>>=g)=_;rw [h];rfl
def qQ (h:g (j4 n a)= .ok (.rt true d)):aD c n g a= .ok d:=by rw [JJ h];simp [runK]
def Xa (h:g (j4 n a)= .ok (.rt false d)):aD false n g a= .ok d:=by rw [JJ h];simp [runK]
def HY (h:c a= .ok [.int j]) (d: -(2^62)<=j/\j<2^62):iO c a= .ok (zX 0 j.toNat):=by
 show (c a>>=rh)=_;rw [h];exact jl d
def HZ (h:c a= .ok [.int i,.int j]) (d:(-(2^62)<=i/\i<2^62)/\ -(2^62)<=j/\j<2^62):kl c a= .ok (zX i (j-i).toNat):=by
 show (c a>>=rj)=_;rw [h];exact jl d
def X3 (c:a.isEmpty=false) (d:a.length+b.length<=aS):aX (.ak a) (.ak b)= .ok (.ak (a++b)):=jl ⟨c,d⟩
def Ia (c:a.length+b.length<=aS):aX (.ai a) (.ai b)= .ok (.ai (a++b)):=jl c
def JK:ce (.int a) (.int b)= .ok (.bl (a==b)):=by
 unfold ce;rw [jl (by left;simp [QO,D.dE])];simp [kZ]
theorem WQ (I:List D->Sl->Prop)
  (i: ∀d e a,I (d::e) a-> ∃c,body d a= .ok (.nx c)/\I e c): ∀(e:List D) (a:Sl),I e a-> ∃c,a5 body e a= .ok (.nx c)/\I [] c
 | [],a,h=>⟨a,rfl,h⟩
 |d::e,a,h=>by
  obtain ⟨e1,j,l⟩:=i d e a h;obtain ⟨e2,m,n⟩:=WQ I i e e1 l;exact ⟨e2,by rw [qf j,m],n⟩
def RH (lo:Int):zX lo 0=[]:=rfl
def Z9 (lo:Int) (n:Nat):zX lo (n+1)= .int lo::zX (lo+1) n:=by
 unfold zX;rw [List.range_succ_eq_map,cL,mR];congr 1
 . simp
 . apply D7;intro i _;simp only [Function.comp_apply];congr 1;omega
def RI (h:d∈zX lo n): ∃k:Int,d= .int k/\lo<=k/\k<lo+n:=by
 unfold zX at h;obtain ⟨i,a,e⟩:=gO.mp h;have:=n9.mp a;exact ⟨_,e.symm,by omega,by omega⟩
def Uj (lo:Int) (n:Nat):(zX lo n).length=n:=by simp [zX]
def RJ {c:Type} {xs:List c} {i:Int} (d:0<=i) (e:i<xs.length): ∃x,fX xs i=some x/\x∈xs:=by
 obtain ⟨k,rfl⟩:=Int.eq_ofNat_of_zero_le d;have a:k<xs.length:=by omega
 exact ⟨xs[k],by rw [M.cc];exact cU a,nY a⟩
open Builtin.Int (intBits)
def gx (f:T4) (a:Sl) (B:Nat):Prop:= ∃m:Int,f a= .ok (.int m)/\intBits m<=B
def RK (d:gx e c a) (h:gx i c b):gx (al e i aX) c (max a b+1):=by
 obtain ⟨m,e1,j⟩:=d;obtain ⟨n,e2,l⟩:=h;exact ⟨m+n,jh e1 e2 rfl,intBits_add_le j l⟩
def kJ (i:gx j c a) (l:gx o c b) (h:a+b<=134217728):gx (al j o f6) c (a+b):=by
 obtain ⟨m,e1,d⟩:=i;obtain ⟨n,e2,e⟩:=l;exact ⟨m*n,jh e1 e2 (D6 (cY (Nat.add_le_add d e) h)),intBits_mul_le d e⟩
def kH {k:Nat} (c:intBits i<=a) (h:k<=1000000) (d:i.natAbs<2^64):gx (al (cI i) (cI (k:Int)) fJ) e (a*k+1):=
 ⟨i^((k:Int)).toNat,jh rfl rfl (HX ⟨by omega,by omega,d⟩),by rw [lP];exact intBits_pow_le c k⟩
def RL (a:intBits j<=B):gx (cI j) c B:=⟨j,rfl,a⟩
def RM (h:ae i a= .ok (.int m)) (c:intBits m<=B):gx (ae i) a B:=⟨m,h,c⟩
def D8 (r:mj false a j=c) (h:D->D) (P:D->Prop) (u:o a= .ok i) (p: ∀d∈i,P d) (v:i.length<=aS)
  (q: ∀d m,P d->l [.ah d,c,.aw (.ai m)]= .ok (h d)):qv false 1 [j] o (gN 0) qi l a= .ok (.ai (i.map h)):=by
 show (o a>>=_)=_;rw [u];show (xa 2 (gN 0) qi l i [.un,mj false a j,.aw (.ai [])]>>=_)=_;rw [r]
 cases i with
 |nil=>rfl
 |cons d i=>
  simp at v;obtain ⟨y,w⟩:=XZ (n:=2) (t:=gN 0) h P (λ_ _=>rfl) (λ_ _ _=>rfl) (λ_ _ _=>rfl) q i d [h d] (λe z=>p e (by simp [z])) (by simp;omega)
  have B:xa 2 (gN 0) qi l (d::i) [.un,c,.aw (.ai [])]=xa 2 (gN 0) qi l i [.ah d,c,.aw (.ai [h d])]:=by
   show (l [.ah d,c,.aw (.ai [])]>>=_)=_;rw [q d [] (p d (by simp))];exact jl (c:=([]:List D).length<aS) (by simp;omega)
  rw [B,w];rfl
theorem Ib: ∀ {ds:List D},(∀d∈ds,bz d<=k)->bi ds<=k
 | [],_=>by simp [bi]
 |d::ds,h=>by
  simp only [bi];have:=h d (by simp);have:=Ib (ds:=ds) λe a=>h e (by simp [a])
  omega
theorem qJ: ∀ {a:List D} {d:D},d∈a->bz d<=bi a
 |x::r,d,h=>by
  simp only [bi];rcases bJ.mp h with rfl|h
  . omega
  . have:=qJ h;omega
end M
namespace M
open PySem PySem.Spec L2
open PyProof.Rows hiding St
def eX:D->Option aQ
 | .int i=>some (.inl i)
 | .str x=>some (.inr x)
 |_=>none
def ez (a:List aQ) (k:aQ):Bool:=a.any λx=>decide (x=k)
def bB (a:List aQ) (c:List D) (k:aQ):Option D:=((a.zip c).find? λp=>decide (p.1=k)).map (·.2)
def QE (a:List aQ) (k:aQ):List aQ:=if ez a k=true then a else a++[k]
def QF (a:List aQ) (c:List D) (k:aQ) (d:D):List D:=if ez a k=true then (a.zip c).map (λp=>if p.1=k then d else p.2) else c++[d]
section
variable {K:aC} {A:WZ} {H:Hp}
def Jv (r:aL K A H y d) (h:eX d=some k):y=kV k:=by
 cases d<;>cases h
 . exact r.f
 . exact r.f.1
theorem ZW: ∀ {a:List (aQ×V)} {i:List D} (k:aQ),au K A H (a.map (·.2)) i->(∀d,bB (a.map (·.1)) i k=some d-> ∃v,bX a k=some v/\aL K A H v d)/\(bB (a.map (·.1)) i k=none->bX a k=none)
 | [],i,k,r=>⟨λd h=>by simp [bB] at h,λ_=>rfl⟩
 | (c,v)::a,i,k,r=>by
  . obtain ⟨j,e,rfl,m,r2⟩:=r.cH;have n:=ZW k r2
    by_cases l:c=k
    . subst l;have e1:bB ((((c,v)::a)).map (·.1)) (j::e) c=some j:=by simp [bB]
      have e2:bX ((c,v)::a) c=some v:=by simp [bX]
      rw [e1,e2];exact ⟨λd h=>by cases h;exact ⟨v,rfl,m⟩,λh=>by cases h⟩
    . have e1:bB ((((c,v)::a)).map (·.1)) (j::e) k=bB (a.map (·.1)) e k:=by simp [bB,l]
      have e2:bX ((c,v)::a) k=bX a k:=by simp [bX,l]
      rw [e1,e2];exact n
def Ie (a:List (aQ×V)) (k:aQ):(a.any λc=>decide (c.1=k))=ez (a.map (·.1)) k:=by
 unfold ez;rw [List.any_map];rfl
theorem vF (k:aQ) (h:aL K A H v d): ∀ {a:List (aQ×V)} {i:List D},au K A H (a.map (·.2)) i->au K A H ((a.map (λc=>if c.1=k then (c.1,v) else c)).map (·.2)) (((a.map (·.1)).zip i).map (λp=>if p.1=k then d else p.2))
 | [],_,r=>by cases r.eU;exact .nil
 | (l,n)::a,_,r=>by
  obtain ⟨_,_,rfl,m,r2⟩:=r.cH;have j:=vF k h r2
  by_cases e:l=k
  . simp only [cL,sQ,e,if_true];exact .cons h (by simpa [e] using j)
  . simp only [cL,sQ,e,if_false];exact .cons m j
def RN (k:aQ) (r:au K A H (a.map (·.2)) e) (c:aL K A H v d):
   (putK a k v).map (·.1)=QE (a.map (·.1)) k/\au K A H ((putK a k v).map (·.2)) (QF (a.map (·.1)) e k d):=by
 unfold putK QE QF;rw [Ie]
 by_cases h:ez (a.map (·.1)) k=true
 . rw [if_pos h,if_pos h,if_pos h];refine ⟨?_,vF k c r⟩;rw [mR];apply D7;intro p _;simp
   split<;>rfl
 . rw [if_neg h,if_neg h,if_neg h];refine ⟨by simp,?_⟩;rw [rH];exact r.append (.cons c .nil)
def aL.oH (r:aL K A H v (.aP e h)): ∃a d,v= .ref a/\H a=some (.dK d)/\A a/\d.map (·.1)=e/\au K (λc=>A c/\c≠a) H (d.map (·.2)) h:=r.f
end
def WK {K:aC} {i:Nat} (k:ay K G u d h H) (j:d[i]?=some (.aw (.aP l m))): ∃a c,h[i]?=some (some (.ref a))/\H a=some (.dK c)/\c.map (·.1)=l/\au K (Sf G d h) H (c.map (·.2)) m:=by
 obtain ⟨a,n,v,o⟩:=k.aw i _ j
 cases o with
 |aP e p q r=>subst q;exact ⟨a,_,n,e,p,r⟩
def lq (i:Nat) (a:Sl):ao (List aQ×List D):=match a[i]? with
 |some (.aw (.aP c d))=> .ok (c,d)
 |_=> .aj
def Ze (h:lq i a= .ok p):a[i]?=some (.aw (.aP p.1 p.2)):=by
 unfold lq at h
 split at h
 . cases h;assumption
 . cases h
def ay.putD {K:aC} (k:ay K G m env h H) (n:env[i]?=some (.aw (.aP j l))) (o:h[i]?=some (some (.ref a))) (p:H a=some (.dK c)) (q:c.map (·.1)=j)
  (r:au K (Sf G env h) H (c.map (·.2)) l) (u:aL K (Sf G env h) H v d):ay K G m (env.set i (.aw (.aP (QE j kk) (QF j l kk d)))) h (aR H a (.dK (putK c kk v)))/\be env h H (env.set i (.aw (.aP (QE j kk) (QF j l kk d)))) h (aR H a (.dK (putK c kk v))):=by
 subst q;obtain ⟨y,z⟩:=RN kk r u;exact k.ia n o p trivial λB E st e w=> .aP e y rfl (z.a9 st w)
section
variable {X:Cx} {K:aC}
def ij:D->D->ao D
 | .aP a c,e=>match eX e with
  |some k=>match bB a c k with
   |some d=> .ok d
   |none=> .aj
  |none=> .aj
 |_,_=> .aj
def Ig:R2:=λx y H Q=> ∃a c k v,x= .ref a/\y=kV k/\H a=some (.dK c)/\bX c k=some v/\Q v H
def Ih (i:X.A.units+1<cLine):nV X Ig:=by
 intro value c e s w H x y v u Q I j l h m;obtain ⟨a,n,k,z,rfl,rfl,o,p,q⟩:=h;obtain rfl:v=di a:=j;have g:fG H a (kV k) (some z):=by rw [<-p];exact fG.k o
 exact tail_any (vf I g) PySem.F.slot_dict_getitem.lookup (OP i I g l λB E r d=>⟨z,H,r,d,q⟩) m
def Ii (e:aL K A H x a) (i:aL K Any H y b) (h:ij a b= .ok d) (q: ∀v,aL K A H v d->Q v H):Ig x y H Q:=by
 unfold ij at h
 split at h
 . split at h
   . rename_i k j
     split at h
     . rename_i p l;cases h;obtain ⟨a,c,rfl,m,_,rfl,r⟩:=e.oH;obtain ⟨v,n,o⟩:=(ZW k r.low).1 _ l;exact ⟨a,c,k,v,rfl,Jv i j,m,n,q v o⟩
     . cases h
   . cases h
 . cases h
variable {a b:Expr} {O Y:T4} {N:Lv} {U p:Pos}
def RO (l:X.A.units+1<cLine) (m:DE X .s a O) (n:DE X N b Y) (o:X4 b:=by intro _ _;rfl):DE X .s (.Subscript a b U) (al O Y ij):=by
 with_unfolding_all exact (
  PE.imp (AW (Ih l) m n o) λE H Q=>by
   rintro ⟨G,h,c,d,k,e,q⟩;obtain ⟨r,e1,e⟩:=jd e;obtain ⟨u,e2,w⟩:=jd e;refine ⟨G,h,c,r,k,e1,λx I i z _=>⟨G,h,c,u,k.am i,e2,λy B j r2 _=>?_⟩⟩
   exact Ii (z.am j) (r2.aH Lv.aZ) w λv r3=>q v B (i.trans j) r3 trivial)
def RP (J:X.A.units+1<cLine) (i:Nat) {x:Str} (L:DE X N b Y) (hN:X.N[i]?=some x:=by rfl) (hv:fL X.env.scope x:=by exact du rfl)
   (hd:Y6 x:=by decide) (j:Y5 x:=by decide) (hs:X4 b:=by intro _ _;rfl):DE X .s (.Subscript (.Name x p) b U) (al (cy i) Y ij):=by
 with_unfolding_all exact (
  PE.imp (AW (Ih J) (wE hN hv hd j) L hs) λσ H Q=>by
   rintro ⟨G,B,h,d,k,l,q⟩;obtain ⟨a',e1,l⟩:=jd l;obtain ⟨E,e2,c⟩:=jd l;rcases Kb e1 with z|z
   . obtain ⟨v,m,h2⟩:=k.ah i a' z;exact ⟨v,m,G,B,h,E,k,e2,λy n e r2 _=>Ii (h2.am e) (r2.aH Lv.aZ) c λv r3=>q v n e r3 trivial⟩
   . unfold ij at c
     split at c
     . obtain ⟨aa,o,m,hx,hk,r⟩:=WK k z;refine ⟨_,m,G,B,h,E,k,e2,λy n e r2 _=>?_⟩
       split at c
       . rename_i I u
         split at c
         . rename_i d' w;cases c;subst hk;obtain ⟨v,g1,g2⟩:=(ZW I r).1 _ w;exact ⟨aa,o,I,v,rfl,Jv (r2.aH Lv.aZ) u,e _ _ hx,g1,q v n e (g2.am e) trivial⟩
         . cases c
       . cases c
     . cases c)
def rJ (neg:Bool):R2:=λx y H Q=> ∃a c k,y= .ref a/\x=kV k/\H a=some (.dK c)/\Q (.bl (if neg then !(bX c k).isSome else (bX c k).isSome)) H
def RQ (d:X.A.units+1<cLine):cp X (eR .In) (rJ false):=by
 intro c s n H x y v u Q I e i h;obtain ⟨a,j,k,rfl,rfl,l,q⟩:=h;obtain rfl:u=di a:=i;exact Dc d I (fG.k l) e λo m=>⟨.bl _,H,m,rfl,q⟩
def RR (d:X.A.units+1<cLine):cp X (eR .NotIn) (rJ true):=by
 intro c s n H x y v u Q I e i h;obtain ⟨a,j,k,rfl,rfl,l,q⟩:=h;obtain rfl:u=di a:=i;exact OQ d I (fG.k l) e λo m=>⟨.bl _,H,m,rfl,q⟩
def sR (neg:Bool):D->D->ao D
 |kd,.aP c _=>match eX kd with
  |some k=> .ok (.bl (if neg then !ez c k else ez c k))
  |none=> .aj
 |_,_=> .aj
def Ij (neg:Bool):ej K (rJ neg) (sR neg):=by
 intro x y H a b d Q h i e q;unfold sR at e
 split at e
 . split at e
   . rename_i k j;cases e;obtain ⟨p,c,rfl,l,_,rfl,r⟩:=i.oH;refine ⟨p,c,k,rfl,Jv h j,l,?_⟩;rw [<-YW,Ie];exact q _ (iM _)
   . cases e
 . cases e
def RS:V->List V->Hp->VK->Prop:=λx d H Q=> ∃a c k z,x= .ref a/\d=[kV k,z]/\H a=some (.dK c)/\Q ((bX c k).getD z) H
def RT (j:X.A.units+1<cLine):mJ X "dict.get" RS:=by
 intro i s E H x J v l Q I m n h;obtain ⟨a,o,k,z,rfl,rfl,r,q⟩:=h;obtain rfl:v=di a:=m
 obtain ⟨c,d,rfl,u,r2⟩: ∃c d,l=[c,d]/\aK (kV k) c/\aK z d:=by
  cases n with
  |cons w t=>cases t with|cons y t=>cases t;exact ⟨_,_,rfl,w,y⟩
 exact O2 j I (fG.k r) u r2 λL s' B e=>⟨_,H,B,e,q⟩
def yF:D->List D->ao D
 | .aP c d,[e,z]=>match eX e with
  |some k=> .ok ((bB c d k).getD z)
  |none=> .aj
 |_,_=> .aj
def Ik (f O Y:T4):Sl->ao D:=λc=>f c>>=λa=>O c>>=λd=>Y c>>=λz=>yF a [d,z]
def RU {i c:Pos} (hu:X.A.units+1<cLine) (ho:DE X .s o f) (h1:DE X l1 e1 fk) (h2:DE X .s e2 fz)
   (j:l7 o "get" X.env (eval o X.env)=eval o X.env:=by rfl)
   (E:((dA c (bg [e1,e2] X.env)).all (λx=>!x.1)&&(fV c (fW [] X.env)).all (λx=>x.1.isSome)
    &&decide ([e1,e2].length+([]:List fO).length+(if ([]:List fO).isEmpty then 0 else 1)<30))=true:=by exact xt rfl rfl)
   (l:(i.endLine==c.line)=true:=by rfl) (hs:bg [e1,e2] X.env=(false,eval e1 X.env)::bg [e2] X.env:=by exact jm rfl) (h:(dA c (bg [e2] X.env)).any (·.1)=false:=by exact jF rfl)
   (yG:bg [e2] X.env=(false,eval e2 X.env)::bg [] X.env:=by exact jm rfl):
   DE X .s (.Call (.Attribute o "get" i) [e1,e2] [] c) (Ik f fk fz):=by
 with_unfolding_all exact (
  PE.imp (kr PySem.F.plainAttrs_dict Df PySem.F.type_dict_get (RT hu) ho (j8 h1 (j8 h2 wF yG) hs) j E l hs h) λσ H Q=>by
   rintro ⟨G,H0,m,d,k,I,q⟩;obtain ⟨a',e1,I⟩:=jd I;obtain ⟨kd,e2,I⟩:=jd I;obtain ⟨z,e3,n⟩:=jd I
   cases a' with
   |aP ks ds=>
    unfold yF at n;dsimp only at n
    cases u:eX kd with
    |none=>rw [u] at n;cases n
    |some L=>
     rw [u] at n;cases n;refine ⟨G,H0,m,_,k,e1,λx H1 s1 r1 _=>?_⟩;obtain ⟨p,B,rfl,hp,_,rfl,r⟩:=r1.oH;refine ⟨.inr (.inr (.inl ⟨rfl,.inl ⟨B,hp⟩⟩)),G,H0,m,_,k.am s1,e2,λy H2 J r2 _=>⟨G,H0,m,_,(k.am s1).am J,e3,λw H3 s3 r3 _=>?_⟩⟩;have RV:=s3 _ _ (J _ _ hp);refine ⟨p,B,L,w,rfl,by rw [Jv (r2.aH Lv.aZ) u],RV,?_⟩;have rr:=((r.low.am J).am s3)
     cases e:bB (B.map (·.1)) ds L with
     |none=>
      rw [(ZW L rr).2 e];exact q _ H3 ((s1.trans J).trans s3) (by rw [e];exact r3) trivial
     |some d'=>
      obtain ⟨v,g1,g2⟩:=(ZW L rr).1 _ e;rw [g1];exact q _ H3 ((s1.trans J).trans s3) (by rw [e];exact g2) trivial
   |_=>cases n)
end
section
variable {X:Cx} {K:aC} {m l2:Lv} {e1 e2:Expr} {B n:T4} {J cj L p:Pos} {x:Str}
def yH (i:Nat) (B n:T4):Sl->ao aW:=λa=>lq i a>>=λq=>n a>>=λd=>B a>>=λc=>match eX c with
 |some k=>aV (q.1.length<aS) (.ok (.nx (a.set i (.aw (.aP (QE q.1 k) (QF q.1 q.2 k d))))))
 |none=> .aj
def RW (i:Nat) (hu:X.A.units+1<cLine) (hk:DE X m e1 B) (hv:DE X .s e2 n) (hN:X.N[i]?=some x:=by rfl) (z:fL X.env.scope x:=by exact du rfl)
   (hd:Y6 x:=by decide) (I:Y5 x:=by decide)
   (hs:g8 e2 (some (.Subscript (.Name x p) e1 L)) J.line X.env=pure false:=by rfl):
   DS X (.Assign [.Subscript (.Name x p) e1 L] e2 J) (yH i B n):=by
 with_unfolding_all exact (
  PS.imp (kn hu (wE hN z hd I) hk hv hs) λE σ H=>by
   rintro ⟨G,O,e,o,k,h,q⟩;obtain ⟨ks,c1,h⟩:=jd h;obtain ⟨d,c2,h⟩:=jd h;obtain ⟨Q,c3,w⟩:=jd h;have U:=Ze c1;obtain ⟨a,N,Y,hx,j,rs⟩:=WK k U
   cases c:eX Q with
   |none=>rw [c] at w;cases w
   |some kk=>
    rw [c] at w;obtain ⟨hz,c5⟩:=ju w;cases c5;refine ⟨G,O,e,d,k,c2,λv H1 l r1 _=>⟨.ref a,Y,G,O,e,Q,k.am l,c3,λy H2 r r2 _=>?_⟩⟩;have u:=r _ _ (l _ _ hx);have hy:=Jv (r2.aH Lv.aZ) c;subst hy;have hl:N.length<aS:=by rw [<-j,dc] at hz;exact hz
    refine ⟨a,_,rfl,hX.k u hl,?_⟩;have W:=((k.am l).am r).putD (kk:=kk) U Y u j ((rs.am l).am r) (r1.am r)
    exact q σ _ W.1 ((W.2.am r).am l))
def RX:V->List V->Hp->VK->Prop:=λx d H Q=> ∃a c k z,x= .ref a/\d=[kV k,z]/\H a=some (.dK c)/\c.length<aS/\(∀v,bX c k=some v->Q v H)/\(bX c k=none->Q z (aR H a (.dK (putK c k z))))
def RY:mJ X "dict.setdefault" RX:=by
 intro E s σ H x xs v Y Q I rx rs h;obtain ⟨a,d,k,z,rfl,rfl,N,hl,q1,q2⟩:=h;obtain rfl:v=di a:=rx
 obtain ⟨o,l,rfl,r1,r2⟩: ∃o l,Y=[o,l]/\aK (kV k) o/\aK z l:=by
   cases rs with
   |cons h1 t=>cases t with|cons h2 t=>cases t;exact ⟨_,_,rfl,h1,h2⟩
 obtain ⟨hz,O,U,e,dd⟩:=AZ I.aY N;have r:U.length<=aS:=by rw [<-e.length];exact hz
 have u:(putK d k z).length<=aS:=by have:=yA d k z;omega
 refine call_meetsIn Il dd.typeIs PySem.F.entry_dict_setdefault (PySem.F.args_dict_setdefault_3 _ _ _) (kt_meets_setdefault (qw X.prog X.w) a (Uf r1) O l) ⟨U,dd,r,λw hw=>?_,λhn h' j hs=>?_⟩
 . have i:=e.val k;rw [hw] at i
   cases c:bX d k with
   |none=>rw [c] at i;exact i.elim
   |some y=>
    rw [c] at i;exact ⟨y,H,I.tok _,i,q1 y c⟩
 . have i:=e.val k;rw [hn] at i
   cases c:bX d k with
   |some y=>rw [c] at i;exact i.elim
   |none=>
    have he: ∃q,h'.get? a=some q:=let ⟨q,_,_,hq,_⟩:=j;⟨q,hq⟩
    exact ⟨z,_,KZ I (by rw [N];exact lN) hs he (Dd u O (e.put k r2) j),r2,q2 c⟩
def kD:aQ->D
 | .inl i=> .int i
 | .inr x=> .str x
theorem Im: ∀ {c:List (aQ×Value)} {a:List Value},a.length=c.length->(∀(j:Nat) (v:Value),a[j]?=some v-> ∃k x,c[j]?=some (k,x)/\(qw P w).is k v=true)->aI (c.map λq=>kV q.1) a
 | [],[],_,_=> .nil
 | [],_::_,h,_=>by simp at h
 |_::_,[],h,_=>by simp at h
 | (k,x)::c,v::a,h,d=>by
  obtain ⟨r,y,e,l⟩:=d 0 v rfl;simp at e;obtain ⟨rfl,rfl⟩:=e;refine .cons ?_ (Im (by simpa using h) λj u o=>d (j+1) u (by simpa using o))
  cases k with
  |inl i=>
   obtain ⟨t,rfl⟩:=Ce l;exact ⟨t,rfl⟩
  |inr z=>
   obtain ⟨t,rfl⟩:=Value.isStrOf_shape l;exact ⟨t,rfl⟩
def RZ (hc:X.bT=true):bK X (.type "list") (λE H Q=> ∃a c,E=[.ref a]/\H a=some (.dK c)/\ ∀l,H l=none->Q (.ref l) (aR H l (.ai (c.map λq=>kV q.1)))):=by
 intro N s σ H E us Q I r h;obtain ⟨a,c,rfl,ha,q⟩:=h;obtain ⟨u,rfl,rx⟩:=ZK r;cases rx;obtain ⟨O,hd,U,o,dd⟩:=AZ I.aY ha;have y:U.length<=aS:=by rw [<-o.length];exact O
 obtain ⟨ep,z⟩:=dd.dictAt;refine PySem.W.kdl_call (PySem.W.kdl_dict hd) (I.ok.hd hc) z y λh' tk w c' hk hS d=>?_
 have Y:=Im (by rw [o4];exact d.1) λj v e=>d.2 j v (by rw [<-Bl];exact e)
 have i:(U.map λq=>kV q.1)=(c.map λq=>kV q.1):=by
  have:=o.keys;have h2:=congrArg (List.map kV) this;simp at h2;exact h2.symm
 rw [i] at Y;refine ⟨.ref s.heap.objs.size,_,I.laid hk (br _) (show bn X.prog X.w _ h' _ (.ai (c.map λq=>kV q.1)) from ⟨by rw [dc];exact O,w.toList,c',Y,by rw [Array.toArray_toList];exact hS⟩),rfl,q _ (I.aY.fresh (br _))⟩
def Bm:List D->ao D
 | [.aP a _]=>aV ((a.all λk=>match k with| .inl _=>true| .inr _=>false)=true) (.ok (.ai (a.map kD)))
 |_=> .aj
def R0:Ve K (λE H Q=> ∃a c,E=[.ref a]/\H a=some (.dK c)/\ ∀l,H l=none->Q (.ref l) (aR H l (.ai (c.map λq=>kV q.1)))) Bm:=by
 intro A E H U d Q r e q;unfold Bm at e
 split at e
 . rename_i Y vs;obtain ⟨j,e2⟩:=ju e;cases e2;obtain ⟨v,rfl,I⟩:=r.one;obtain ⟨p,c,rfl,N,_,rfl,_⟩:=I.oH;refine ⟨p,c,rfl,N,λl w=>q _ _ (aq.aR w) (.ai jD (.inl w) ?_) (qH (aq.refl H) w)⟩
   have y: ∀(c:List (aQ×V)),((c.map (·.1)).all λk=>match k with| .inl _=>true| .inr _=>false)=true-> ∀(o:WZ) (u:Hp),au K o u (c.map λq=>kV q.1) ((c.map (·.1)).map kD):=by
    intro c
    induction c with
    |nil=>intro _ o u;exact .nil
    |cons q r O=>
     intro h o u;simp only [cL,v4,dD] at h;obtain ⟨k,v⟩:=q
     cases k with
     |inl i=>exact .cons (.int i) (O h.2 o u)
     |inr z=>cases h.1
   exact y c j _ _
 . cases e
end
section
variable {prog:bH} {w:World} {A:bQ} {E:Vt} {s:aM}
def R1:typeLookup (.type "list_reverseiterator") "__len__" =pure none:=by rw [typeLookup_type,builtinLookup_eq_fast];kernel_rfl
def R3:typeLookup (.type "list_reverseiterator") "__length_hint__" =pure (some (.builtin "list_reverseiterator.__length_hint__")):=by rw [typeLookup_type,builtinLookup_eq_fast];kernel_rfl
def R4 (c:s.TypeIs (.ref r) "list_reverseiterator") (h:Q false s):wpAny (model prog w) A (D9 (.ref r)) Q E s:=by
 unfold D9;refine az (wpAny_specialOf c R1 ?_);refine az (wpAny_specialOf c R3 ?_);generalize a:("list_reverseiterator.__length_hint__" :String)=d
 wp_delta
 rw [show splitId d=some ("list_reverseiterator", "__length_hint__") from by subst a;decide+kernel];subst a;refine az (yI (b:=true) c (by rw [isSubtype_type];kernel_rfl) ?_);exact ba h
def R5 {St:Nat->Heap->Prop} (W:Walks prog w A.in1.in1 I q O n P St)
  (U: ∀t:aM,St 0 t.heap->t.TypeIs (.ref I) "list_reverseiterator")
  (Y: ∀(t:aM) (R:Bool->aM->Prop) (F:Vt),St 0 t.heap->R false t->wpAny (model prog w) A.in1.in1 (D9 (.ref I)) R F t)
  (u:St 0 s.heap) (v: ∀b∈q,b<s.heap.objs.size) (hI:I∈q) (hn:n<=aS)
  (hQ: ∀y tk a c,(∀b o,b∉O->s.heap.get? b=some o->y.get? b=some o)->y.get? s.heap.objs.size=some {cls:= .type "list",dict:=none,data:= .seq a c,slots:= #[]}->ItemsOf P a n->Q (.ref s.heap.objs.size) {s with heap:=y,toks:=tk}):
  wpAny (model prog w) A (call (.type "list") [.ref I]) Q E s:=by
 have i:s.heap.objs.size∉q:=λh=>lZ _ (v _ h)
 have z:s.heap.objs.size≠I:=λh=>i (by rw [h];exact hI)
 refine callType_codes (Q₁:=λob t=>ob= .ref s.heap.objs.size/\t={s with heap:=s.heap.push {cls:= .type "list",data:= .seq #[]}}) PySem.F.called_list (PySem.F.typeCall_list_1 _) PySem.F.entry_list_init (code_list_new _ ⟨rfl,rfl⟩) ?_;rintro ob t ⟨rfl,rfl⟩;have p:(s.heap.push {cls:= .type "list",data:= .seq #[]}).get? s.heap.objs.size=some {cls:= .type "list",data:= .seq #[]}:=dn _ rfl;refine ⟨⟨_,p,rfl⟩,PySem.F.args_list_init_2 _ _,?_⟩;refine az ?_;unfold Builtin.List.listItems;refine az (oI p rfl (ba ?_));refine az (wpAny_updateSeq p rfl ?_);have a2:=AX (lg (λ_=>(#[]:Array Value))) p rfl;refine az (wpAny_letGo ?_)
 have j: ∀b o,s.heap.get? b=some o->((s.heap.push {cls:= .type "list",data:= .seq #[]}).update s.heap.objs.size (lg (λ_=>(#[]:Array Value)))).get? b=some o:=λb o e=>
  (sC _ _ (AK (b6 e))).trans (bW _ e)
 have d:=W.frame 0 _ _ u λb _ o e=>j b o e
 unfold Builtin.List.listExtendWith;refine az (wpAny_typeOf (U _ d) ?_);have b1:Io (.ref s.heap.objs.size) (.ref I)=false:=by simp [Io,z]
 have nl:(n8 "list_reverseiterator" ==n8 "list")=false:=by decide
 have nt:(n8 "list_reverseiterator" ==n8 "tuple")=false:=by decide
 simp only [b1,nl,nt,Bool.or_false,oJ,if_false]
 have B: ∀(h:Heap) (c tk:Nat),St 0 h->(∀b o,s.heap.get? b=some o->h.get? b=some o)->h.get? s.heap.objs.size=some {cls:= .type "list",data:= .seq #[] c}->
    om (model prog w) A.in1 (.builtin "list.extend.loop" ⟨[.ref s.heap.objs.size,.ref I,.none],[]⟩) (wants (λr t=>r=kb/\Q (.ref s.heap.objs.size) t) E) {s with heap:=h,toks:=tk}:=by
  intro h c tk hs hk hS;refine codeAny_extend_loopS W.toS hn _ i .none n 0 _ #[] c rfl (gl _) hs hS (ItemsOf.nil _) λL a c' N H l=>?_
  rw [Moved.eq_with N];refine ⟨rfl,hQ L.heap L.toks a c' (λb o hb e=>N.heap b o (λm=>?_) (hk b o e)) H l⟩;rcases bJ.mp m with e'|e'
  . exact lZ _ (by rw [e'] at e;exact b6 e)
  . exact hb e'
 refine az (W.self 0 {s with heap:=(s.heap.push {cls:= .type "list",data:= .seq #[]}).update s.heap.objs.size (lg (λ_=>(#[]:Array Value)))} _ _ d ?_);refine az (mI (Y {s with heap:=(s.heap.push {cls:= .type "list",data:= .seq #[]}).update s.heap.objs.size (lg (λ_=>(#[]:Array Value)))} _ _ d ?_));refine wpAny_ite_split (λJ=>absurd J (by decide)) (λ_=>ba ⟨plainId_quiet PySem.F.plain_extend_loop _,B _ _ _ d j a2⟩)
end
section
variable {X:Cx} {e:Expr} {te:TE} {p y j z:Pos}
def R6:jW "reversed" =some (.type "reversed"):=by decide+kernel
def R7:jW "list" =some (.type "list"):=by decide+kernel
def R8: ∀ {d:List V} {a c:List Value},aI d a->c.length=a.length->(∀i v,c[i]?=some v->a[a.length-1-i]?=some v)->aI d.reverse c:=by
 intro d a c r m h
 have:c=a.reverse:=by
  apply Ea;intro i
  by_cases l:i<c.length
  . rw [cU l,<-h i _ (cU l),List.getElem?_reverse (by omega)]
  . rw [mP (by omega),mP (by simp;omega)]
 rw [this];clear this h m
 induction r with
 |nil=>exact .nil
 |cons n t o=>
  rw [y8,y8];exact o.append (.cons n .nil)
def R9 (hc:X.bT=true) (Y:Gl X "list") (Eb:X.mg "list" =none) (Sa:Gl X "reversed") (Sb:X.mg "reversed" =none) (he:PE X e te)
   (s1:bg [.Call (.Name "reversed" y) [e] [] z] X.env=[(false,eval (.Call (.Name "reversed" y) [e] [] z) X.env)]) (s2:bg [e] X.env=[(false,eval e X.env)]):
   PE X (.Call (.Name "list" p) [.Call (.Name "reversed" y) [e] [] z] [] j) (λσ H Q=>te σ H λx L=> ∃a n,x= .ref a/\da X.K L a n/\ ∀l,L l=none->Q (.ref l) (aR L l (.ai n.reverse))):=by
 intro r s σ H Q I h;refine o9 (Ju I Y Eb R7 (oh ?_ (by rw [s1];rfl) rfl) (by decide) (by decide));rw [s1];refine AR (o9 (Ju I Sa Sb R6 (oh ?_ (by rw [s2];rfl) rfl) (by decide) (by decide)));rw [s2];refine AR (bc (he r s σ H _ I h) λu t ⟨x,L,N,r1,a,n,ex,hq,q⟩=>AQ ?_);subst ex;obtain rfl:u=di a:=r1;obtain ⟨d,rv,pl,hz⟩:=N.list hq;have hlen:=rv.length;have B:=let ⟨o,ho,_⟩:=pl.isList;b6 ho;refine call_reversed_list pl.isList (AQ ?_);have W:=Walks.listRev (prog:=X.prog) (w:=X.w) (A:=X.A.in1.in1) (by exact N.ok.hd hc) t.heap.objs.size a (eB B) d.toArray;have hit:(t.heap.push (revObj a ((d.toArray.size:Int)-1))).IsRevIter t.heap.objs.size a ((d.toArray.size:Int)-1-((0:Nat):Int)):=⟨_,dn _ rfl,rfl,by simp [revObj]⟩
 refine R5 W (λt' ht=>ht.2.1.typeIs) (λt' R F ht hR=>R4 ht.2.1.typeIs hR) ⟨gl _,hit,pl.isList.at λo O=>bW _ O⟩ (λb U=>?_) (by simp) (by rw [b7];omega) λh' tk E c hk hS m=>?_
 . simp at U;have rK:(t.heap.push (revObj a ((d.toArray.size:Int)-1))).objs.size=t.heap.objs.size+1:=size_push' _ _;rw [rK];rcases U with h|h
   . rw [h];exact tZ _
   . rw [h];exact Nat.lt_succ_of_lt B
 . have kp: ∀b o,t.heap.get? b=some o->h'.get? b=some o:=λb o O=>hk b o (λU=>by
     have:b=t.heap.objs.size:=by simpa using U
     exact lZ _ (this▸b6 O)) (bW _ O)
   have hv:aI n.reverse E.toList:=R8 rv (by rw [o4,m.1,b7]) λi v hi=>by
     have:=m.2 i v (by rw [<-Bl];exact hi);simpa using this
   have J:t.heap.objs.size<=(t.heap.push (revObj a ((d.toArray.size:Int)-1))).objs.size:=by rw [size_push'];omega
   refine ⟨.ref _,_,N.laid kp J (show bn X.prog X.w _ h' _ (.ai n.reverse) from ⟨by rw [Ec];omega,E.toList,c,hv,by rw [Array.toArray_toList];exact hS⟩),rfl,q _ (N.aY.fresh J)⟩
def rL (f:T4):Sl->ao D:=λa=>f a>>=λd=>match d with
 | .ai c=> .ok (.ai c.reverse)
 |_=> .aj
theorem au.rev {K:aC}: ∀ {a:List V} {c:List D},au K A H a c->au K A H a.reverse c.reverse
 |_,_,.nil=> .nil
 |_,_,.cons h t=>by
  rw [y8,y8];exact t.rev.append (.cons h .nil)
def YO (w:X.bT=true) (h:Gl X "list") (i:X.mg "list" =none) (m:Gl X "reversed") (n:X.mg "reversed" =none) (B:DE X .s e f)
   (E:bg [.Call (.Name "reversed" y) [e] [] z] X.env=[(false,eval (.Call (.Name "reversed" y) [e] [] z) X.env)]:=by rfl) (I:bg [e] X.env=[(false,eval e X.env)]:=by rfl):
   DE X .t (.Call (.Name "list" p) [.Call (.Name "reversed" y) [e] [] z] [] j) (rL f):=by
 with_unfolding_all exact (
  PE.imp (R9 w h i m n B E I) λY H Q=>by
   rintro ⟨G,J,o,d,k,L,q⟩;obtain ⟨v,e1,e2⟩:=jd L;refine ⟨G,J,o,v,k,e1,λx H1 u N _=>?_⟩
   cases v with
   |ai ds=>
    cases e2;obtain ⟨a,O,rfl,U,_,r⟩:=N.cC;refine ⟨a,O,rfl,.of U,λl c=>q _ _ (u.trans (aq.aR c)) (.ai jD (k.new _ (aq.free u c)) (r.low.rev.laid c)) (qH u c)⟩
   |_=>cases e2)
end
section
variable {X:Cx} {tg a b c:Expr} {ta:TA} {p pos:Pos}
def au.three {K:aC} (r:au K A H m [d,n,i]): ∃v j e,m=[v,j,e]/\aL K A H v d/\aL K A H j n/\aL K A H e i:=by
 cases r with
 |cons h t=>
  obtain ⟨j,e,rfl,o,l⟩:=t.al;exact ⟨_,_,_,rfl,h,o,l⟩
def VZ:Sl->ao aW:=λ_=> .aj
def Zz:gn X d VZ:=by
 with_unfolding_all exact (dk.imp NF λE i H=>by rintro ⟨G,j,e,o,k,h,q⟩;cases h)
end
end M
namespace M
open PySem PySem.W PyProof.Rows
def Wk {c:Type} (lt:Nat->Nat->Bool) (n:Nat) (R:c->Prop):KasT c->Prop
 | .ret a=>R a
 | .ask i j k=>i<n/\j<n/\Wk lt n R (k (lt i j))
theorem Wk.bind {c d:Type} {R:c->Prop} {e:d->Prop} {f:c->KasT d} (l: ∀a,R a->Wk lt n e (f a)): ∀ {t:KasT c},Wk lt n R t->Wk lt n e (t.bind f)
 | .ret a,h=>l a h
 | .ask i j k,h=>⟨h.1,h.2.1,Wk.bind l h.2.2⟩
theorem Wk.imp {c:Type} {R d:c->Prop} (hr: ∀a,R a->d a): ∀ {t:KasT c},Wk lt n R t->Wk lt n d t
 | .ret a,h=>hr a h
 | .ask i j k,h=>⟨h.1,h.2.1,Wk.imp hr h.2.2⟩
theorem Ip {d:Type} {R:d->Prop} {Q:d->aM->Prop} {P:aM->Prop}
  (o: ∀i j C s,i<n->j<n->P s->(∀c,P c->C (lt i j) c)->e i j C s) (p: ∀a s,R a->P s->Q a s): ∀(t:KasT d) (s:aM),Wk lt n R t->P s->t.kasWp e Q s
 | .ret a,s,h,l=>p a s h l
 | .ask i j k,s,h,l=>o i j _ s h.1 h.2.1 l λc m=>Ip o p _ c h.2.2 m
structure Ord (lt:Nat->Nat->Bool) (n:Nat):Prop where
 Ed: ∀i j,lt i j=true->lt j i=false
 trans: ∀i j k,i<n->j<n->k<n->lt i j=true->lt j k=true->lt i k=true
 total: ∀i j,i<n->j<n->i≠j->lt i j=true\/lt j i=true
abbrev cA (p:Array Nat) (i:Nat):Nat:=p.getD i 0
structure Pm (p:Array Nat) (n:Nat):Prop where
 size:p.size=n
 perm:p.toList.Perm (ke n)
def QV (h:i<p.size):p[i]?=some (cA p i):=by
 rw [Array.getElem?_eq_getElem h];simp [cA,sS,h]
def Pm.lt (h:Pm p n) (c:i<n):cA p i<n:=by
 have a:i<p.size:=by rw [h.size];exact c
 have:cA p i∈p.toList:=by simp [cA,sS,a]
 exact n9.mp (h.perm.mem_iff.mp this)
def Pm.ne (h:Pm p n) (l:i<n) (m:j<n) (d:i≠j):cA p i≠cA p j:=by
 have nd:=h.perm.nodup_iff.mpr List.nodup_range;have a:i<p.toList.length:=by simp [h.size,l]
 have c:j<p.toList.length:=by simp [h.size,m]
 intro e;have e1:cA p i=p.toList[i]:=by simp [cA,sS,h.size,l]
 have e2:cA p j=p.toList[j]:=by simp [cA,sS,h.size,m]
 rw [e1,e2] at e;have o:=Ee.mp nd;rcases Nat.lt_or_gt_of_ne d with z|z
 . exact o i j a c z e
 . exact o j i c a z e.symm
def Pm.of (h:Pm p n) (a:q.size=p.size) (c:q.Perm p):Pm q n:=⟨by rw [a,h.size],(Array.perm_iff_toList_perm.mp c).trans h.perm⟩
def Pm.rev (h:Pm p n) (i j:Nat):Pm (kas_rev p i j) n:=h.of (mirror_size _ _ _ _) (mirror_perm _ _ _ _)
def Iq (h:Pm p n) (d:j<=n) (c:k<n):cA (kas_rev p 0 j) k=if k<j then cA p (j-1-k) else cA p k:=by
 have l:=h.rev 0 j;have e:=getElem?_mirror_all (i:=0) (by rw [h.size];exact d) k;have e1:=QV (by rw [l.size];exact c);unfold kas_rev at e1;rw [e] at e1;simp only [gl,true_and,pi] at e1
 split at e1
 . rename_i a;rw [if_pos a];rw [QV (by rw [h.size];omega)] at e1;exact (fj e1).symm
 . rename_i a;rw [if_neg a];rw [QV (by rw [h.size];exact c)] at e1;exact (fj e1).symm
section
variable {lt:Nat->Nat->Bool} {n:Nat} (O:Ord lt n)
def Up (lt:Nat->Nat->Bool) (p:Array Nat) (k:Nat):Prop:= ∀i j,i<j->j<k->lt (cA p i) (cA p j)=true
def Down (lt:Nat->Nat->Bool) (p:Array Nat) (k:Nat):Prop:= ∀i j,i<j->j<k->lt (cA p j) (cA p i)=true
include O
theorem Up.snoc (a:Pm p n) (d:k+1<n) (h:Up lt p (k+1)) (hl:lt (cA p k) (cA p (k+1))=true):Up lt p (k+2):=λi j c l=>by
 by_cases e:j=k+1
 . subst e
   by_cases e2:i=k
   . subst e2;exact hl
   . exact O.trans _ _ _ (a.lt (by omega)) (a.lt (by omega)) (a.lt d) (h i k (by omega) (by omega)) hl
 . exact h i j c (by omega)
theorem Down.snoc (a:Pm p n) (d:k+1<n) (h:Down lt p (k+1)) (hl:lt (cA p (k+1)) (cA p k)=true):Down lt p (k+2):=λi j c l=>by
 by_cases e:j=k+1
 . subst e
   by_cases e2:i=k
   . subst e2;exact hl
   . exact O.trans _ _ _ (a.lt d) (a.lt (by omega)) (a.lt (by omega)) hl (h i k (by omega) (by omega))
 . exact h i j c (by omega)
theorem Ef (a:Pm p n) (d:i<n) (e:j<n) (c:i≠j) (h:lt (cA p i) (cA p j)=false):lt (cA p j) (cA p i)=true:=by
 rcases O.total _ _ (a.lt d) (a.lt e) (a.ne d e c) with z|z
 . rw [h] at z;cases z
 . exact z
theorem Eg {p:Array Nat} (i:Pm p n): ∀(f m:Nat),1<=m->m+f=n->Up lt p m->Wk lt n (λr=>m<=r/\r<=n/\Up lt p r/\(r<n->lt (cA p r) (cA p (r-1))=true)) (kas_asc p f m)
 |0,m,o,q,h=>⟨br _,by omega,h,λz=>by omega⟩
 |f+1,m,o,q,h=>by
  refine ⟨i.lt (by omega),i.lt (by omega),?_⟩
  cases l:lt (p.getD m 0) (p.getD (m-1) 0) with
  |true=>
   exact ⟨br _,by omega,h,λ_=>l⟩
  |false=>
   have j:Up lt p (m+1):=by
    have e:m=(m-1)+1:=by omega
    have u:=Ef O i (by omega) (by omega) (by omega) l;rw [e] at h ⊢;exact Up.snoc O i (by omega) h (by rw [<-e];exact u)
   have v:=Eg i f (m+1) (by omega) (by omega) j;exact Wk.imp (λr ⟨a,b,c,d⟩=>⟨by omega,b,c,d⟩) v
theorem Ir {p:Array Nat} (i:Pm p n): ∀(f m:Nat),1<=m->m+f=n->Down lt p m->Wk lt n (λr=>r.1=p/\m<=r.2.1/\r.2.1<=n/\Down lt p r.2.1/\r.2.2=0) (kas_desc f p m 0)
 |0,m,q,u,h=>⟨rfl,br _,(show m<=n by omega),h,rfl⟩
 |f+1,m,q,u,h=>by
  refine ⟨i.lt (by omega),i.lt (by omega),?_⟩
  cases o:lt (p.getD m 0) (p.getD (m-1) 0) with
  |true=>
   have j:Down lt p (m+1):=by
    have e:m=(m-1)+1:=by omega
    have l:=o;rw [e] at h ⊢;exact Down.snoc O i (by omega) h (by rw [<-e];exact l)
   have v:=Ir i f (m+1) (by omega) (by omega) j;exact Wk.imp (λr ⟨a,b,c,d,e⟩=>⟨a,by omega,c,d,e⟩) v
  |false=>
   have l:=Ef O i (by omega) (by omega) (by omega) o;refine ⟨i.lt (by omega),i.lt (by omega),?_⟩;show Wk lt n _ (if lt (cA p (m-1)) (cA p m)=true then _ else _);rw [if_pos l];exact ⟨rfl,br _,(show m<=n by omega),h,rfl⟩
theorem Down.rev (a:Pm p n) (c:k<=n) (h:Down lt p k):Up lt (kas_rev p 0 k) k:=λi j d e=>by
 rw [Iq a c (by omega),Iq a c (by omega),if_pos (by omega),if_pos e];exact h _ _ (by omega) (by omega)
theorem Sd {k:Nat} (d:Pm p n) (e:1<=k) (i:k<=n) (h:Down lt p k):Wk lt n (λr=>1<=r.1/\r.1<=n/\Pm r.2 n/\Up lt r.2 r.1) (kas_tail3 k n p):=by
 unfold kas_tail3;refine Wk.bind (λr ⟨a,b,c,_⟩=>?_) (Eg O (d.rev 0 k) (n-k) k e (by omega) (Down.rev O d i h));exact ⟨by omega,b,d.rev 0 k,c⟩
theorem Sg {p:Array Nat} (h:Pm p n) (B:1<=n):Wk lt n (λr=>1<=r.1/\r.1<=n/\Pm r.2 n/\Up lt r.2 r.1) (kas_count n p):=by
 unfold kas_count;refine Wk.bind (λr ⟨a,b,c,d⟩=>?_) (Eg O h (n-1) 1 (br _) (by omega) (λi j l o=>by omega))
 by_cases e:r=n
 . subst e;rw [if_pos (by simp)];exact ⟨a,b,h,c⟩
 . rw [if_neg (by simpa using e)]
   by_cases m:r>1
   . rw [if_pos m];refine ⟨h.lt (by omega),h.lt (by omega),?_⟩;have:lt (p.getD 0 0) (p.getD (r-1) 0)=true:=c 0 (r-1) (by omega) (by omega);show Wk lt n _ (if lt (p.getD 0 0) (p.getD (r-1) 0)=true then _ else _);rw [if_pos this];exact ⟨a,b,h,c⟩
   . rw [if_neg m];have u:r=1:=by omega
     subst u;unfold kas_descPart
     have v:Down lt p 2:=λi j l o=>by
      have:i=0/\j=1:=by omega
      obtain ⟨rfl,rfl⟩:=this;exact d (by omega)
     refine Wk.bind (λq ⟨w,E,y,z,H⟩=>?_) (Ir O h (n-2) 2 (by omega) (by omega) v);rw [if_neg (by omega),w];exact Sd O h (by omega) y z
theorem ko (c:Pm p n) (d:k<n) (j:Up lt p k): ∀(f l r:Nat),l<=r->r<=k->r-l<=f->(∀i,i<l->lt (cA p i) (cA p k)=true)->(∀i,r<=i->i<k->lt (cA p k) (cA p i)=true)->
  Wk lt n (λm=>m<=k/\(∀i,i<m->lt (cA p i) (cA p k)=true)/\ ∀i,m<=i->i<k->lt (cA p k) (cA p i)=true) (kas_place p k f l r)
 |0,l,r,w,v,y,o,q=>⟨by omega,o,λi a b=>q i (by omega) b⟩
 |f+1,l,r,w,v,y,o,q=>by
  unfold kas_place
  by_cases e:l>=r
  . rw [if_pos e];exact ⟨by omega,o,λi a b=>q i (by omega) b⟩
  . rw [if_neg e];have z:(l+r)/2<r:=by omega
    refine ⟨c.lt d,c.lt (by omega),?_⟩
    cases u:lt (p.getD k 0) (p.getD ((l+r)/2) 0) with
    |true=>
     refine ko c d j f l ((l+r)/2) (by omega) (by omega) (by omega) o λi a b=>?_
     by_cases e2:i=(l+r)/2
     . rw [e2];exact u
     . exact O.trans _ _ _ (c.lt d) (c.lt (show (l+r)/2<n by omega)) (c.lt (by omega)) u (j _ _ (by omega) b)
    |false=>
     have h:=Ef O c d (by omega) (by omega) u;refine ko c d j f ((l+r)/2+1) r (by omega) v (by omega) (λi a=>?_) q
     by_cases e2:i=(l+r)/2
     . rw [e2];exact h
     . exact O.trans _ _ _ (c.lt (by omega)) (c.lt (show (l+r)/2<n by omega)) (c.lt d) (j _ _ (by omega) (by omega)) h
theorem YS (a:Pm p n) (h:k<n) (o:l<=k) (j:i<n):cA (bubble p k (k-l)) i=if i=l then cA p k else if l<i/\i<=k then cA p (i-1) else cA p i:=by
 have m:Pm (bubble p k (k-l)) n:=a.of (bubble_size _ _ _) (bubble_perm _ _ _);have e:=getElem?_bubble (by rw [a.size];exact h) (k-l) (by omega) i;rw [QV (by rw [m.size];exact j)] at e;have c:k-(k-l)=l:=by omega
 rw [c] at e
 split at e
 . rename_i z;rw [if_pos z];rw [QV (by rw [a.size];exact h)] at e;exact fj e
 . rename_i z;rw [if_neg z]
   split at e
   . rename_i d;rw [if_pos d];rw [QV (by rw [a.size];omega)] at e;exact fj e
   . rename_i d;rw [if_neg d];rw [QV (by rw [a.size];exact j)] at e;exact fj e
theorem Iu: ∀(f:Nat) (p:Array Nat) (k:Nat),Pm p n->k+f=n->Up lt p k->Wk lt n (λq=>Pm q n/\Up lt q n) (kas_bin f p k)
 |0,p,k,d,r,h=>⟨d,by
  have:k=n:=by omega
  rw [this] at h;exact h⟩
 |f+1,p,k,d,r,h=>by
  unfold kas_bin;refine Wk.bind (λl ⟨a,b,c⟩=>?_) (ko O d (by omega) h k 0 k (by omega) (br _) (by omega) (λi z=>by omega) (λi z w=>by omega));refine Iu f _ (k+1) (d.of (bubble_size _ _ _) (bubble_perm _ _ _)) (by omega) λi j e u=>?_
  rw [YS O d (by omega) a (by omega),YS O d (by omega) a (by omega)]
  by_cases e1:i=l
  . rw [if_pos e1,if_neg (by omega),if_pos (by omega)];exact c _ (by omega) (by omega)
  . rw [if_neg e1]
    by_cases e2:l<i/\i<=k
    . rw [if_pos e2,if_neg (by omega),if_pos (by omega)];exact h _ _ (by omega) (by omega)
    . rw [if_neg e2]
      by_cases m:j=l
      . rw [if_pos m];exact b _ (by omega)
      . rw [if_neg m]
        by_cases o:l<j/\j<=k
        . rw [if_pos o]
          by_cases v:i=j-1
          . omega
          . exact h _ _ (by omega) (by omega)
        . rw [if_neg o];exact h _ _ e (by omega)
theorem Sh (i:1<=n):Wk lt n (λq=>Pm q n/\Up lt q n) (kas_sort n):=by
 have j:Pm (rM (ke n)) n:=⟨by simp,by simp⟩
 unfold kas_sort;refine Wk.bind (λr h=>?_) (Sg O j i);obtain ⟨a,b,c,d⟩:=h
 by_cases e:r.1<n
 . rw [if_pos e];have:max r.1 1=r.1:=by omega
   rw [this];exact Iu O _ _ _ c (by omega) d
 . rw [if_neg e];have:r.1=n:=by omega
   rw [this] at d;exact ⟨c,d⟩
end
section
variable {prog:bH} {w:World} {A:bQ} {E:Vt} {s:aM} {a:Addr} {L:List Value} {n:Nat}
def xi (h:Heap) (a:Addr) (L:List Value):Heap:=((h.update a (lg λ_=>(#[]:Array Value))).push (gQ "tuple" L.toArray 0)).push (gQ "list" #[] 0)
def ku (L:List Value) (p:Array Nat):List Value:=p.toList.map λi=>L.getD i kb
def ZN (c:b≠a) (e:h.get? b=some o):(xi h a L).get? b=some o:=
 bW _ (bW _ ((sC _ _ (iH c)).trans e))
def Ky (O:Ord lt L.length) (m:SortKind) (q:s.heap.get? a=some (gQ "list" L.toArray n)) (h2:2<=L.length) (r:L.length<64)
  (hk: ∀Q:SortKind->aM->Prop,Q m {s with heap:=xi s.heap a L}->wpAny (model prog w) A (keyKind' L.toArray) Q (λ_ _=>False) {s with heap:=xi s.heap a L})
  (hc: ∀i j C,i<L.length->j<L.length->C (lt i j) {s with heap:=xi s.heap a L}->kas_ask prog w A m L i j C {s with heap:=xi s.heap a L})
  (h: ∀p u c,Pm p L.length->Up lt p L.length->(∀b o,b≠a->s.heap.get? b=some o->u.get? b=some o)->u.get? a=some (gQ "list" (rM (ku L p)) c)->P (.done (.ret .none)) {s with heap:=u}):
  wpAny (model prog w) A (mM.«list.sort» ⟨[.ref a],[]⟩) P E s:=by
 obtain ⟨v,b1⟩: ∃v,(s.heap.update a (lg λ_=>(#[]:Array Value))).get? a=some (gQ "list" #[] v):=⟨_,Bn q λ_=> #[]⟩
 have y:(xi s.heap a L).get? a=some (gQ "list" #[] v):=bW _ (bW _ b1);have big:L.length<=aS:=by rw [ol];omega
 have walk:(kas_sort L.length).kasWp (kas_ask prog w A m L) (λp t=>t={s with heap:=xi s.heap a L}/\Pm p L.length/\Up lt p L.length) {s with heap:=xi s.heap a L}:=
  Ip (P:=λt=>t={s with heap:=xi s.heap a L}) (λi j C t hi hj B hC=>by subst B;exact hc i j C hi hj (hC _ rfl)) (λp t H B=>⟨B,H⟩) _ _ (Sh O (by omega)) rfl
 rw [list_sort_plain];refine az (listItems_at q rfl (az (listUpdate_at q rfl (az (seqEpoch_at b1 rfl (az (wpAny_newTuple (az (wpAny_newList (mI ?_) (gl _))) (by show L.length<=aS;exact big))))) (by rw [b7];exact big) (gl _))));dsimp only;have d: ¬L.toArray.size<2:=by rw [b7];omega
 rw [if_neg d,if_neg d];refine az (lM (hk (λl t=>l=m/\t={s with heap:=xi s.heap a L}) ⟨rfl,rfl⟩) (λl t I=>?_) λ_ _ z=>z.elim);obtain ⟨rfl,rfl⟩:=I;refine az (lM (kat_run (Q:=λst t=> ∃p:Array Nat,p.size=L.length/\arrOf st=p.map (kas_item (L.toArray.zip L.toArray))/\failedOf st=none/\t={s with heap:=xi s.heap a L}/\Pm p L.length/\Up lt p L.length) rfl h2 r (λp st t z1 z2 z3 z4=>⟨p,z1,z2,z3,z4⟩) walk) ?_ λ_ _ z=>z);rintro ⟨⟨⟩,st⟩ t ⟨p,H,J,hf,rfl,N,U⟩;dsimp only;have Y:(rM (ku L p)).size<=aS:=by rw [b7];unfold ku;rw [dc,o4,H];exact big
 rw [kat_snds rfl J];obtain ⟨c2,Bd⟩: ∃c2,((xi s.heap a L).update a (lg λ_=>rM (ku L p))).get? a=some (gQ "list" (rM (ku L p)) c2):=⟨_,Bn y λ_=>rM (ku L p)⟩
 refine az (seqEpoch_at y rfl (az (listUpdate_at y rfl ?_ (gl _) (Nat.le_succ_of_le Y))));rw [hf];simp;exact ba (h p _ c2 N U (λb o hb e=>(sC _ _ (iH hb)).trans (ZN hb e)) Bd)
end
def ms (h:Heap) (d:Addr) (c:List Value) (e:Nat):Prop:= ∃o a,h.get? d=some o/\o.ExactDict/\o.data= .dict a e/\a.toList.map (·.key)=c
section
variable {prog:bH} {w:World} {A:bQ} {E:Vt} {s:aM} {d N:Addr} {Y:List Value} {U i:Nat}
def ms.typeIs (x:ms s.heap d Y U):s.TypeIs (.ref d) "dict" :=let ⟨o,e,a,c,_⟩:=x;⟨o,a,c.1⟩
def ms.at (x:ms h d Y U) (e: ∀o,h.get? d=some o->a.get? d=some o):ms a d Y U:=let ⟨o,c,j,r⟩:=x;⟨o,c,e _ j,r⟩
def ms.lt (x:ms h d Y U):d<h.objs.size:=let ⟨_,_,a,_⟩:=x;b6 a
def Si (l:(d==lY)=false) (h:ms s.heap d Y U)
  (m:Q (.ref s.heap.objs.size) {s with heap:=s.heap.push {cls:= .type "dict_keyiterator",data:= .fields #[.ref d,.int 0 0,.int Y.length 0,.int U 0]}}):wpAny (model prog w) A (pyIter (.ref d)) Q E s:=by
 obtain ⟨o,n,j,p,a,c⟩:=id h;have T:=h.typeIs;have e:n.size=Y.length:=by rw [<-c];simp
 refine wpAny_pyIter_slot T PySem.F.slot_dict_iter (m5 PySem.F.slot_dict_iter T PySem.F.entry_dict_iter ?_ (PySem.F.args_dict_iter_1 _));unfold mM.«dict.__iter__» Builtin.Dict.dictSlotNone;refine az (az (wpAny_notOrdered_dict T (show wpAny _ _ (pure (di d)) _ _ s from ba ?_)));show wpAny _ _ (Iv d>>=_) _ _ s;unfold Iv;rw [if_neg (by rw [l];exact eh)];refine az (ba (az (wpAny_dictEntries j a (az (wpAny_dictEpoch j a (az (nU (ba ⟨_,rfl, "dict_keyiterator",_,⟨_,dn _ rfl,rfl⟩,zd.lookup,?_⟩))))))));simpa [l6,e] using m
def Sj (a:s.heap.IsKeyIter N d i Y.length U) (u:ms s.heap d Y U) (q:Y[i]?=some k)
  (v: ∀r,r.IsKeyIter N d (i+1) Y.length U->pO N s.heap r->Q (some k) {s with heap:=r}):wpAny (model prog w) A (pyNext (.ref N)) Q E s:=by
 obtain ⟨o,n,y,h⟩:=id a;obtain ⟨I,p,j,B,l,c⟩:=id u;have m:p.size=Y.length:=by rw [<-c];simp
 have cV:i<p.size:=by
  rw [m];rcases Nat.lt_or_ge i Y.length with z|z
  . exact z
  . rw [mP z] at q;cases q
 have H:p[i].key=k:=by
  have:(p.toList.map (·.key))[i]?=some k:=by rw [c];exact q
  rw [iE] at this;simpa [cV] using this
 unfold pyNext;refine az (wpAny_attempt (pc a.typeIs zd (m5 zd a.typeIs Iw ?_ (Ix _))));refine az (ba (az (az ?_)))
 first|refine az (Bo a.typeIs (ba (az (Bp n h ?_))))|refine az (Bq a.typeIs (ba (az (Bp n h ?_))))
 simp only [show Iy "dict_keyiterator" =false by decide,oJ,if_false];show wpAny _ _ (if (di d==kb)=true then _ else _) _ _ s;rw [if_neg (show¬((di d==kb)=true) by exact eh)];refine az (ba (az (wpAny_dictEntries j l ?_)));rw [if_neg (by rw [m];simp)];refine az (ba (az (wpAny_dictEpoch j l ?_)));rw [if_neg (by simp)];refine ba ?_;simp only [show¬((i:Int)<0) by omega,if_false,lP,Array.getElem?_eq_getElem cV];refine az ?_
 first|refine az (Bo a.typeIs (ba (az (Eh a.typeIs ?_))))|refine az (Bq a.typeIs (ba (az (Eh a.typeIs ?_))))
 show wpAny _ _ (setField (.ref N) 1 (l6 ((i:Int)+1))>>=_) _ _ s;refine az (Br n h (by simp) (az (mI ?_)))
 have e:(s.heap.update N (Obj.mapFields (·.setIfInBounds 1 (l6 ((i:Int)+1))))).IsKeyIter N d (i+1) Y.length U:=
  ⟨_,AX _ n (Obj.isFreed_of_fields (Bs h _)),(Obj.cls_mapFields ..).trans y,by rw [Bs h];simp [l6]⟩
 refine az (Eh e.typeIs ?_);rw [H];exact ba (ba ⟨_,rfl,ba (v _ e (Bt ..))⟩)
def Sk (q:A.handled=none) (a:s.heap.IsKeyIter N d Y.length Y.length U) (r:ms s.heap d Y U)
  (u: ∀n,Heap.ExtBut N s.heap n->Q none {s with heap:=n}):wpAny (model prog w) A (pyNext (.ref N)) Q E s:=by
 obtain ⟨o,j,y,l⟩:=id a;obtain ⟨z,p,e,v,h,c⟩:=id r;have m:p.size=Y.length:=by rw [<-c];simp
 unfold pyNext;refine az (wpAny_attempt (pc a.typeIs zd (m5 zd a.typeIs Iw ?_ (Ix _))));refine az (ba (az (az ?_)))
 first|refine az (Bo a.typeIs (ba (az (Bp j l ?_))))|refine az (Bq a.typeIs (ba (az (Bp j l ?_))))
 simp only [show Iy "dict_keyiterator" =false by decide,oJ,if_false];show wpAny _ _ (if (di d==kb)=true then _ else _) _ _ s;rw [if_neg (show¬((di d==kb)=true) by exact eh)];refine az (ba (az (wpAny_dictEntries e h ?_)));rw [if_neg (by rw [m];simp)];refine az (ba (az (wpAny_dictEpoch e h ?_)));rw [if_neg (by simp)];refine ba ?_;simp only [show¬(((Y.length:Nat):Int)<0) by omega,if_false,lP,Array.getElem?_eq_none (show p.size<=Y.length by omega)];refine az ?_
 first|refine az (Bo a.typeIs (ba ?_))|refine az (Bq a.typeIs (ba ?_))
 show wpAny _ _ (setField (.ref N) 0 .none>>=_) _ _ s;refine az (Br j l (by simp) ?_);refine az ?_;simp only [newExc,newTuple];refine az (nU (az (wpAny_of_eq (by first|rfl| (simp;rfl)) (nU ?_ (by size_fits)))) (by size_fits));simp only [raiseNew];refine az (wpAny_handled ?_);rw [show A.in1.handled=none from q];refine az (ba (wpAny_throw ?_));refine az (yI ⟨_,dn _ rfl,rfl⟩ isSubtype_stop ?_);exact ba (u _ (((Bt ..).extBut.push _).push _))
def Sm (lo:(d==lY)=false):KdlSrc prog w "dict" d d Y.length (λi v=>Y[i]?=some v) (λh=>ms h d Y U) where
 type:=λ_ a=>a.typeIs
 there:=λ_ a=>⟨a.lt,a.lt⟩
 keep:=λ_ _ a n=>a.at λo e=>n d (.inl rfl) o e
 notList:=by decide
 notTuple:=by decide
 hint:=λ_ _ _ _ a p=>kdl_hint_dict a.typeIs p
 iter:=λA s B a=>⟨_,(λi h=>h.IsKeyIter s.heap.objs.size d i Y.length U/\ms h d Y U),(λ_ _ p=>Si lo a p),{
  sub:=λb c=>by simp at c;simp [c]
  frame:=λ_ _ _ st n=>⟨let ⟨o,H,r⟩:=st.1;⟨o,n _ (by simp) o H,r⟩,st.2.at λo e=>n d (by simp) o e⟩
  item:=λi t Q E I st j=>by
   have y:Y[i]?=some Y[i]:=by simp [I]
   exact Sj st.1 st.2 y λq l m=>j _ q t.toks y ⟨l,st.2.at λo e=>m.extBut d o (eB a.lt) e⟩ λb o c e=>m.extBut b o (λz=>c (by simp [z])) e
  done:=λt Q E st j=>Sk B st.1 st.2 λq u=>j q t.toks λb o c e=>u b o (λz=>c (by simp [z])) e
  self:=λ_ _ _ _ st j=>wpAny_pyIter_keyiter st.1 j},⟨⟨_,dn _ rfl,rfl,rfl⟩,a.at λo e=>bW _ e⟩⟩
end
abbrev Hd:=Str×Int
def cV (a b:Hd):Bool:=if a.1=b.1 then decide (a.2<b.2) else decide (a.1.cps.toList<b.1.cps.toList)
def Sn {b:Str} (h:a.cps.toList=b.cps.toList):a=b:=by
 cases a;cases b;simp;exact Array.toList_inj.mp h
def uj (h:cV a b=true):cV b a=false:=by
 unfold cV at h ⊢
 by_cases e:a.1=b.1
 . rw [if_pos e] at h;rw [if_pos e.symm];simp at h;simp;omega
 . rw [if_neg e] at h;rw [if_neg λz=>e z.symm];simp at h;simp;exact List.lt_asymm h
def Um (h:cV a b=true) (d:cV b c=true):cV a c=true:=by
 unfold cV at h d ⊢
 by_cases e:a.1=b.1
 . rw [if_pos e] at h
   by_cases e2:b.1=c.1
   . rw [if_pos e2] at d;rw [if_pos (e.trans e2)];simp at h d ⊢;omega
   . rw [if_neg e2] at d;rw [if_neg (by rw [e];exact e2),e];exact d
 . rw [if_neg e] at h;simp at h
   by_cases e2:b.1=c.1
   . rw [if_pos e2] at d;rw [if_neg (by rw [<-e2];exact e),<-e2];simpa using h
   . rw [if_neg e2] at d;simp at d;have i:=List.lt_trans h d;have j:a.1≠c.1:=λz=>List.lt_irrefl _ (by rw [z] at i;exact i)
     rw [if_neg j];simpa using i
def Uo {b:Hd} (h:a≠b):cV a b=true\/cV b a=true:=by
 unfold cV
 by_cases e:a.1=b.1
 . have e2:a.2≠b.2:=λz=>h (Prod.ext e z)
   rw [if_pos e,if_pos e.symm];simp;omega
 . rw [if_neg e,if_neg λz=>e z.symm];simp only [decide_eq_true_eq];have:a.1.cps.toList≠b.1.cps.toList:=λz=>e (Sn z)
   by_cases z:a.1.cps.toList<b.1.cps.toList
   . exact .inl z
   . exact .inr (Std.lt_of_le_of_ne z (iH this))
def il (c:List Hd) (i j:Nat):Bool:=match c[i]?,c[j]? with
 |some a,some b=>cV a b
 |_,_=>false
def So (r:l.Nodup):Ord (il l) l.length where
 Ed:=λi j h=>by
  unfold il at h ⊢
  cases c:l[i]? with
  |none=>rw [c] at h;cases h
  |some a=>
    cases d:l[j]? with
    |none=>rfl
    |some b=>rw [c,d] at h;exact uj h
 trans:=λi j k c d p m n=>by
  unfold il at m n ⊢;rw [cU c,cU d] at m;rw [cU d,cU p] at n;rw [cU c,cU p];exact Um m n
 total:=λi j c d o=>by
  unfold il;rw [cU c,cU d];refine Uo λe=>?_
  have q:=Ee.mp r;rcases Nat.lt_or_gt_of_ne o with z|z
  . exact q i j c d z e
  . exact q j i d c z e.symm
def ny (h:Heap) (v:Value) (a:Hd):Prop:= ∃b o n t u,v= .ref b/\h.get? b=some o/\o.cls= .type "tuple" /\o.data= .seq #[.str a.1 t,.int a.2 u] n
section
variable {prog:bH} {w:World} {A:bQ} {E:Vt} {s:aM}
def Sq (d:s.heap.get? x=some i) (dx:i.data= .seq #[.str a.1 t,.int a.2 u] n) (j:s.heap.get? y=some l) (o:l.data= .seq #[.str b.1 q,.int b.2 r] m) (h:Q (cV a b) s):
   wpAny (model prog w) A (keyLt' (tuples' true) (.ref x) (.ref y)) Q E s:=by
 refine kat_lt d dx j o ?_;refine kat_cons (eqBool_str (kat_go (λe=>kat_yes (kat_cons (wpAny_eqBool_int (kat_go (λe2=>kat_yes (kat_nil ?_)) λe2=>kat_no (kat_one _ _ (wpAny_lt_int ?_)))))) λe=>kat_no (oneLt_str ?_)))
 . have c:a.1=b.1:=by simpa using e
   have p:a.2=b.2:=by simpa using e2
   have:cV a b=false:=by unfold cV;rw [if_pos c];simp [p]
   rw [this] at h;exact h
 . have c:a.1=b.1:=by simpa using e
   have:cV a b=decide (a.2<b.2):=by unfold cV;rw [if_pos c]
   rw [this] at h;exact (show Q (decide (a.2<b.2)) s from h)
 . have c:a.1≠b.1:=by simpa using e
   have:cV a b=decide (a.1.cps.toList<b.1.cps.toList):=by unfold cV;rw [if_neg c]
   rw [this] at h;exact h
def ny.keep (x:ny h v a) (k: ∀b o,h.get? b=some o->o.cls= .type "tuple" ->d.get? b=some o):ny d v a:=
 let ⟨b,o,n,t,u,e,i,c,hd⟩:=x;⟨b,o,n,t,u,e,k b o i c,c,hd⟩
inductive cq (h:Heap):List Value->List Hd->Prop where
 |nil:cq h [] []
 |cons {v:Value} {a:Hd} {vs:List Value} {hs:List Hd}:ny h v a->cq h vs hs->cq h (v::vs) (a::hs)
theorem cq.length: ∀ {vs:List Value} {hs:List Hd},cq h vs hs->vs.length=hs.length
 |_,_,.nil=>rfl
 |_,_,.cons _ t=>by simp [t.length]
theorem cq.keep (k: ∀b o,h.get? b=some o->o.cls= .type "tuple" ->d.get? b=some o): ∀ {a:List Value} {c:List Hd},cq h a c->cq d a c
 |_,_,.nil=> .nil
 |_,_,.cons x t=> .cons (x.keep k) (t.keep k)
theorem cq.get: ∀ {vs:List Value} {hs:List Hd} {i:Nat} {a:Hd},cq h vs hs->hs[i]?=some a->ny h (vs.getD i kb) a
 |_,_,0,a,.cons x t,e=>by simp at e;subst e;simpa using x
 |_,_,i+1,a,.cons x t,e=>by simpa using t.get (by simpa using e)
theorem cq.eH: ∀ {a:List Value} {c:List Hd},cq h a c-> ∃fs,KatTups h a fs/\fs.length=a.length/\ ∀f∈fs,∃z t,f= .str z t
 |_,_,.nil=>⟨[],KatTups.nil,rfl,λ_ z=>nomatch z⟩
 |_,_,.cons x r=>by
  obtain ⟨fs,d,e,i⟩:=r.eH;obtain ⟨b,o,n,t,u,rfl,j,l,hd⟩:=x
  exact ⟨_::fs,KatTups.cons j l hd rfl d,by simp [e],λf hf=>by
   rcases bJ.mp hf with rfl|hf
   . exact ⟨_,_,rfl⟩
   . exact i f hf⟩
def Sr:Looks M h (typeOf (.str z t)) (.type "str"):=Looks.of_pure rfl
def u4 (O:s.heap.get? a=some (gQ "list" d.toArray n)) (U:cq s.heap d l) (Y:l.Nodup) (h2:2<=d.length) (B:d.length<64)
   (h: ∀p H c,Pm p d.length->Up (il l) p d.length->(∀b o,b≠a->s.heap.get? b=some o->H.get? b=some o)->H.get? a=some (gQ "list" (rM (ku d p)) c)->P (.done (.ret .none)) {s with heap:=H}):
   wpAny (model prog w) A (mM.«list.sort» ⟨[.ref a],[]⟩) P E s:=by
 have hl:=U.length
 have keep: ∀b o,s.heap.get? b=some o->o.cls= .type "tuple" ->(xi s.heap a d).get? b=some o:=λb o e hc=>ZN (λz=>by
   subst z;rw [O] at e;cases e;simp [gQ] at hc) e
 have r:=U.keep keep;obtain ⟨fs,k1,k2,k3⟩:=r.eH;refine Ky (by rw [hl];exact So Y) (tuples' (n8 "str" !=n8 "tuple")) O h2 B (λQ q=>?_) (λi j C hi hj hC=>?_) h
 . exact kat_kind k1 (by omega) (λf hf=>by obtain ⟨z,t,rfl⟩:=k3 f hf;exact Sr) rfl q
 . have v:i<l.length:=by omega
   have y:j<l.length:=by omega
   obtain ⟨b,o,m,t,u,e1,I,_,J⟩:=r.get (cU v);obtain ⟨b',o',m',t',u',e2,L,_,N⟩:=r.get (cU y);show wpAny _ _ (keyLt' _ (d.getD i kb) (d.getD j kb)) C _ _;rw [e1,e2];refine Sq I J L N ?_;have:il l i j=cV l[i] l[j]:=by unfold il;rw [cU v,cU y]
   rw [<-this];exact hC
end
section
variable {prog:bH} {w:World} {A:bQ} {E:Vt} {s:aM} {a:Addr} {Q:List Value} {n:Nat}
def Ss (j:s.heap.get? a=some (gQ "list" Q.toArray n)) (y:Q.length<2)
  (h: ∀l c,(∀b o,b≠a->s.heap.get? b=some o->l.get? b=some o)->l.get? a=some (gQ "list" Q.toArray c)->P (.done (.ret .none)) {s with heap:=l}):
  wpAny (model prog w) A (mM.«list.sort» ⟨[.ref a],[]⟩) P E s:=by
 obtain ⟨m,u⟩: ∃m,(s.heap.update a (lg λ_=>(#[]:Array Value))).get? a=some (gQ "list" #[] m):=⟨_,Bn j λ_=> #[]⟩
 have p:(xi s.heap a Q).get? a=some (gQ "list" #[] m):=bW _ (bW _ u);have big:Q.length<=aS:=by rw [ol];omega
 rw [list_sort_plain];refine az (listItems_at j rfl (az (listUpdate_at j rfl (az (seqEpoch_at u rfl (az (wpAny_newTuple (az (wpAny_newList (mI ?_) (gl _))) (by show Q.length<=aS;exact big))))) (by rw [b7];exact big) (gl _))));dsimp only;have d:Q.toArray.size<2:=by rw [b7];omega
 rw [if_pos d,if_pos d];refine az (ba (az (ba ?_)));dsimp only
 have i:(arrOf (SortSt.mk' general' (Q.toArray.zip Q.toArray) #[] 7 none)).map (·.2)=Q.toArray:=by
  apply Array.toList_inj.mp;simp [List.map_snd_zip]
 rw [i];obtain ⟨q,r⟩: ∃q,((xi s.heap a Q).update a (lg λ_=>Q.toArray)).get? a=some (gQ "list" Q.toArray q):=⟨_,Bn p λ_=>Q.toArray⟩
 refine az (seqEpoch_at p rfl (az (listUpdate_at p rfl ?_ (gl _) (by rw [b7];exact Nat.le_succ_of_le big))));simp;exact ba (h _ q (λb o v e=>(sC _ _ (iH v)).trans (ZN v e)) r)
end
def lr (a:Hd):List Hd->List Hd
 | []=>[a]
 |b::r=>if cV a b=true then a::b::r else b::lr a r
def ZO (a:List Hd):List Hd:=a.foldr lr []
theorem XB (a:Hd): ∀l,(lr a l).Perm (a::l)
 | []=>Ei _
 |b::r=>by
  unfold lr
  split
  . exact Ei _
  . exact ((XB a r).cons b).trans (List.Perm.swap a b r)
theorem yh: ∀c,(ZO c).Perm c
 | []=>Ei _
 |a::r=>(XB a (ZO r)).trans ((yh r).cons a)
theorem Iz: ∀ {l:List Hd},l.Pairwise (λx y=>cV x y=true)->a∉l->(lr a l).Pairwise (λx y=>cV x y=true)
 | [],_,_=>by simp [lr]
 |b::r,h,n=>by
  have d:=ze.mp h;unfold lr
  by_cases e:cV a b=true
  . rw [if_pos e];refine ze.mpr ⟨λc i=>?_,h⟩;rcases bJ.mp i with z|z
    . rw [z];exact e
    . exact Um e (d.1 c z)
  . rw [if_neg e];have j:a≠b:=λz=>n (by simp [z])
    have m:=(Uo j).resolve_left e;refine ze.mpr ⟨λc i=>?_,Iz d.2 λz=>n (by simp [z])⟩;rcases bJ.mp ((XB a r).mem_iff.mp i) with z|z
    . rw [z];exact m
    . exact d.1 c z
theorem vz: ∀ {c:List Hd},c.Nodup->(ZO c).Pairwise (λx y=>cV x y=true)
 | [],_=>List.Pairwise.nil
 |a::r,h=>by
  have d:=sy.mp h;exact Iz (vz d.2) λz=>d.1 ((yh r).mem_iff.mp z)
theorem Vj: ∀ {l m:List Hd},l.Pairwise (λx y=>cV x y=true)->m.Pairwise (λx y=>cV x y=true)->l.Perm m->l=m
 | [],m,_,_,p=>(List.nil_perm.mp p).symm
 |a::l,[],_,_,p=>by have:=p.length_eq;simp at this
 |a::l,b::m,n,o,p=>by
  have c:=ze.mp n;have d:=ze.mp o
  have e:a=b:=by
   by_cases z:a=b
   . exact z
   . have q:a∈b::m:=p.mem_iff.mp (by simp);have r:b∈a::l:=p.mem_iff.mpr (by simp);have h:=(bJ.mp q).resolve_left z;have i:=(bJ.mp r).resolve_left λy=>z y.symm
     have u:=c.1 b i;have j:=d.1 a h;rw [uj u] at j;cases j
  subst e;rw [Vj c.2 d.2 (List.perm_cons a|>.mp p)]
inductive F2 {α β:Type} (R:α->β->Prop):List α->List β->Prop where
 |nil:F2 R [] []
 |cons {a b as bs}:R a b->F2 R as bs->F2 R (a::as) (b::bs)
theorem F2.length {α β:Type} {R:α->β->Prop}: ∀ {as:List α} {bs:List β},F2 R as bs->as.length=bs.length
 |_,_,.nil=>rfl
 |_,_,.cons _ t=>by simp [t.length]
theorem F2.get {α β:Type} {R:α->β->Prop} {a0:α} {b0:β}: ∀ {as:List α} {bs:List β} {i:Nat},F2 R as bs->i<bs.length->R (as.getD i a0) (bs.getD i b0)
 |_,_,0,.cons x t,_=>by simpa using x
 |_,_,i+1,.cons x t,h=>by simpa using t.get (by simpa using h)
theorem F2.map {c d a:Type} {R:c->d->Prop} {f:a->c} {g:a->d}: ∀ {l:List a},(∀x∈l,R (f x) (g x))->F2 R (l.map f) (l.map g)
 | [],_=> .nil
 |x::l,h=> .cons (h x (by simp)) (F2.map λy e=>h y (by simp [e]))
def Su (o:a.Nodup) (d:Pm p a.length) (q:Up (il a) p a.length):p.toList.map (λi=>a.getD i ("",0))=ZO a:=by
 have c: ∀i∈p.toList,i<a.length:=λi e=>n9.mp (d.perm.mem_iff.mp e)
 refine Vj ?_ (vz o) ?_
 . rw [List.pairwise_map,Ee];intro i j e r h;have v:p.toList.length=a.length:=by rw [o4,d.size]
   have:=q i j h (by omega);have e1:cA p i=p.toList[i]:=by simp [cA,sS,d.size,show i<a.length by omega]
   have e2:cA p j=p.toList[j]:=by simp [cA,sS,d.size,show j<a.length by omega]
   rw [e1,e2] at this;have l:=c _ (nY e);have m:=c _ (nY r);unfold il at this;rw [cU l,cU m] at this;rw [rN,rN,cU l,cU m];exact this
 . have n:=d.perm.map (λi=>a.getD i (("" :Str),(0:Int)))
   have u:(ke a.length).map (λi=>a.getD i ("",0))=a:=by
    apply Ea;intro i
    by_cases e:i<a.length
    . simp [e]
    . rw [mP (by simp;omega),mP (by omega)]
   rw [u] at n;exact n.trans (yh a).symm
def Sv (h:c.length<2):ZO c=c:=by
 match c,h with
 | [],_=>rfl
 | [a],_=>rfl
section
variable {prog:bH} {w:World} {A:bQ} {E:Vt} {s:aM} {a:Addr} {J:List Value} {n:Nat}
def Sw {P:PySem.Fin->aM->Prop} {j:List Hd} (q:s.heap.get? a=some (gQ "list" J.toArray n)) (u:cq s.heap J j) (v:j.Nodup) (l:J.length<64)
   (h: ∀(y:List Value) d c,(∀R:Value->Hd->Prop,F2 R J j->F2 R y (ZO j))->(∀b o,b≠a->s.heap.get? b=some o->d.get? b=some o)->d.get? a=some (gQ "list" y.toArray c)->P (.done (.ret .none)) {s with heap:=d}):
   wpAny (model prog w) A (mM.«list.sort» ⟨[.ref a],[]⟩) P E s:=by
 have B:=u.length
 by_cases H:J.length<2
 . exact Ss q H λd c k e=>h J d c (λR r=>by rw [Sv (by omega)];exact r) k e
 . refine u4 q u v (by omega) l λp d c m z k e=>h _ d c (λR r=>?_) k e
   rw [B] at m z;rw [<-Su v m z];exact F2.map λi I=>r.get (n9.mp (m.perm.mem_iff.mp I))
end
section
variable {prog:bH} {w:World} {A:bQ} {E:Vt} {t:aM} {I:List Value} {H:List Hd}
def U8 {Q:Vt} (n:cq t.heap I H) (p:H.Nodup) (j:I.length<64)
  (h: ∀(i:List Value) a c,(∀R:Value->Hd->Prop,F2 R I H->F2 R i (ZO H))->(∀b o,t.heap.get? b=some o->a.get? b=some o)->a.get? t.heap.objs.size=some (gQ "list" i.toArray c)->Q (.ref t.heap.objs.size) {t with heap:=a}):
  wpAny (model prog w) A (newList I>>=λl=>gq [l] (call (.builtin "list.sort") [l] [])>>=λ_=>ret l) (λm q=> ∃v,m= .done (.ret v)/\Q v q) E t:=by
 have d:(t.heap.push (gQ "list" I.toArray 0)).get? t.heap.objs.size=some (gQ "list" I.toArray 0):=dn _ rfl;refine az (wpAny_newList (az (mI ?_)) (by rw [ol];omega));refine m5 slot_list_sort ⟨_,d,rfl⟩ entry_list_sort ?_ (args_list_sort _);refine Sw d (n.keep λb o e _=>bW _ e) p j λi a c r k e=>⟨_,rfl,ba ⟨_,rfl,h i a c r (λb o e2=>k b o (λz=>?_) (bW _ e2)) e⟩⟩
 exact lZ _ (by have:=b6 e2;rw [z] at this;exact this)
end
end M
namespace M
open PySem PySem.Spec L2
open PyProof.Rows hiding St
section
variable {X:Cx}
section
variable {J Q:Type} {R:J->Q->Prop} {a:J} {b:Q} {l:List J} {n:List Q}
def F2.cH (r:F2 R (a::l) n): ∃b m,n=b::m/\R a b/\F2 R l m:=by cases r;exact ⟨_,_,rfl,by assumption,by assumption⟩
def F2.eM (r:F2 R l (b::n)): ∃a m,l=a::m/\R a b/\F2 R m n:=by cases r;exact ⟨_,_,rfl,by assumption,by assumption⟩
def F2.eU (r:F2 R l []):l=[]:=by cases r;rfl
def F2.Ej (r:F2 R [] n):n=[]:=by cases r;rfl
def Ek (r:lJ R (a::l) n): ∃b m,n=b::m/\R a b/\lJ R l m:=by cases r;exact ⟨_,_,rfl,by assumption,by assumption⟩
def IA (r:lJ R [] n):n=[]:=by cases r;rfl
end
def sT (H:Hp) (x:V) (a:Hd):Prop:= ∃b,x= .ref b/\H b=some (.ak [.str a.1,.int a.2])
theorem IB {j:L2.St} (I:aA X h j H s): ∀ {d:List V} {c:List Value} {e:List Hd},aI d c->F2 (sT H) d e->cq s.heap c e/\F2 (λv a=> ∃b,v=di b/\H b=some (.ak [.str a.1,.int a.2])) c e
 | [],_,_,r,f=>by cases IA r;cases f.Ej;exact ⟨.nil,.nil⟩
 |y::d,_,_,r,f=>by
  obtain ⟨_,_,rfl,r,l⟩:=Ek r;obtain ⟨_,_,rfl,⟨b,rfl,i⟩,m⟩:=f.cH;obtain ⟨p,q⟩:=IB I l m;cases r;obtain ⟨_,c,w,o,z,B,n,E⟩:=(show bn X.prog X.w H s.heap b (.ak _) from I.aY b _ i)
  obtain ⟨_,_,rfl,⟨t,rfl⟩,J⟩:=Ek w;obtain ⟨_,_,rfl,⟨u,rfl⟩,L⟩:=Ek J;cases IA L;exact ⟨.cons ⟨b,o,n,t,u,rfl,z,B,E⟩ p,.cons ⟨b,rfl,i⟩ q⟩
theorem IC: ∀ {e:List Value} {d:List Hd},F2 (λv a=> ∃b,v=di b/\H b=some (.ak [.str a.1,.int a.2])) e d-> ∃c,aI c e/\F2 (sT H) c d
 |_,[],f=>by cases f.eU;exact ⟨[],.nil,.nil⟩
 |_,a::d,f=>by
  obtain ⟨_,_,rfl,⟨b,rfl,h⟩,t⟩:=f.eM;obtain ⟨c,i,j⟩:=IC t;exact ⟨.ref b::c,.cons rfl i,.cons ⟨b,rfl,h⟩ j⟩
end
def zl:List D->Option (List aQ)
 | []=>some []
 |d::r=>match eX d,zl r with
  |some k,some a=>some (k::a)
  |_,_=>none
def rO:D->Option (List aQ)
 | .ak a=>zl a
 |_=>none
def ls (a:List (List aQ)) (k:List aQ):Bool:=a.any λx=>decide (x=k)
def sU (a:List (List aQ)) (k:List aQ):List (List aQ):=if ls a k=true then a else a++[k]
def sV (a:List (List aQ)) (c:List D) (k:List aQ) (d:D):List D:=if ls a k=true then (a.zip c).map (λp=>if p.1=k then d else p.2) else c++[d]
section
variable {K:aC} {A:WZ} {H:Hp}
theorem uc: ∀ {e:List V} {a:List D} {c:List aQ},au K A H e a->zl a=some c->e=c.map kV
 | [],_,c,r,h=>by cases r.eU;cases h;rfl
 |v::e,_,c,r,h=>by
  obtain ⟨d,a,rfl,r,t⟩:=r.cH;unfold zl at h
  cases e1:eX d with
  |none=>rw [e1] at h;cases h
  |some k=>
   cases e2:zl a with
   |none=>rw [e1,e2] at h;cases h
   |some i=>
    rw [e1,e2] at h;cases h;rw [Jv r e1,uc t e2];rfl
def Sx (r:aL K A H y d) (h:rO d=some k): ∃b,y= .ref b/\H b=some (.ak (k.map kV)):=by
 cases d<;>try cases h
 obtain ⟨_,_,rfl,e,a⟩:=r.f;exact ⟨_,rfl,by rw [e,uc a h]⟩
def Sy (a:List (List aQ×V)) (k:List aQ):(a.any λc=>decide (c.1=k))=ls (a.map (·.1)) k:=by
 unfold ls;rw [List.any_map];rfl
theorem Vu (k:List aQ) (h:aL K A H v d): ∀ {a:List (List aQ×V)} {i:List D},au K A H (a.map (·.2)) i->au K A H ((a.map (λc=>if c.1=k then (c.1,v) else c)).map (·.2)) (((a.map (·.1)).zip i).map (λp=>if p.1=k then d else p.2))
 | [],_,r=>by cases r.eU;exact .nil
 | (l,n)::a,_,r=>by
  obtain ⟨_,_,rfl,m,r2⟩:=r.cH;have j:=Vu k h r2
  by_cases e:l=k
  . simp only [cL,sQ,e,if_true];exact .cons h (by simpa [e] using j)
  . simp only [cL,sQ,e,if_false];exact .cons m j
def Sz (k:List aQ) (r:au K A H (a.map (·.2)) e) (c:aL K A H v d):
   (putK a k v).map (·.1)=sU (a.map (·.1)) k/\au K A H ((putK a k v).map (·.2)) (sV (a.map (·.1)) e k d):=by
 unfold putK sU sV;rw [Sy]
 by_cases h:ls (a.map (·.1)) k=true
 . rw [if_pos h,if_pos h,if_pos h];refine ⟨?_,Vu k c r⟩;rw [mR];apply D7;intro p _;simp
   split<;>rfl
 . rw [if_neg h,if_neg h,if_neg h];refine ⟨by simp,?_⟩;rw [rH];exact r.append (.cons c .nil)
def aL.El (r:aL K A H v (.bV e h)): ∃a d,v= .ref a/\H a=some (.dT d)/\A a/\d.map (·.1)=e/\au K (λc=>A c/\c≠a) H (d.map (·.2)) h:=r.f
end
def SA {K:aC} {i:Nat} (k:ay K G u d h H) (j:d[i]?=some (.aw (.bV l m))): ∃a c,h[i]?=some (some (.ref a))/\H a=some (.dT c)/\c.map (·.1)=l/\au K (Sf G d h) H (c.map (·.2)) m:=by
 obtain ⟨a,n,v,o⟩:=k.aw i _ j
 cases o with
 |bV e p q r=>subst q;exact ⟨a,_,n,e,p,r⟩
def rP (i:Nat) (a:Sl):ao (List (List aQ)×List D):=match a[i]? with
 |some (.aw (.bV c d))=> .ok (c,d)
 |_=> .aj
def SD (h:rP i a= .ok p):a[i]?=some (.aw (.bV p.1 p.2)):=by
 unfold rP at h
 split at h
 . cases h;assumption
 . cases h
section
variable {X:Cx} {K:aC} {L l2:Lv} {e1 e2:Expr} {O N:T4} {U cj Y p:Pos} {x:Str}
def Em:Sl->ao D:=λ_=> .ok (.bV [] [])
def SE:DE X .t (.Dict [] [] U) Em:=by
 with_unfolding_all exact (PE.imp OX λh H Q=>by
  rintro ⟨G,i,c,d,k,e,q⟩;cases e
  exact λp a=>q _ _ (aq.aR a) (.bV jD (k.new p a) rfl rfl .nil) (qH (aq.refl H) a))
def sW (i:Nat) (O N:T4):Sl->ao aW:=λa=>rP i a>>=λq=>N a>>=λd=>O a>>=λc=>match rO c with
 |some k=>aV (q.1.length<aS) (.ok (.nx (a.set i (.aw (.bV (sU q.1 k) (sV q.1 q.2 k d))))))
 |none=> .aj
def SF (i:Nat) (hu:X.A.units+1<cLine) (hk:DE X L e1 O) (hv:DE X .s e2 N) (hN:X.N[i]?=some x:=by rfl) (z:fL X.env.scope x:=by exact du rfl)
   (hd:Y6 x:=by decide) (B:Y5 x:=by decide)
   (hs:g8 e2 (some (.Subscript (.Name x p) e1 Y)) U.line X.env=pure false:=by rfl):
   DS X (.Assign [.Subscript (.Name x p) e1 Y] e2 U) (sW i O N):=by
 with_unfolding_all exact (
  PS.imp (kn hu (wE hN z hd B) hk hv hs) λE σ H=>by
   rintro ⟨G,J,h,o,k,j,q⟩;obtain ⟨ks,c1,j⟩:=jd j;obtain ⟨d,c2,j⟩:=jd j;obtain ⟨Q,c3,u⟩:=jd j;have hi:=SD c1;obtain ⟨a,I,ha,hx,l,rs⟩:=SA k hi
   cases c:rO Q with
   |none=>rw [c] at u;cases u
   |some kk=>
    rw [c] at u;obtain ⟨hz,c5⟩:=ju u;cases c5;refine ⟨G,J,h,d,k,c2,λv H1 m r1 _=>⟨.ref a,ha,G,J,h,Q,k.am m,c3,λy H2 n r2 _=>?_⟩⟩;have r:=n _ _ (m _ _ hx);obtain ⟨b,rfl,hb⟩:=Sx (r2.aH Lv.aZ) c;have hl:I.length<aS:=by rw [<-l,dc] at hz;exact hz
    refine ⟨a,_,rfl,hX.t r hb hl,?_⟩;obtain ⟨p1,p2⟩:=Sz kk ((rs.am m).am n) (r1.am n);rw [l] at p1 p2;have W:=((k.am m).am n).ia hi ha r trivial λA' H' st e w=> .bV e p1 rfl (p2.a9 st w)
    exact q σ _ W.1 ((W.2.am n).am m))
def o6 (a:Hd):D:= .ak [.str a.1,.int a.2]
def SG (c:List Hd):Bool:=c.all λa=>decide (a.1.length<=aS)
theorem ID: ∀ {d:List V} {c:List Hd},F2 (sT H) d c->(∀a∈c,a.1.length<=aS)->au K A H d (c.map o6)
 |_,[],f,_=>by cases f.eU;exact .nil
 |_,a::c,f,h=>by
  obtain ⟨_,_,rfl,⟨b,rfl,e⟩,t⟩:=f.eM;exact .cons (.ak e (.cons (.str _ (h _ (by simp))) (.cons (.int _) .nil))) (ID t λa i=>h a (by simp [i]))
end
def dz (a:Hd):List aQ:=[.inr a.1,.inl a.2]
section
variable {X:Cx} {K:aC}
theorem Yx: ∀ {d:List (List aQ×V)} {i:List (List aQ×Addr×Value)} {c:List Hd},KT H d i->d.map (·.1)=c.map dz->F2 (sT H) (i.map λq=>V.ref q.2.1) c
 |_,_,c,.nil,e=>by
  cases c with
  |nil=>exact .nil
  |cons a r=>cases e
 |_,_,c,.cons h t,e=>by
  cases c with
  |nil=>cases e
  |cons a r=>
   simp at e;refine .cons ⟨_,rfl,?_⟩ (Yx t e.2);rw [h.2.1,e.1];rfl
theorem Vw: ∀(l:List Addr),aI (l.map V.ref) (l.map di)
 | []=> .nil
 |a::l=> .cons rfl (Vw l)
def UL (hc:X.bT=true):bK X (.builtin "sorted") (λL H Q=> ∃a d m,L=[.ref a]/\H a=some (.dT d)/\d.map (·.1)=m.map dz/\m.Nodup/\m.length<64/\ ∀l w,H l=none->F2 (sT H) w (ZO m)->Q (.ref l) (aR H l (.ai w))):=by
 intro y s σ H L w Q I r h;obtain ⟨a,d,m,rfl,ha,hk,nd,h64,q⟩:=h;obtain ⟨u,rfl,rx⟩:=ZK r;cases rx;obtain ⟨hz,lo,n,hp,o,es,ep,ho,hx,hd,he,_⟩:=(show bn X.prog X.w H s.heap a (.dT d) from I.aY a _ ha)
 have N:=Yx hp hk
 have hV:aI (n.map λq=>V.ref q.2.1) (n.map λq=>di q.2.1):=by
  have:=Vw (n.map λq=>q.2.1);simpa [mR,Function.comp_def] using this
 obtain ⟨hA,hR⟩:=IB I hV N;have O:n.length=m.length:=by simpa using N.length
 have hD:ms s.heap a (n.map λq=>di q.2.1) ep:=⟨o,es,ho,hx,hd,by rw [he,mR];rfl⟩
 refine Calls.call_function_entry kind_sorted plain_sorted entry_sorted (args_sorted1 _) ?_;unfold mM.«sorted»;refine az (ba (az (PySem.W.kdu_collect (Sm lo) (show X.A.in1.handled=none from I.ok.hd hc) hD (by rw [dc,ol];omega) λh' tk p z j=>?_)))
 have v:p.toList=n.map λq=>di q.2.1:=by
  apply Ea;intro i;have hl:p.toList.length=(n.map λq=>di q.2.1).length:=by rw [o4];exact j.1
  by_cases U:i<p.toList.length
  . rw [cU U];exact (j.2 i _ (by rw [<-Bl];exact cU U)).symm
  . rw [mP (by omega),mP (by omega)]
 rw [v];refine U8 (hA.keep λb o e _=>z b o e) nd (by rw [dc];omega) λw h2 c B k e=>?_
 obtain ⟨E,v1,Y⟩:=IC (B _ hR);have I1:aA X y σ H {s with heap:=h',toks:=tk}:=I.kept z
 have J:E.length<=aS:=by
  have a1:=Y.length;have a2:=(yh m).length_eq;rw [ol];omega
 exact ⟨.ref _,_,I1.laid k (br _) (show bn X.prog X.w _ h2 _ (.ai E) from ⟨J,w,c,v1,e⟩),rfl,q _ E (I1.aY.fresh (br _)) Y⟩
def En:List aQ->Option Hd
 | [.inr z,.inl k]=>some (z,k)
 |_=>none
def Zn:List (List aQ)->Option (List Hd)
 | []=>some []
 |d::r=>match En d,Zn r with
  |some a,some c=>some (a::c)
  |_,_=>none
theorem Ut: ∀ {e:List (List aQ)} {c:List Hd},Zn e=some c->e=c.map dz
 | [],c,h=>by cases h;rfl
 |d::r,c,h=>by
  unfold Zn at h
  cases e1:En d with
  |none=>rw [e1] at h;cases h
  |some a=>
   cases e2:Zn r with
   |none=>rw [e1,e2] at h;cases h
   |some i=>
    rw [e1,e2] at h;cases h;rw [Ut e2];unfold En at e1
    split at e1
    . cases e1;rfl
    . cases e1
def Y2:List D->ao D
 | [.bV c _]=>match Zn c with
  |some a=>aV (a.Nodup/\a.length<64/\SG a=true) (.ok (.ai ((ZO a).map o6)))
  |none=> .aj
 |_=> .aj
def SH:Ve K (λB H Q=> ∃a h i,B=[.ref a]/\H a=some (.dT h)/\h.map (·.1)=i.map dz/\i.Nodup/\i.length<64/\ ∀l m,H l=none->F2 (sT H) m (ZO i)->Q (.ref l) (aR H l (.ai m))) Y2:=by
 intro A B H U d Q r e q;unfold Y2 at e
 split at e
 . rename_i E Y
   cases n:Zn E with
   |none=>rw [n] at e;cases e
   |some i=>
    rw [n] at e;obtain ⟨⟨I,o,u⟩,e2⟩:=ju e;cases e2;obtain ⟨v,rfl,J⟩:=r.one;obtain ⟨p,h,rfl,L,_,w,_⟩:=J.El;refine ⟨p,h,i,rfl,L,by rw [w];exact Ut n,I,o,λl m j N=>q _ _ (aq.aR j) (.ai jD (.inl j) ?_) (qH (aq.refl H) j)⟩
    have y: ∀a∈ZO i,a.1.length<=aS:=λa O=>by
     have:=m9.mp u a ((yh i).mem_iff.mp O);simpa using this
    exact ((ID (A:=λ_=>False) N y).am (aq.aR j)).aH λc z=>z.elim
 . cases e
end
section
variable {prog:bH} {w:World} {A:bQ} {E:Vt} {s:aM}
theorem vp: ∀ {c:List Int} {l:List Value},aI (c.map V.int) l->l.length=c.length/\ ∀i v,l[i]?=some v-> ∃t,v=Value.int (c.getD i 0) t
 | [],_,.nil=>⟨rfl,λi v h=>by cases h⟩
 |i::c,_,.cons h t=>by
  obtain ⟨a,b⟩:=vp t;refine ⟨by simp [a],λj v d=>?_⟩
  cases j with
  |zero=>
   simp at d;subst d;obtain ⟨t,e⟩:=h;exact ⟨t,by rw [e];rfl⟩
  |succ j=>simp at d;simpa using b j v d
end
def XA:List D->Option (List Int)
 | []=>some []
 | .int b::r=>(XA r).map (b:: ·)
 |_=>none
theorem Z8: ∀ {a:List D} {bs:List Int},XA a=some bs->a=bs.map D.int
 | [],bs,h=>by cases h;rfl
 |d::r,bs,h=>by
  cases d with
  |int b=>
   simp only [XA,Db] at h;obtain ⟨c,e,rfl⟩:=h;rw [Z8 e];rfl
  |_=>cases h
def SI (bs:List Int):XA (bs.map D.int)=some bs:=by
 induction bs with
 |nil=>rfl
 |cons b r a=>simp [XA,a]
section
variable {X:Cx} {K:aC} {l l' l2:Lv}
theorem Xc {A:WZ} {H:Hp}: ∀ {bs:List Int} {a:List V},au K A H a (bs.map D.int)->a=bs.map V.int
 | [],_,.nil=>rfl
 |b::bs,_,.cons h t=>by rw [h.cM,Xc t];rfl
variable {x:Str} {p pos t5:Pos} {e e2:Expr} {fa f2:T4}
end
end M
namespace M
open PySem PySem.Spec L2
open PyProof.Rows hiding St
open PySem.SeqAt
section
variable {X:Cx} {K:aC}
theorem km {A:WZ} {H:Hp}: ∀ {l:List V} {e:List D} {j:List Value},au K A H l e->aI l j->j.length=e.length/\ ∀(i:Nat) (u:Value),j[i]?=some u-> ∃x d,e[i]?=some d/\aK x u/\aL K A H x d
 |_,_,_,.nil,.nil=>⟨rfl,λi u h=>by cases h⟩
 |_,_,_,.cons r t,.cons h m=>by
  obtain ⟨a,b⟩:=km t m;refine ⟨by simp [a],λi u c=>?_⟩
  cases i with
  |zero=>simp at c;subst c;exact ⟨_,_,rfl,h,r⟩
  |succ i=>simp at c;simpa using b i u c
def oK (a:List D) (d:D):Bool:=a.any λy=>bG y d
def rQ (K:aC) (neg:Bool):R2:=λx y H Q=> ∃p c a d,y= .ref p/\da K H p c/\au K Any H c a/\aL K Any H x d/\(D.bS a=true/\D.cm d=true/\D.cE a<=190)/\Q (.bl (if neg then !oK a d else oK a d)) H
open Classical in
theorem IE {o:List (Addr×Obj)} {s:aM} {O:L2.St} {H:Hp} (I:aA X o O H s) (hu:X.A.units+200<cLine) {a:List Value} {B:List V} {l:List D} {x:V} {v:Value} {d:D} (Q:aK x v) (U:au X.K Any H B l) (Y:aI B a) (r:aL X.K Any H x d)
   (E:D.bS l=true/\D.cm d=true/\D.cE l<=190): ∃e:Value->Bool,(∀y,y∈a.toArray->EqAt X.A.in1 s y v (e y))/\a.toArray.any e=oK l d:=by
 obtain ⟨hl,p⟩:=km U Y;refine ⟨λy=>decide (∃(i:Nat) (c:D),a[i]?=some y/\l[i]?=some c/\bG c d=true),λy hy=>?_,?_⟩
 . have q: ∀(i:Nat) (c:D),a[i]?=some y->l[i]?=some c->EqAt X.A.in1 s y v (bG c d):=λi c u m=>by
     obtain ⟨J,d2,j,L,N⟩:=p i y u;rw [m] at j;cases j;have w:=gu m;have SJ:=yP w
     exact WT I c X.A.in1 J x y v d (by
      show X.A.units+1+c.dE<cLine
      omega) N L r Q (yM E.1 w) E.2.1
   dsimp only
   by_cases h: ∃(i:Nat) (c:D),a[i]?=some y/\l[i]?=some c/\bG c d=true
   . obtain ⟨i,c,u,m,j⟩:=h;have:=q i c u m;rw [j] at this;rw [decide_eq_true (show∃(i:Nat) (c:D),a[i]?=some y/\l[i]?=some c/\bG c d=true from ⟨i,c,u,m,j⟩)];exact this
   . rw [decide_eq_false h];obtain ⟨i,n⟩:=Eo.mp (show y∈a by simpa using hy);obtain ⟨J,d2,j,L,N⟩:=p i y n;have:=q i d2 n j
     have e:bG d2 d=false:=by
      cases z:bG d2 d with
      |false=>rfl
      |true=>exact absurd ⟨i,d2,n,j,z⟩ h
     rw [e] at this;exact this
 . rw [Bool.eq_iff_iff];unfold oK;rw [sX];simp only [List.any_toArray,sX,decide_eq_true_eq]
   constructor
   . rintro ⟨y,_,i,c,_,m,j⟩;exact ⟨c,gu m,j⟩
   . rintro ⟨c,w,j⟩;obtain ⟨i,n⟩:=Eo.mp w
     have cV:i<a.length:=by
      rw [hl];exact (iD.mp n).1
     exact ⟨a[i],nY cV,i,c,cU cV,n,j⟩
def SK (c:X.A.units+200<cLine):cp X (eR .In) (rQ X.K false):=by
 intro a s J H x y v u Q I i j h;obtain ⟨p,L,N,d,rfl,l,m,r,n,q⟩:=h;cases j;obtain ⟨o,w,z,O⟩:=I.list l;obtain ⟨e,B,E⟩:=IE I c i m w r n;refine SeqAt.in_listAt e z.isList B ⟨.bl _,H,I,rfl,?_⟩;rw [E];exact q
def IF (c:X.A.units+200<cLine):cp X (eR .NotIn) (rQ X.K true):=by
 intro a s J H x y v u Q I i j h;obtain ⟨p,L,N,d,rfl,l,m,r,n,q⟩:=h;cases j;obtain ⟨o,w,z,O⟩:=I.list l;obtain ⟨e,B,E⟩:=IE I c i m w r n;refine SeqAt.notIn_listAt e z.isList B ⟨.bl _,H,I,rfl,?_⟩;rw [E];exact q
def io (neg:Bool):D->D->ao D
 |d,.ai a=>aV (D.bS a=true/\D.cm d=true/\D.cE a<=190) (.ok (.bl (if neg then !oK a d else oK a d)))
 |_,_=> .aj
def Ep (neg:Bool):ej K (rQ K neg) (io neg):=by
 intro x y H a b d Q c h e q;unfold io at e
 split at e
 . obtain ⟨i,e2⟩:=ju e;cases e2;obtain ⟨p,j,rfl,l,_,m⟩:=h.cC;exact ⟨p,j,_,_,rfl,.of l,m.aH (λ_ _=>trivial),c,i,q _ (iM _)⟩
 . cases e
end
end M
namespace M
open PySem PySem.Spec L2
open PyProof.Rows hiding St
def UP:jW "sorted" =some (.builtin "sorted"):=by decide+kernel
section
variable {X:Cx} {id:String} {r:List V->Hp->VK->Prop} {g:T0} {x:Str} {p Y:Pos} {e:Expr} {U:List Expr} {Q:T1}
def SM (d:bK X (.builtin id) r) (i:Ve X.K r g) (j:Gl X x) (l:X.mg x=none) (m:jW x=some (.builtin id))
   (n:DA X .s (e::U) Q) (o:x≠ "__name__" :=by decide) (a:Y6 x:=by decide)
   (q:Vs X e U:=by exact jm rfl) (c:Vr X Y U:=by exact jF rfl):DE X .t (.Call (.Name x p) (e::U) [] Y) (app Q g):=by
 with_unfolding_all exact (
  PE.imp (WJ d j l m n o a q c) λ_ _ _ h=>Hj i h)
variable {ex:Expr} {t:T3}
end
end M
namespace M
open PySem PySem.Spec L2
mutual
def dS:D->List Int
 | .int i=>[i]
 | .ak (_::a)=>dH a
 |_=>[]
def dH:List D->List Int
 | []=>[]
 |d::r=>dS d++dH r
end
mutual
def bare:D->D
 | .ak (x::a)=> .ak (x::pj a)
 |_=> .int 0
def pj:List D->List D
 | []=>[]
 |d::r=>bare d::pj r
end
theorem UR: ∀a,dH a=a.flatMap dS
 | []=>rfl
 |d::r=>by simp [dH,UR r]
theorem yL: ∀ {a:List D},(∀t∈a,D.cm t=true)->D.bS a=true
 | [],_=>rfl
 |x::r,h=>by simp only [D.bS,dD];exact ⟨h x (by simp),yL λd c=>h d (by simp [c])⟩
theorem IG: ∀ {ts:List D},(∀t∈ts,D.dE t<=k)->D.cE ts<=k
 | [],_=>by simp [D.cE]
 |x::r,h=>by
  simp only [D.cE];have:=h x (by simp);have:=IG (ts:=r) λd a=>h d (by simp [a])
  omega
theorem UA: ∀ {a:List D},(∀t∈a,bG t t=true)->bY a a=true
 | [],_=>by simp [bY]
 |x::r,h=>by simp only [bY,dD];exact ⟨h x (by simp),UA λd c=>h d (by simp [c])⟩
def ins (l:List Int) (x:Int):List Int:=if x∈l then l else l++[x]
def met (l a:List Int):List Int:=a.foldl ins l
def SN (l:List Int) (x:Int) (a:List Int):met l (x::a)=met (ins l x) a:=rfl
def SO:y∈ins l x↔y∈l\/y=x:=by
 unfold ins
 split
 . rename_i h;exact ⟨.inl,λz=>z.elim id λe=>by rw [e];exact h⟩
 . simp
theorem kP: ∀ {a l:List Int} {y:Int},y∈met l a↔y∈l\/y∈a
 | [],l,y=>by simp [met]
 |x::a,l,y=>by
  rw [SN,kP,SO];simp only [bJ,or_assoc]
def dX (n:Nat):List Int->List D
 | []=>[]
 |_::r=> .int n::dX (n+1) r
def dZ (l:List Int):List aQ:=l.map jU
def SQ (l:List Int) (x:Int):ez (dZ l) (.inl x)=decide (x∈l):=by
 induction l with
 |nil=>rfl
 |cons a l c=>
  unfold ez dZ at c ⊢;rw [cL,sF,c]
  by_cases h:a=x
  . subst h;simp
  . have:x≠a:=λe=>h e.symm
    simp [h,this]
def SR (l:List Int):(dZ l).length=l.length:=by simp [dZ]
mutual
def tk (a:List Str):D->Bool
 | .int _=>true
 | .ak (.str z::c)=>decide (z∈a)&&(decide (c.length<=9)&&pk a c)
 |_=>false
def pk (a:List Str):List D->Bool
 | []=>true
 |d::r=>tk a d&&pk a r
end
section
variable {ns:List Str}
mutual
theorem qV {P:D->Prop} (c: ∀i,P (.int i)) (d: ∀z a,z∈ns->a.length<=9->(∀t∈a,tk ns t=true/\P t)->P (.ak (.str z::a))): ∀t,tk ns t=true->P t
 | .int i,_=>c i
 | .ak (x::a),h=>by
  cases x with
  |str z=>
   simp only [tk,dD,decide_eq_true_eq] at h;exact d z a h.1 h.2.1 (lT c d a h.2.2)
  |_=>simp [tk] at h
 | .ak [],h=>by simp [tk] at h
 | .aU,h=>by simp [tk] at h
 | .bl _,h=>by simp [tk] at h
 | .str _,h=>by simp [tk] at h
 | .ai _,h=>by simp [tk] at h
 | .ei _,h=>by simp [tk] at h
 | .aP _ _,h=>by simp [tk] at h
 | .bV _ _,h=>by simp [tk] at h
 | .gm _,h=>by simp [tk] at h
 | .gL _ _,h=>by simp [tk] at h
 | .gM _ _,h=>by simp [tk] at h
 | .obj _ _ _,h=>by simp [tk] at h
 | .mem _ _,h=>by simp [tk] at h
 | .cZ _,h=>by simp [tk] at h
theorem lT {P:D->Prop} (l: ∀i,P (.int i)) (m: ∀z c,z∈ns->c.length<=9->(∀t∈c,tk ns t=true/\P t)->P (.ak (.str z::c))): ∀c,pk ns c=true-> ∀t∈c,tk ns t=true/\P t
 | [],_,t,j=>by cases j
 |d::r,h,t,j=>by
  simp only [pk,dD] at h;have a:=qV l m d h.1;have b:=lT l m r h.2;rcases bJ.mp j with e|e
  . rw [e];exact ⟨h.1,a⟩
  . exact b t e
end
theorem IH: ∀ {a:List D},(∀t∈a,tk ns t=true)->pk ns a=true
 | [],_=>rfl
 |x::r,h=>by simp only [pk,dD];exact ⟨h x (by simp),IH λd c=>h d (by simp [c])⟩
theorem II: ∀ {a:List D} {t:D},pk ns a=true->t∈a->tk ns t=true
 |x::r,t,h,ht=>by
  simp only [pk,dD] at h;rcases bJ.mp ht with rfl|ht
  . exact h.1
  . exact II h.2 ht
def Q3 (c:z∈ns) (h:a.length<=9) (d: ∀t∈a,tk ns t=true):tk ns (.ak (.str z::a))=true:=by
 simp only [tk,dD,decide_eq_true_eq];exact ⟨c,h,IH d⟩
def j7 (h:tk ns t=true):(∃i,t= .int i)\/ ∃z a,t= .ak (.str z::a)/\z∈ns/\a.length<=9/\ ∀u∈a,tk ns u=true:=by
 cases t with
 |int i=>exact .inl ⟨i,rfl⟩
 |ak c=>
  cases c with
  |nil=>simp [tk] at h
  |cons x a=>
   cases x with
   |str z=>
    simp only [tk,dD,decide_eq_true_eq] at h;exact .inr ⟨z,a,rfl,h.1,h.2.1,λu d=>II h.2.2 d⟩
   |_=>simp [tk] at h
 |_=>simp [tk] at h
def yE: ∀t,tk ns t=true->cn t=true:=qV (λi=>rfl) λz c _ d h=>by
 simp only [cn,bt,dD,decide_eq_true_eq,bO,true_and];exact ⟨by omega,WR λt a=>(h t a).2⟩
def uh: ∀t,tk ns t=true->t.j2=true:=qV (λi=>rfl) λz a _ d h=>by
 show (true&&D.dQ a)=true;rw [Bool.true_and];exact iP.mpr λt c=>(h t c).2
def vK: ∀t,tk ns t=true-> ∀p∈bv t,tk ns p=true:=qV (λi=>by simp [bv,tk]) λz u m n h=>by
 simp only [bv];intro p o;rcases bJ.mp o with e|e
 . rw [e];exact Q3 m n λt j=>(h t j).1
 . have a: ∀c:List D,cX c=c.flatMap bv:=λc=>by
    induction c with
    |nil=>rfl
    |cons d r q=>simp [cX,q]
   rw [a] at e;obtain ⟨t,j,l⟩:=yr.mp e;exact (h t j).2 p l
def dI:List D->List Int
 | []=>[]
 | .int i::r=>i::dI r
 |_::r=>dI r
theorem KH: ∀a b,dI (a++b)=dI a++dI b
 | [],b=>rfl
 |d::r,b=>by
  have c:=KH r b;cases d<;>simp [dI,c]
def oM:List D->List Hd
 | []=>[]
 | .ak (.str z::a)::r=>(z,(a.length:Int))::oM r
 |_::r=>oM r
def SS (z:Str) (a r:List D):oM (.ak (.str z::a)::r)=(z,(a.length:Int))::oM r:=rfl
theorem IJ: ∀ {a:List D},(∀t∈a,tk ns t=true)-> ∀x∈oM a,x.1∈ns/\0<=x.2/\x.2<=9
 | [],_,x,c=>by cases c
 |d::r,h,x,c=>by
  have j:=IJ (a:=r) λt l=>h t (by simp [l])
  rcases j7 (h d (by simp)) with ⟨i,rfl⟩| ⟨z,n,rfl,m,o,_⟩
  . exact j x c
  . rw [SS] at c;rcases bJ.mp c with e|e
    . rw [e];exact ⟨m,by simp,by simp;omega⟩
    . exact j x e
def eO (l:List Hd) (a:Hd):List Hd:=if a∈l then l else l++[a]
def mu (l a:List Hd):List Hd:=a.foldl eO l
def SU (h:l.Nodup):(eO l a).Nodup:=by
 unfold eO
 split
 . exact h
 . rename_i i;refine Er.mpr ⟨h,by simp,λx c y d=>?_⟩;simp at d;rw [d];intro e;rw [e] at c;exact i c
theorem IK: ∀ {xs l:List Hd},l.Nodup->(mu l xs).Nodup
 | [],l,h=>h
 |x::xs,l,h=>IK (xs:=xs) (SU h)
def SV (h:x∈eO l a):x∈l\/x=a:=by
 unfold eO at h
 split at h
 . exact .inl h
 . simpa using h
theorem ui: ∀ {a l:List Hd} {x:Hd},x∈mu l a->x∈l\/x∈a
 | [],l,x,h=> .inl h
 |y::a,l,x,h=>by
  rcases ui (l:=eO l y) h with z|z
  . rcases SV z with z|z
    . exact .inl z
    . exact .inr (by simp [z])
  . exact .inr (by simp [z])
theorem Zl {c:Type} [BEq c] [LawfulBEq c]: ∀ {l m:List c},l.Nodup->(∀x∈l,x∈m)->l.length<=m.length
 | [],m,_,_=>by simp
 |a::l,m,h,i=>by
  have j:=sy.mp h;have n:=i a (by simp)
  have:=Zl (m:=m.erase a) j.2 λx d=>by
   refine (List.mem_erase_of_ne λe=>?_).mpr (i x (by simp [d]));rw [e] at d;exact j.1 d
  rw [List.length_erase_of_mem n] at this;have o:=List.length_pos_of_mem n;simp;omega
def Ur {l:List Hd} (h:l.Nodup) (a: ∀x∈l,x.1∈ns/\0<=x.2/\x.2<=9):l.length<=ns.length*10:=by
 have:=Zl (m:=ns.flatMap λz=>(ke 10).map λk=>(z,((k:Nat):Int))) h λx c=>by
  obtain ⟨d,i,n⟩:=a x c;refine yr.mpr ⟨x.1,d,gO.mpr ⟨x.2.toNat,n9.mpr (by omega),?_⟩⟩;rw [Int.toNat_of_nonneg i]
 have e:(ns.flatMap λz=>(ke 10).map λk=>(z,((k:Nat):Int))).length=ns.length*10:=by
  clear this a h
  induction ns with
  |nil=>rfl
  |cons z r j=>rw [Es,cP,j];simp;omega
 omega
def SW:dz a=dz b↔a=b:=by
 constructor
 . intro h;cases a;cases b;simp [dz] at h;simp [h]
 . intro h;rw [h]
def SX (l:List Hd) (a:Hd):ls (l.map dz) (dz a)=decide (a∈l):=by
 unfold ls;rw [List.any_map]
 induction l with
 |nil=>rfl
 |cons b l c=>
  rw [sF,c];simp only [Function.comp_apply,SW]
  by_cases h:b=a
  . subst h;simp
  . have:a≠b:=λe=>h e.symm
    simp [h,this]
def df (l:List Hd):List D:=l.map λ_=> .bl true
def SY (l:List Hd) (a:Hd):sU (l.map dz) (dz a)=(eO l a).map dz/\sV (l.map dz) (df l) (dz a) (.bl true)=df (eO l a):=by
 unfold sU sV eO;rw [SX]
 by_cases h:a∈l
 . simp only [h,decide_true,if_true,true_and];clear h
   induction l with
   |nil=>rfl
   |cons b l c=>
    simp only [df,cL,sQ] at c ⊢;rw [c];simp
 . simp [h,df]
theorem YH: ∀l:List Hd,Zn (l.map dz)=some l
 | []=>rfl
 |a::l=>by
  simp only [cL,Zn,YH l];rfl
def u0 (c:l.Nodup) (d:l.length<64) (e: ∀a∈l,a.1.length<=aS):Y2 [.bV (l.map dz) i]= .ok (.ai ((ZO l).map o6)):=by
 show (match Zn (l.map dz) with|some j=>_|none=>_)=_;rw [YH];exact jl ⟨c,d,m9.mpr λa h=>by simpa using e a h⟩
def S0: ∀ {c:Type} (l:List c),iS [.ai (l.map λ_=> .bl true)]= .ok (.bl true):=λl=>by
 have e:Yk (l.map λ_=>D.bl true)=some (l.map λ_=>true):=by
  induction l with
  |nil=>rfl
  |cons a l d=>simp [Yk,d]
 show (match Yk (l.map λ_=>D.bl true) with|some bs=>_|none=>_)=_;rw [e];simp
end
end M
namespace M
open PySem PySem.Spec L2
open PyProof.Rows hiding St
section
variable {X:Cx} {Q:List (Addr×Obj)} {N:L2.St} {H:Hp} {s:aM}
def yC (I:aA X Q N H s) (k: ∀b o,b≠d->b≠h->s.heap.get? b=some o->j.get? b=some o) (E:cQ X Q H d) (J:cQ X Q H h):aA X Q N H {s with heap:=j,toks:=t'}:=by
 obtain ⟨L,l,_,O,U,Y⟩:=E;obtain ⟨b0,p,_,b3,b4,b5⟩:=J;have w: ∀b u,H b=some u->b≠d:=λb u e z=>by rw [z,L] at e;cases e
 have y: ∀b u,H b=some u->b≠h:=λb u e z=>by rw [z,b0] at e;cases e
 have i: ∀b o,b∉[d,h]->s.heap.get? b=some o->j.get? b=some o:=λb o a e=>k b o (λz=>a (by simp [z])) (λz=>a (by simp [z])) e
 refine I.step (λb B=>?_) (λb o _ _ a e _=>i b o a e) (λb o _ _ a e _=>⟨o.slots,i b o a e⟩) (λ_ _ _ _ n=>n)
   (λb o a e=>⟨o,i b o a e⟩) (λ_ _ e=>e) (λ_ _ _ e=>e) (λb ps e=>⟨#[],by rw [e];simp⟩) (λm hm=>?_) (λb u e=>?_) I.bare
 . simp at B;rcases B with rfl|rfl
   . exact ⟨O,l,U,Y⟩
   . exact ⟨b3,p,b4,b5⟩
 . obtain ⟨o,es,ep,ho,r⟩:=hm;exact ⟨o,es,ep,k _ o (iH l) (iH p) ho,r⟩
 . refine (I.aY b u e).a9 (λc v a q=>k c v ?_ ?_ q) (λ_ q=>q) λ_ _ q=>q
   . rcases a with z|z
     . rw [z];exact w b u e
     . exact w c _ z
   . rcases a with z|z
     . rw [z];exact y b u e
     . exact y c _ z
end
def S1 (K:aC) (a:Addr) (c:List V):It:=⟨λi H=>da K H a c/\i<c.length,λi H v d=> ∃p x,H p=none/\c[i]?=some x/\v= .ref p/\d=aR H p (.ak [.int (i:Int),x]),λi H=>da K H a c/\c.length<=i⟩
def S4 {K:aC} (a l e:Addr) (xs:List V) (J:e≠l):Turn P w K (.Tuple elts n pos) (S1 K a xs) [e,l] e (λi h=>(∃d,IsEnum h e l (i:Int) d)/\h.IsListIter l a i) where
 mem:=by simp
 obj:=λi h st b q=>by
  obtain ⟨⟨d,m⟩,o,ho,hc,hd⟩:=st;simp at q;rcases q with rfl|rfl
  . exact ⟨_,m,λv z=>by cases z⟩
  . exact ⟨o,ho,λv z=>by rw [hd] at z;cases z⟩
 keep:=λi h h' st k=>by
  obtain ⟨⟨d,m⟩,j⟩:=st;exact ⟨⟨d,k e (by simp) _ m⟩,j.at λo x=>k l (by simp) o x⟩
 item:=by
  intro X hP hw hK hc i c s σ H E I L st hg;subst hP hw hK;obtain ⟨hq,hi⟩:=hg;obtain ⟨mL,rv,p,hz⟩:=I.list hq;have hx:=cU hi;obtain ⟨u,hu,ru⟩:=rv.get hx;obtain ⟨⟨d,m⟩,j⟩:=st;have fe:=L e (by simp);have fi:=L l (by simp);refine wpAny_pyNext_enum_item m j p.isList (by simpa using hu) J λh' ho N hT rK hk=>?_
  refine ⟨_,rfl,wpAny_letOwnedTupleGo_enum ho λnk Et O=>?_⟩;have Q:=b6 m;have U:l<s.heap.objs.size:=by obtain ⟨_,x,_⟩:=j;exact b6 x
  have nj:=I.aY.fresh (br _)
  have I1:aA X c σ (aR H s.heap.objs.size (.ak [.int (i:Int),xs[i]])) {s with heap:=s.heap.push {cls:= .type "tuple",data:= .seq #[.int i s.toks,u]}}:=
    I.laid (λb o e=>bW _ e) (br _) ⟨cY (show 2<=20 by decide) (by decide),[.int i s.toks,u],.cons ⟨_,rfl⟩ (.cons ru .nil),⟨_,dn _ rfl,rfl,_,rfl⟩⟩
  have Y:cQ X c (aR H s.heap.objs.size (.ak [.int (i:Int),xs[i]])) e:=⟨by rw [j3 (eB Q)];exact fe.1,fe.2⟩
  have zu:cQ X c (aR H s.heap.objs.size (.ak [.int (i:Int),xs[i]])) l:=⟨by rw [j3 (eB U)];exact fi.1,fi.2⟩
  have I2:=yC (t':=s.toks+1) I1 (λb o r B eo=>by
    refine (O.2 b r).trans ?_
    by_cases q:b=s.heap.objs.size
    . subst q;rw [dn _ rfl] at eo;rw [<-eo];exact hT
    . have rR:s.heap.get? b=some o:=by
       rcases Bu eo with ⟨z,_⟩|z
       . exact absurd z q
       . exact z
      exact hk b o r B rR) Y zu
  refine ⟨.ref s.heap.objs.size,_,I2,rfl,⟨_,_,nj,hx,rfl,rfl⟩,⟨⟨_,by simpa using Et⟩,N.at λo y=>(O.2 l J.symm).trans y⟩,λb q=>?_⟩;simp at q;rcases q with rfl|rfl
  . exact Y.1
  . exact zu.1
 done:=by
  intro X hP hw hK hc i c s σ H E I L st hg;subst hP hw hK;obtain ⟨hq,hi⟩:=hg;obtain ⟨mL,rv,p,hz⟩:=I.list hq;obtain ⟨⟨d,m⟩,j⟩:=st;have hl:=rv.length;refine wpAny_pyNext_enum_end (I.ok.hd hc) m j p.isList (by simp;omega) λh' eb=>⟨rfl,yC I (λb o r B eo=>eb b o B eo) (L e (by simp)) (L l (by simp))⟩
 self:=λ_ _ _ _ _ st h=>let ⟨⟨_,m⟩,_⟩:=st;Bv m h
section
variable {X:Cx} {U:List Expr} {n:Nat} {Y p O:Pos} {e:Expr} {f:T4}
def jS:Nat->List D->List D
 |_,[]=>[]
 |k,d::r=> .ak [.int (k:Int),d]::jS (k+1) r
theorem Xi: ∀(k:Nat) (a:List D),(jS k a).length=a.length
 |_,[]=>rfl
 |k,d::r=>by simp [jS,Xi (k+1) r]
theorem Xj: ∀(k i:Nat) (a:List D),(jS k a)[i]?=(a[i]?).map λd=> .ak [.int ((k+i:Nat):Int),d]
 |k,i,[]=>by simp [jS]
 |k,0,d::r=>by simp [jS]
 |k,i+1,d::r=>by
  simp only [jS,zx];rw [Xj (k+1) i r];congr 1;funext d;congr 3;omega
def k9 (f:T4):Sl->ao (List D):=λa=>f a>>=λd=>match d with
 | .ai c=> .ok (jS 0 c)
 | .ei c=> .ok (jS 0 c)
 |_=> .aj
def S5 (hg:Gl X "enumerate") (hm:X.mg "enumerate" =none) (h:DE X .s e f) (hs:bg [e] X.env=[(false,eval e X.env)]:=by rfl):DI X (.Tuple U n Y) (.Call (.Name "enumerate" p) [e] [] O) (k9 f):=by
 have hE:PE X e (tE X.K .s f):=by with_unfolding_all exact h
 with_unfolding_all exact (show PI X (.Tuple U n Y) (.Call (.Name "enumerate" p) [e] [] O) (tI X.K (k9 f)) from by
  rintro j s L H R I ⟨G,H0,c,ds,k,ef,q⟩;obtain ⟨d,e1,e2⟩:=jd ef
  have hA:PA X [e] (tA X.K .s λc=>f c>>=λd=> .ok [d]):=by
   have:=j8 hE wF hs;rintro ps j s L H Q I ⟨G,H0,c,ds,k,ef,q⟩;obtain ⟨d,c1,c2⟩:=jd ef;cases c2;exact this ps j s L H Q I ⟨G,H0,c,d,k,c1,λv m l r1 _=>q [v] m l (.cons r1 .nil)⟩
  refine Call_ (Ju I hg hm boot_enumerate (oh (bc (hA O j s L H (λvs m=> ∃v,vs=[v]/\aq H m/\aL X.K (Sf G c L) m v d) I ⟨G,H0,c,[d],k,by show (f c>>=_)=_;rw [e1];rfl,λvs m l r1=>by obtain ⟨v,rfl,r⟩:=r1.one;exact ⟨v,rfl,l,r⟩⟩) λus l ⟨vs,m,I1,r1,v,ev,sm,rep⟩=>?_) hs rfl));subst ev;obtain ⟨u,rfl,ru⟩:=ZK r1;have k1:=k.am sm
  have J: ∀(a:Addr) (B:List V) (N:List D) (P:Hp->Prop),u= .ref a->da X.K m a B->au X.K (Sf G c L) m B N->ds=jS 0 N->P m->(∀w,P w->da X.K w a B)->(∀E fR w,be c L m E fR w->P w)->wpAny (model X.prog X.w) X.A (call (.type "enumerate") [u]) (λv l=>wpAny (model X.prog X.w) X.A (pyIter v) (CB X j L (.Tuple U n Y) R) X.xe l) X.xe l:=by
   intro a B N P eu hq rs S6 p0 pq oE;subst eu;obtain ⟨mL,rv,pl,hz⟩:=I1.list hq;refine call_enumerate_list pl.isList λh' he hit rK hk=>Bv he ?_
   have I2:=I1.kept (t':=l.toks) hk;refine ⟨l.heap.objs.size+1,[l.heap.objs.size+1,l.heap.objs.size],_,_,m,rfl,I2,S4 a l.heap.objs.size (l.heap.objs.size+1) B (Nat.succ_ne_self _),⟨⟨_,he⟩,hit⟩,λb hb=>?_,?_⟩
   . simp at hb;rcases hb with rfl|rfl
     . exact I1.eQ (nS _) (I1.aY.fresh (nS _))
     . exact I1.eQ (br _) (I1.aY.fresh (br _))
   . refine q _ m P sm (λi w pp=>?_) p0 oE;have hl:=rs.length;subst S6;rw [Xi];refine ⟨λhi=>⟨pq w pp,by omega⟩,λd hd x H2 y=>?_,λhi=>⟨pq w pp,by omega⟩⟩;obtain ⟨p,x',hp,mn,rfl,rfl⟩:=y;obtain ⟨d',Eu,rd⟩:=rs.get' mn;rw [Xj,Eu] at hd;cases hd;exact .inr ⟨p,_,_,hp,rfl,rfl,rfl,.cons (by rw [pi];exact .int _) (.cons rd .nil)⟩
  cases d with
  |ai N=>
   cases e2;obtain ⟨a,B,rfl,ha,na,rs⟩:=rep.cC;exact J a B N (λH=>H a=some (.ai B)) ru (.of ha) rs.low rfl ha (λw z=> .of z) λE fR w fr=>fr.keep a _ ha na.1
  |ei N=>
   cases e2;obtain ⟨a,B,rfl,ha,rs⟩:=rep.m7;refine J a B N (λH=>m6 X.K H a B) ru ha.nW rs rfl ha (λw z=>z.nW) λE fR w fr=>?_
   rcases ha with ⟨o,eo⟩|z
   . exact .inl ⟨o,fr.keep a _ eo λow=>(k1.li ow eo).elim⟩
   . exact .inr z
  |_=>cases e2)
end
end M
namespace M
open PySem PySem.Spec L2
open Classical in
noncomputable instance S7:DecidableEq D:=λa b=>propDecidable (a=b)
mutual
def nb:D->Bool
 | .int _=>true
 | .str _=>true
 | .ak a=>pv a
 |_=>false
def pv:List D->Bool
 | []=>true
 |d::r=>nb d&&pv r
end
theorem IL: ∀ {a:List D},(∀d∈a,nb d=true)->pv a=true
 | [],_=>rfl
 |x::r,h=>by simp only [pv,dD];exact ⟨h x (by simp),IL λd c=>h d (by simp [c])⟩
def IM (a:D):Prop:=nb a=true-> ∀b,nb b=true->(bG a b=true↔a=b)
theorem ux: ∀ {c:List D},(∀a∈c,IM a)->pv c=true-> ∀bs,pv bs=true->(bY c bs=true↔c=bs)
 | [],_,_,[],_=>by simp [bY]
 | [],_,_,b::bs,_=>by simp [bY]
 |a::c,_,_,[],_=>by simp [bY]
 |a::c,h,d,b::bs,e=>by
  simp only [pv,dD] at d e;simp only [bY,dD,List.cons.injEq];rw [h a (by simp) d.1 b e.1,ux (λx i=>h x (by simp [i])) d.2 bs e.2]
def S8 (a:D):IM a:=by
 refine D.ind ?_ ?_ ?_ ?_ ?_ ?_ ?_ ?_ a
 . intro h;simp [nb] at h
 . intro b h;simp [nb] at h
 . intro i _ b e;cases b<;>first| (simp [nb] at e;done)|simp [kZ]
 . intro x _ b e;cases b<;>first| (simp [nb] at e;done)|simp [kZ]
 . intro d l m b e
   cases b with
   |ak n=>
    simp;exact ux l (by simpa only [nb] using m) n (by simpa only [nb] using e)
   |int i=>simp [kZ]
   |str x=>simp [kZ]
   |_=>simp [nb] at e
 . intro d _ h;simp [nb] at h
 . intro d _ h;simp [nb] at h
 . exact ⟨λj d _ h=>by simp [nb] at h,λj d _ h=>by simp [nb] at h,λc h=>by simp [nb] at h,λj d _ h=>by simp [nb] at h,λj d _ h=>by simp [nb] at h,λc o d _ h=>by simp [nb] at h,λB p h=>by simp [nb] at h,λd h=>by simp [nb] at h⟩
end M
namespace M
open PySem PySem.Spec L2
open PyProof.Rows hiding St
def Xr (x:bn P w H h a o): ∃ob,h.get? a=some ob:=by
 cases o with
 |ai d=>obtain ⟨_,_,_,_,e⟩:=x;exact ⟨_,e⟩
 |ak d=>obtain ⟨_,_,_,ob,e,_⟩:=x;exact ⟨_,e⟩
 |dK c=>obtain ⟨_,_,_,_,o,_,_,e,_⟩:=x;exact ⟨_,e⟩
 |dT c=>obtain ⟨_,_,_,_,o,_,_,e,_⟩:=x;exact ⟨_,e⟩
 |set S n=>obtain ⟨o,_,_,_,e,_⟩:=x;exact ⟨_,e⟩
 |ins C dx fs=>obtain ⟨_,_,_,e,_⟩:=x;exact ⟨_,e⟩
 |aw y=>exact x
 |xd fs=>obtain ⟨_,⟨_,_,_,e,_⟩,_⟩:=x;exact ⟨_,e⟩
 |AF lo i=>obtain ⟨_,_,_,e⟩:=x;exact ⟨_,e⟩
 |cJ ob u=>obtain ⟨e,_⟩:=x;exact ⟨_,e⟩
 |oX j=>exact ⟨_,(show h.get? a=some _ from x)⟩
 |met f y=>exact ⟨_,(show h.get? a=some _ from x)⟩
 |ext l=>obtain ⟨_,z,_⟩:=x;exact z
 |memo B m=>exact x.elim
 |cZ p=>exact x.elim
def fx (P:bH) (w:World):l8:=λc H s E e d=> ∃(a C:Addr) (h:Hp) (B:Heap) (i:Value),e= .ref a/\d.os=s.os/\nQ d.gens/\Un (dj c) [] H h s.heap d.heap/\dJ P w h d.heap/\h a=none/\
 Heap.FlyingW B c a (.ref C) i d.heap/\(∀b,b∉dj c->((∃o,s.heap.get? b=some o)\/ ∃u,h b=some u)->B.get? b=d.heap.get? b)/\E (.ref C) none h
section
variable {P:bH} {w:World} {K:aC} {mg:W0} {af:Heap} {N:List Str} {qual:Str} {scope:Scope} {f:Addr} {cd:Value} {A:bQ} {outer:List Env} {s0:aM} {H0:Hp} {E:XK}
 {pins:List (Addr×Obj)} {σ:L2.St} {H:Hp} {s:aM}
def IN (I:aA (bA (fx P w) P w K mg af N qual scope f cd A outer s0 H0 E) pins σ H {s with heap:=h})
   (fl:Heap.FlyingW B outer a cls a0 J) (l: ∀b o,h.get? b=some o->b∉dj (bA (fx P w) P w K mg af N qual scope f cd A outer s0 H0 E).stack->((∃o,s0.heap.get? b=some o)\/ ∃u,H b=some u)->B.get? b=some o)
   (up: ∀b o,b∈dj (bA (fx P w) P w K mg af N qual scope f cd A outer s0 H0 E).stack->h.get? b=some o->(∀vs,o.data≠ .fields vs)-> ∃L,J.get? b=some {o with slots:=L}):
   Un (dj outer) [] H0 H s0.heap J/\dJ P w H J/\ ∀b,b∉dj outer->((∃o,s0.heap.get? b=some o)\/ ∃u,H b=some u)->B.get? b=J.get? b:=by
 have O: ∀b o,s0.heap.get? b=some o->b∉dj outer->b∉dj (bA (fx P w) P w K mg af N qual scope f cd A outer s0 H0 E).stack:=λb o q d y=>by
   rcases bJ.mp (I.gZ b y) with e|e
   . have i:s0.heap.objs.size<=b:=by rw [e];exact I.ok.above
     exact lZ _ (fS (b6 q) i)
   . exact d e
 have ss: ∀b u,H b=some u->b∉dj (bA (fx P w) P w K mg af N qual scope f cd A outer s0 H0 E).stack:=λb u q y=>by
   have:=I.eI b y;rw [q] at this;cases this
 have m:Un (dj outer) [] H0 H s0.heap h:=I.af;have FF:=I.stack
 have sub: ∀b∈dj outer,b∈dj (bA (fx P w) P w K mg af N qual scope f cd A outer s0 H0 E).stack:=λb d=>by
   show b∈dj (fF qual scope s0.heap.objs.size f cd::outer);unfold dj at d ⊢;rw [AG]
   split
   . exact d
   . exact fM _ d
 have j: ∀b o,b∈dj (bA (fx P w) P w K mg af N qual scope f cd A outer s0 H0 E).stack->h.get? b=some o-> ∃L,J.get? b=some {o with slots:=L}:=λb o d q=>by
   obtain ⟨_,p,Q,hd⟩:=FF.mem d;rw [q] at Q;cases Q;exact up b o d q hd
 refine ⟨⟨λb o q n d _=>?_,λb o q n d _=>?_,λb o q n _=>m.free b o q n (by simp),λb o q _=>?_,m.eH,m.fE,m.fT⟩,λb u q=>?_,λb d hc=>?_⟩
 . have i:=m.keep b o q n d (by simp);exact fl.1 b o (l b o i (O b o q d) (.inl ⟨o,q⟩))
 . obtain ⟨L,i⟩:=m.slot b o q n d (by simp);obtain ⟨S9,U⟩:=j b _ (sub b d) i;exact ⟨S9,U⟩
 . obtain ⟨p,i⟩:=m.there b o q (by simp)
   by_cases y:b∈dj (bA (fx P w) P w K mg af N qual scope f cd A outer s0 H0 E).stack
   . obtain ⟨L,U⟩:=j b p y i;exact ⟨_,U⟩
   . exact ⟨p,fl.1 b p (l b p i y (.inl ⟨o,q⟩))⟩
 . have h0:=I.aY b u q;refine h0.a9 (λc v hc r=>?_) (λ_ z=>z) λ_ _ z=>z
   have ht: ∃u,H c=some u:=by
     rcases hc with z|z
     . rw [z];exact ⟨u,q⟩
     . exact ⟨_,z⟩
   obtain ⟨u',Y⟩:=ht;exact fl.1 c v (l c v r (ss c u' Y) (.inr ⟨u',Y⟩))
 . have ht: ∃o,h.get? b=some o/\b∉dj (bA (fx P w) P w K mg af N qual scope f cd A outer s0 H0 E).stack:=by
     rcases hc with ⟨o,q⟩| ⟨u,q⟩
     . obtain ⟨p,i⟩:=m.there b o q (by simp);exact ⟨p,i,O b o q d⟩
     . obtain ⟨ob,i⟩:=Xr (show bn P w H h b u from I.aY b u q);exact ⟨ob,i,ss b u q⟩
   obtain ⟨o,i,U⟩:=ht;have h3:=l b o i U hc;rw [h3,fl.1 b o h3]
def Z7 (I:aA (bA (fx P w) P w K mg af N qual scope f cd A outer s0 H0 E) pins σ H {s with heap:=h}) (c:Heap.MadeExcOf h s.heap e (.ref C) O) (n:E (.ref C) none H):
  (bA (fx P w) P w K mg af N qual scope f cd A outer s0 H0 E).xe (.ref e) s:=by
 have p:=I.stack
 have d:h.FunFrames (PySem.W.hideAll h (dj (bA (fx P w) P w K mg af N qual scope f cd A outer s0 H0 E).stack)) (bA (fx P w) P w K mg af N qual scope f cd A outer s0 H0 E).stack:=
  PySem.W.funFrames_hide p λi r b a=>AL.mpr ⟨i,r,a⟩
 have j:H e=none:=by
  cases q:H e with
  |none=>rfl
  |some u=>
   obtain ⟨ob,z⟩:=Xr (show bn P w H h e u from I.aY e u q);rw [c.new] at z;cases z
 refine wpAny_leaves_madeW I.ok.frames rfl (λb o q=>PySem.W.of_hideAll _ q) d c λQ t m v U l=>?_
 obtain ⟨y,B,J⟩:=IN I m (λb o q a _=>PySem.W.hideAll_get _ q a) λb o a q L=>l b o (c.keeps b o q) L
 exact ⟨e,C,H,_,_,rfl,I.os,I.bare,y,B,j,m,J,n⟩
def KA (I:aA (bA (fx P w) P w K mg af N qual scope f cd A outer s0 H0 E) pins σ H s) (c:fx P w (bA (fx P w) P w K mg af N qual scope f cd A outer s0 H0 E).stack H s p e r)
  (u: ∀C d,p (.ref C) none d->E (.ref C) none d):(bA (fx P w) P w K mg af N qual scope f cd A outer s0 H0 E).xe e r:=by
 obtain ⟨a,C,d,B,v,rfl,os,bare,un,j,y,L,l,m⟩:=c;have J:=I.iI os un j bare λb i=>absurd i (by simp)
 refine wpAny_leaves_onW J.ok.frames rfl L λh' h n=>?_
 have O:Un (dj outer) [] H0 H s0.heap s.heap:=I.af
 obtain ⟨Q,U,Y⟩:=IN J h (λb o q i hc=>by
  rw [l b i ?_,q];rcases hc with ⟨o',z⟩|z
  . obtain ⟨o2,z2⟩:=O.there b o' z (by simp);exact .inl ⟨o2,z2⟩
  . exact .inr z) λb o i q hd=>n b o q hd
 exact ⟨a,C,d,B,v,rfl,J.os,J.bare,Q,U,y,h,Y,u C d m⟩
end
abbrev mv (K:aC) (c:Str) (C:Addr):Prop:=cg K bM c=some (some (.ref C))
def XE (K:aC) (c:Str) (H:Hp):XK:=λcls _ a=> ∃C,cls= .ref C/\mv K c C/\aq H a
def lu (X:Cx) (c:Str) (i:L2.St) (H:Hp):Prop:= ∀a d s e h,aq H d->aA X a i d s->fx X.prog X.w X.stack d s (XE X.K c d) e h->X.xe e h
def zy (X:Cx) (c:Str) (d:Hp):Prop:= ∀a i H (s:aM) h e C j,aq d H->mv X.K c C->aA X a i H {s with heap:=h}->Heap.MadeExcOf h s.heap e (.ref C) j->X.xe (.ref e) s
structure IP (X:Cx) (c:Str) (H0:Hp):Prop where
 a:zy X c H0
 b: ∀σ H,aq H0 H->lu X c σ H
def Ta (X:Cx) (l:Lv) (f:T4):TE:=λe H Q=> ∃G i a,ay X.K G i a e H/\
 ((∃d,f a= .ok d/\ ∀v h,aq H h->aL X.K (l.A G a e) h v d->l.T H v->Q v h)\/ ∃c,f a= .exc c/\lu X c e H)
def IQ (X:Cx) (g:T2):TS:=λE e H=> ∃G d a,ay X.K G d a e H/\((∃o,g a= .ok o/\mf X.K G d a e H E o)\/ ∃c,g a= .exc c/\IP X c d)
@[irreducible] def fK (X:Cx) (l:Lv) (e:Expr) (f:T4):Prop:=PE X e (Ta X l f)
@[irreducible] def mw (X:Cx) (st:Stmt) (g:T2):Prop:=PS X st (IQ X g)
@[irreducible] def eY (X:Cx) (st:List Stmt) (g:T2):Prop:=dk X st (IQ X g)
def nz {c:Type} (r:ao c):ao c:=match r with
 | .ok a=> .ok a
 |_=> .aj
def VW {d:Type} {r:ao d} {a:d} (h:nz r= .ok a):r= .ok a:=by
 cases r with
 |ok b=>exact h
 |exc c=>cases h
 |aj=>cases h
def Ku {a:Type} {r:ao a} (h:nz r= .exc c):False:=by
 cases r<;>cases h
def wC {e i:Type} {r:ao e} {f:e->ao i} (h:(r>>=f)= .exc c):r= .exc c\/ ∃a,r= .ok a/\f a= .exc c:=by
 cases r with
 |ok a=>exact .inr ⟨a,rfl,h⟩
 |exc d=>cases h;exact .inl rfl
 |aj=>cases h
def wt (g:T2):Sl->ao aW:=λa=>nz (g a)
def K4 (f:T4):Sl->ao D:=λa=>nz (f a)
section
variable {X:Cx} {e c tg:Expr} {st:Stmt} {rest body j:List Stmt} {pos:Pos} {l:Lv} {f:T4} {g g1 g2:T2}
def DE.x (h:DE X l e f):fK X l e (K4 f):=by
 with_unfolding_all exact (PE.imp h λi H Q=>by
  rintro ⟨G,a,env,k,q⟩;rcases q with ⟨d,e1,q⟩| ⟨c,e1,_⟩
  . exact ⟨G,a,env,d,k,VW e1,q⟩
  . exact (Ku e1).elim)
def DS.x (h:DS X st g):mw X st (wt g):=by
 with_unfolding_all exact (PS.imp h λE d H=>by
  rintro ⟨G,a,env,k,q⟩;rcases q with ⟨o,e1,q⟩| ⟨c,e1,_⟩
  . exact ⟨G,a,env,o,k,VW e1,q⟩
  . exact (Ku e1).elim)
def gn.x {IR:List Stmt} (h:gn X IR g):eY X IR (wt g):=by
 with_unfolding_all exact (dk.imp h λE d H=>by
  rintro ⟨G,a,env,k,q⟩;rcases q with ⟨o,e1,q⟩| ⟨c,e1,_⟩
  . exact ⟨G,a,env,o,k,VW e1,q⟩
  . exact (Ku e1).elim)
def qr (y:mw X st g1) (z:eY X rest g2):eY X (st::rest) (ap g1 g2):=by
 with_unfolding_all exact (dk.imp (Q8 y z) λE J H=>by
  rintro ⟨G,i,h,k,q⟩;rcases q with ⟨o,n,q⟩| ⟨c,n,v⟩
  . obtain ⟨m,e1,e2⟩:=jd n;refine ⟨G,i,h,k,.inl ⟨m,e1,?_⟩⟩
    cases m with
    |nx a=>exact λp B r w=>⟨G,i,a,r,.inl ⟨o,e2,zZ w q⟩⟩
    |rt I d=>cases e2;exact q
    |bk u=>cases e2;exact q
    |ct u=>cases e2;exact q
  . rcases wC n with e1| ⟨m,e1,e2⟩
    . exact ⟨G,i,h,k,.inr ⟨c,e1,v⟩⟩
    . cases m with
      |nx a=>exact ⟨G,i,h,k,.inl ⟨_,e1,λp B r w=>⟨G,i,a,r,.inr ⟨c,e2,v⟩⟩⟩⟩
      |rt I d=>cases e2
      |bk u=>cases e2
      |ct u=>cases e2)
def zN (a:mw X st g1):eY X [st] g1:=by
 with_unfolding_all exact (dk.imp (Xe a) λE d H q=>q)
def Tb (h:fK X .t e f):mw X (.Return (some e) pos) (aJ f):=by
 with_unfolding_all exact (PS.imp (Wl h) λE p H=>by
  rintro ⟨G,n,i,k,q⟩;rcases q with ⟨o,m,q⟩| ⟨c,m,u⟩
  . obtain ⟨d,e1,e2⟩:=jd m;cases e2;exact ⟨G,n,i,k,.inl ⟨d,e1,λv w s r y=>q v w (k.af.trans s) (r.aH λa z=>z.2) λ_=>bh.am k.af y⟩⟩
  . rcases wC m with e1| ⟨d,e1,e2⟩
    . exact ⟨G,n,i,k,.inr ⟨c,e1,u.b p H k.af⟩⟩
    . cases e2)
def Tc (h:fK X .s e f):mw X (.Return (some e) pos) (retS f):=by
 with_unfolding_all exact (PS.imp (Wl h) λE p H=>by
  rintro ⟨G,n,i,k,q⟩;rcases q with ⟨o,m,q⟩| ⟨c,m,u⟩
  . obtain ⟨d,e1,e2⟩:=jd m;cases e2;exact ⟨G,n,i,k,.inl ⟨d,e1,λv w s r y=>q v w (k.af.trans s) (r.aH λa z=>z.2) λz=>by cases z⟩⟩
  . rcases wC m with e1| ⟨d,e1,e2⟩
    . exact ⟨G,n,i,k,.inr ⟨c,e1,u.b p H k.af⟩⟩
    . cases e2)
def gR (t:T3) (g1 g2:T2):Sl->ao aW:=λa=>match t a with
 | .ok b=>if b=true then g1 a else g2 a
 |_=> .aj
def Ev (n:DT X c t) (p:eY X body g1) (r:eY X j g2):mw X (.If c body j pos) (gR t g1 g2):=by
 with_unfolding_all exact (PS.imp (Vy n p r) λE u H=>by
  rintro ⟨G,h,a,k,q⟩;have i: ∃b,t a= .ok b/\gR t g1 g2 a=if b=true then g1 a else g2 a:=by
   cases e1:t a with
   |ok b=>exact ⟨b,rfl,by unfold gR;rw [e1]⟩
   |_=>
     have z:gR t g1 g2 a= .aj:=by unfold gR;rw [e1]
     rcases q with ⟨o,d,_⟩| ⟨c,d,_⟩<;>(rw [z] at d;cases d)
  obtain ⟨b,e1,e2⟩:=i;rw [e2] at q;refine ⟨G,h,a,b,k,e1,λv s=>?_⟩
  cases b with
  |true=>
   rw [if_pos rfl] at q ⊢;rcases q with ⟨o,d,q⟩| ⟨c,d,m⟩
   . exact ⟨G,h,a,k.am s,.inl ⟨o,d,zZ (be.refl s) q⟩⟩
   . exact ⟨G,h,a,k.am s,.inr ⟨c,d,m⟩⟩
  |false=>
   rw [if_neg eh] at q ⊢;rcases q with ⟨o,d,q⟩| ⟨c,d,m⟩
   . exact ⟨G,h,a,k.am s,.inl ⟨o,d,zZ (be.refl s) q⟩⟩
   . exact ⟨G,h,a,k.am s,.inr ⟨c,d,m⟩⟩)
def WV (i:Nat) {x:Str} {a:Pos} (u:X.N.Nodup) (h:fK X .s e f) (w:X.N[i]?=some x:=by rfl) (y:Loc X.env.scope x:=by exact h8 rfl) (B:g8 e (some (.Name x a)) pos.line X.env=pure false:=by rfl)
   (I:T9 X x:=by first|exact .inl rfl|exact .inr rfl|assumption):mw X (.Assign [.Name x a] e pos) (jr i f):=by
 with_unfolding_all exact (
  PS.imp (vO u w y h B I) λE J H=>by
   rintro ⟨G,p,m,k,q⟩;rcases q with ⟨o,n,q⟩| ⟨c,n,L⟩
   . obtain ⟨d,e1,e2⟩:=jd n;cases e2;exact ⟨G,p,m,k,.inl ⟨d,e1,λv N s r _=>q _ N ((k.am s).iN r) (.set s λ_ _ z _=>by cases z)⟩⟩
   . rcases wC n with e1| ⟨d,e1,e2⟩
     . exact ⟨G,p,m,k,.inr ⟨c,e1,L.b J H k.af⟩⟩
     . cases e2)
end
def Bw (K:aC) (j:Bool) (n:Nat) (F:T0):Sp:=λi H Q E=> ∃B h,i.length=n/\au K B H i h/\
 ((
  ∃d,F h= .ok d/\ ∀v e,aq H e->aL K (λa=>H a=none\/B a) e v d->(j=true->bh H v)->Q v e)\/
  ∃c,F h= .exc c/\ ∀C e,mv K c C->aq H e->E (.ref C) none e)
structure ip (P:bH) (w:World) (K:aC) (mg:W0) (af:Heap) (k:Nat) (x:Str) (ps:List Str) (fr:Bool) (F:T0):Prop where
 ex: ∃f fd,bR P w K mg af (fx P w) k f fd ps (Bw K fr ps.length F)/\mg x=some (.ref f)/\gj K (.ref f)=true/\Binds K fd ps []
def ip.mono {K:aC} (h:ip P w K mg af j x c d F) (e:j<=k):ip P w K mg af k x c d F:=
 let ⟨f,i,a,b⟩:=h.ex
 ⟨f,i,a.mono e,b⟩
def QT (n:Nat) (F:T0) (g:T1):Sl->ao D:=λa=>match g a with
 | .ok c=>aV (c.length=n) (F c)
 |_=> .aj
section
variable {X:Cx} {k:Nat} {x:Str} {ps:List Str} {fr:Bool} {F:T0} {e:Expr} {es:List Expr} {p pos:Pos} {g:T1}
def IS {l:L2.St} (F:bR X.prog X.w X.K X.mg X.af n k f o ps q) (v:aE k X.A) (w:Binds X.K o ps [])
  (I:aA X a l H s) (r:aI m c) (h:q m H Q E) (y: ∀e j,n X.stack H s E e j->X.xe e j):wpAny (model X.prog X.w) X.A (call (.ref f) c) (EP X a l Q) X.xe s:=by
 have z:c.length=ps.length:=by rw [<-r.length];exact F.len _ _ _ _ h
 have d:=w s c I.dP (by rw [fN];exact z);rw [fN] at d;refine wpAny_call (o8 (F.run X.A X.stack s H ⟨c,[]⟩ c m Q E v I.m4 d r h) λr j i=>?_)
 cases r with
 |error e=>exact y e j i
 |ok B=>
  cases B with
  |ret u=>exact I.after i
  |next=>exact fU i
  |brk=>exact fU i
  |cont=>exact fU i
def ip.call (A:ip X.prog X.w X.K X.mg X.af k x ps fr F) (hr:aE k X.A) (ha:DA X .s (e::es) g) (y:ps.length=n:=by rfl) (hg:Gl X x:=by rfl) (B:Y6 x:=by decide)
   (he:Vs X e es:=by exact jm rfl) (J:Vr X pos es:=by exact jF rfl):fK X (if fr=true then .t else .s) (.Call (.Name x p) (e::es) [] pos) (QT n F g):=by
 subst y;obtain ⟨f,fd,h1,h2,h3,Y⟩:=A.ex
 with_unfolding_all exact (by
 rintro i s σ H Q I ⟨G,H0,env,kk,q⟩
 have L: ∃a,g env= .ok a/\QT ps.length F g env=aV (a.length=ps.length) (F a):=by
   cases e1:g env with
   |ok a=>exact ⟨a,rfl,by unfold QT;rw [e1]⟩
   |_=>
     have z:QT ps.length F g env= .aj:=by unfold QT;rw [e1]
     rcases q with ⟨o,h,_⟩| ⟨c,h,_⟩<;>(rw [z] at h;cases h)
 obtain ⟨a,e1,e2⟩:=L;rw [e2] at q;refine o9 (Jt I hg h2 ?_ B);refine t4 I.ok.mod.oa h3 (bc ((show PA X (e::es) (tA X.K .s g) from ha) pos i s σ H (λN l=>aq H l/\au X.K (Sf G env σ) l N a) I ⟨G,H0,env,a,kk,e1,λN H' j r'=>⟨j,r'⟩⟩) λus s1 ⟨N,l,u,r,m,w⟩=>⟨u.dP,?_⟩) he J;rcases q with ⟨d,h,q⟩| ⟨c,h,th⟩
 . obtain ⟨y,e3⟩:=ju h;refine IS (E:=λ_ _ _=>False) h1 hr Y u r ⟨_,a,by rw [w.length];exact y,w,.inl ⟨d,e3,λv H2 s2 r2 nt=>?_⟩⟩ λe j O=>?_
   . have r3:=r2.aH λc z=>z.elim (λz=>kk.new c (aq.free m z)) λz=>z
     cases fr with
     |true=>exact q v H2 (m.trans s2) r3 ((nt rfl).am m)
     |false=>exact q v H2 (m.trans s2) r3 trivial
   . obtain ⟨_,_,_,_,_,_,_,_,_,_,_,_,_,z⟩:=O;exact z.elim
 . have hm:a.length=ps.length/\F a= .exc c:=by
     unfold aV at h
     by_cases U:a.length=ps.length
     . rw [if_pos U] at h;exact ⟨U,h⟩
     . rw [if_neg U] at h;cases h
   refine IS (E:=XE X.K c l) h1 hr Y u r ⟨_,a,by rw [w.length];exact hm.1,w,.inr ⟨c,hm.2,λC H' hC j=>⟨C,rfl,hC,j⟩⟩⟩ λe j O=>?_
   exact th i l s1 e j m u O)
end
def cv (e:Bool) (n:Nat) (g:T2) (h:List D):ao D:=match g (j4 n h) with
 | .ok (.rt a d)=>if e=true/\a=false then .aj else .ok d
 | .ok (.nx _)=> .ok .aU
 | .exc c=> .exc c
 |_=> .aj
def Ka (h:cv d n g a= .exc c):g (j4 n a)= .exc c:=by
 unfold cv at h
 split at h
 . split at h<;>cases h
 . cases h
 . cases h;assumption
 . cases h
def ZU (h:cv i n g j= .ok d):Meets i n g j d:=by
 unfold cv at h
 split at h
 . rename_i a o e
   split at h
   . cases h
   . rename_i l;cases h;refine .inl ⟨a,e,λm=>?_⟩
     cases a with
     |true=>rfl
     |false=>exact absurd ⟨m,rfl⟩ l
 . rename_i c e;cases h;exact .inr ⟨rfl,c,e⟩
 . cases h
 . cases h
section
variable {P:bH} {w:World} {K:aC} {mg:W0} {af:Heap}
def Td {st:Stmt} (O:Bool) (U:hZ K x x st f Y) (n:mg x=some (.ref f)) (S:ar N ps (jg st)) (o:Binds K Y ps [])
   (hb: ∀(j:Value) (A:bQ) (i:List Env) (s:aM) (H:Hp) (E:XK),aE k (A.deeper (fF x (jg st) s.heap.objs.size f j))->eY (bA (fx P w) P w K mg af N x (jg st) f j A i s H E) (jQ st) g):
   ip P w K mg af (k+1) x ps O (cv O N.length g):=by
 refine ⟨f,Y,?_,n,U.kp,o⟩
 with_unfolding_all exact (by
 obtain ⟨oc,od,kV,doc,pm,an,j,ct,sA,rfl,lk,p⟩:=U.ex;refine AT lk p S (λvs H Q E ⟨B,ds,hl,_⟩=>hl) λA i s H vs Q E hr h=>?_
 obtain ⟨B,ds,hl,r,q⟩:=h;refine ⟨_,hb j A i s H E hr,?_⟩;have u:=Zx (N:=N) r;rcases q with ⟨d,e,q⟩| ⟨c,e,q⟩
 . rcases ZU e with ⟨DL,z,hf⟩| ⟨rfl,env',z⟩
   . exact ⟨_,H,_,u,.inl ⟨_,z,λv l s r nt=>q v l s r λhh=>nt (hf hh)⟩⟩
   . exact ⟨_,H,_,u,.inl ⟨_,z,λfR l k' f'=>q .aU l k'.af .aU λ_ a e=>by cases e⟩⟩
 . refine ⟨_,H,_,u,.inr ⟨c,Ka e,λm σ H1 s1 h e C vs y J I hx=>Z7 I hx (q C H1 J y),λσ H1 y m H2 s1 e s' L I cx=>KA I cx λC l z=>?_⟩⟩;obtain ⟨C',e',J,s3⟩:=z;cases e'
   exact q C l J (y.trans (L.trans s3)))
end
def Vx (c:Str):Sl->ao aW:=λ_=> .exc c
def Te {c:Array DictEntry} (h:StrKeys c): ∃l:List Str,∀x,x∉l->nsFind c x=none:=by
 have go: ∀r:List DictEntry,(∀e∈r,∃n t,e.key= .str n t)-> ∃l:List Str,∀e∈r,∀x,e.key.isStr x=true->x∈l:=by
   intro r
   induction r with
   |nil=>exact λ_=>⟨[],λ_ h=>by cases h⟩
   |cons e r i=>
    intro h;obtain ⟨l,d⟩:=i λe he=>h e (fM _ he)
    obtain ⟨n,t,j⟩:=h e iC;refine ⟨n::l,λm he x a=>?_⟩;rcases bJ.mp he with rfl|he
    . rw [j] at a;exact bJ.mpr (.inl (Value.isStr_inj (.str n t) x n a (beq_self_eq_true n)))
    . exact fM _ (d m he x a)
 obtain ⟨l,d⟩:=go c.toList λe he=>h e (CP.mp he)
 refine ⟨l,λx a=>?_⟩;unfold nsFind findBy;rw [Array.find?_eq_none.mpr λe he=>?_]
 . rfl
 . exact λz=>a (d e (CP.mpr he) x z)
def Tf {K:aC} (p:bH) (M:Mod K Y h) (n:mv K c C) (q:rS K C e a=true):
  ∃j N r u bs d v sub w i dd y z B E H m,h.get? C=some (excClassObj r u C N bs j d v sub w i dd y z B E H a)/\h.Ns N m/\m "__init__" =none/\OwnTail h e j:=by
 have g:=M.glob;obtain ⟨o,es,ep,h1,h2,I,J⟩:=g;obtain ⟨mb,L,O⟩:=M.blt;obtain ⟨l,Q⟩:=Te I;exact (PySem.W.own_of_in (p:=p) M.oa ⟨M.glob,L,M.nolimit,O,λx _ U _ _ _=>(J x).symm.trans (Q x U)⟩ n q).obj
def Tg (Y:mv X.K c C) (hm:X.mg c=some (.ref C)) (hq:rS X.K C bm j=true) (FB:ExcBaseFacts B j o bm)
   (ha:DE X l a f) (y: ∀i,∃d,f i= .ok d) (m:X.bT=true) (hg:Gl X c) (z:Y6 c)
   (he:bg [a] X.env=(false,eval a X.env)::bg [] X.env)
   {p:L2.St} (I:aA X h p H s) (k:ay X.K G H0 i p H) (th:zy X c H):
   wpAny (model X.prog X.w) X.A (exec (.Raise (some (.Call (.Name c np) [a] [] cj)) none pos) X.env) (λfl J=>SP X h E fl J) X.xe s:=by
 with_unfolding_all exact (by
  obtain ⟨d,hd⟩:=y i;obtain ⟨tl,N,nm,qn,bs,n,sn,sub,ab,L,dd,k0,k1,k2,k3,k5,mN,O,hN,Q,T⟩:=Tf X.prog I.ok.mod Y hq
  refine wpAny_Raise_call_subT (nm:=nm) (q:=qn) (N:=N) (bs:=bs) (hdct:=n) (sn:=sn) (sub:=sub) (ab:=ab) (col:=L) (dd:=dd) (k0:=k0) (k1:=k1) (k2:=k2) (k3:=k3) (k5:=k5)
   FB (T.hasType FB.hasBase) (I.ok.hd m) (by rw [he];rfl) Q (Jt I hg hm ⟨rfl,?_⟩ z)
  rw [he];refine Calls.evalArgs_plain (AR (bc ((show PE X a (tE X.K l f) from ha) h s p H (λv U=>aq H U) I ⟨G,H0,i,d,k,hd,λv H' J _ _=>J⟩) λu s1 ⟨v,U,w,r,sm⟩=>AQ ?_))
  exact ⟨rfl,(by decide:1<=aS),w.bk _ _ O,hN.keeps w.bk,T.keeps w.bk,λh' e hx=>th h p U {s1 with heap:=h'} s1.heap e C _ sm Y w hx⟩)
def UE {J n u:Pos} (L:mv X.K c C) (N:X.mg c=some (.ref C)) (O:rS X.K C Q j=true) (FB:ExcBaseFacts B j r Q)
    (U:DE X l a f) (v: ∀p,∃d,f p= .ok d) (m:X.bT=true:=by rfl) (Y:Gl X c:=by rfl) (w:Y6 c:=by decide)
    (he:bg [a] X.env=(false,eval a X.env)::bg [] X.env:=by exact jm rfl):
    mw X (.Raise (some (.Call (.Name c J) [a] [] n)) none u) (Vx c):=by
 with_unfolding_all exact (by
  rintro i s z H E I ⟨G,H0,p,k,q⟩;rcases q with ⟨o,y,_⟩| ⟨c',y,th⟩
  . cases y
  cases y
  exact Tg L N O FB U v m Y w he I k λi z H1 s1 h e C vs sm=>th.a i z H1 s1 h e C vs (k.af.trans sm))
def IT (X:Cx) (g:T2):TS:=λE d H=> ∃G e a,ay X.K G e a d H/\((∃o,g a= .ok o/\mf X.K G e a d H E o)\/ ∃c,g a= .exc c/\lu X c d H)
@[irreducible] def Ex (X:Cx) (st:Stmt) (g:T2):Prop:=PS X st (IT X g)
@[irreducible] def iX (X:Cx) (st:List Stmt) (g:T2):Prop:=dk X st (IT X g)
section
variable {X:Cx} {e c tg:Expr} {st:Stmt} {rest body orelse:List Stmt} {pos:Pos} {l:Lv} {f:T4} {g g1 g2:T2}
def lu.am {c:Str} (h:lu X c d H) (s:aq H i):lu X c d i:=λa j m e n o=>h a j m e n (s.trans o)
def Zy (a:Ex X st g1):iX X [st] g1:=by
 with_unfolding_all exact (dk.imp (Xe a) λE d H q=>q)
def WU (i:Nat) {a:Pos} (p:X.N.Nodup) (h:fK X .s e f) (u:X.N[i]?=some x:=by rfl) (w:Loc X.env.scope x:=by exact h8 rfl) (y:g8 e (some (.Name x a)) pos.line X.env=pure false:=by rfl)
   (B:T9 X x:=by first|exact .inl rfl|exact .inr rfl|assumption):Ex X (.Assign [.Name x a] e pos) (jr i f):=by
 with_unfolding_all exact (
  PS.imp (vO p u w h y B) λE L H=>by
   rintro ⟨G,n,j,k,q⟩;rcases q with ⟨o,m,q⟩| ⟨c,m,I⟩
   . obtain ⟨d,e1,e2⟩:=jd m;cases e2;exact ⟨G,n,j,k,.inl ⟨d,e1,λv J s r _=>q _ J ((k.am s).iN r) (.set s λ_ _ z _=>by cases z)⟩⟩
   . rcases wC m with e1| ⟨d,e1,e2⟩
     . exact ⟨G,n,j,k,.inr ⟨c,e1,I⟩⟩
     . cases e2)
def Th (m:DT X c t) (n:iX X body g1) (p:iX X orelse g2):Ex X (.If c body orelse pos) (gR t g1 g2):=by
 with_unfolding_all exact (PS.imp (Vy m n p) λE r H=>by
  rintro ⟨G,h,a,k,q⟩;have i: ∃b,t a= .ok b/\gR t g1 g2 a=if b=true then g1 a else g2 a:=by
   cases e1:t a with
   |ok b=>exact ⟨b,rfl,by unfold gR;rw [e1]⟩
   |_=>
     have z:gR t g1 g2 a= .aj:=by unfold gR;rw [e1]
     rcases q with ⟨o,d,_⟩| ⟨c,d,_⟩<;>(rw [z] at d;cases d)
  obtain ⟨b,e1,e2⟩:=i;rw [e2] at q;refine ⟨G,h,a,b,k,e1,λu s=>?_⟩
  cases b with
  |true=>
   rw [if_pos rfl] at q ⊢;rcases q with ⟨o,d,q⟩| ⟨c,d,j⟩
   . exact ⟨G,h,a,k.am s,.inl ⟨o,d,zZ (be.refl s) q⟩⟩
   . exact ⟨G,h,a,k.am s,.inr ⟨c,d,j.am s⟩⟩
  |false=>
   rw [if_neg eh] at q ⊢;rcases q with ⟨o,d,q⟩| ⟨c,d,j⟩
   . exact ⟨G,h,a,k.am s,.inl ⟨o,d,zZ (be.refl s) q⟩⟩
   . exact ⟨G,h,a,k.am s,.inr ⟨c,d,j.am s⟩⟩)
end
abbrev Cx.lv (X:Cx) (E:Vt) (a:List (Addr×Obj)):Cx:={X with xe:=E,pn:=X.pn++a}
abbrev Cx.held (X:Cx) (e:Addr):Cx:={X with xe:=λ_ _=>False,A:=X.A.mark (some (.ref e)),bT:=false}
section
variable {X:Cx} {pins ps:List (Addr×Obj)} {σ:L2.St} {H:Hp} {s:aM} {E:Vt} {e:Addr}
def Ti (ok:X.Ok):(Cx.lv X E ps).Ok:=⟨ok.mod,ok.kind,ok.glob,ok.blt,ok.above,ok.inj,ok.has,ok.oe,ok.hd,ok.frames,ok.oZ,ok.o3,ok.bs,ok.l0,ok.gX,ok.gY,ok.dO,ok.mX⟩
def Tj (ok:(Cx.lv X E ps).Ok):X.Ok:=⟨ok.mod,ok.kind,ok.glob,ok.blt,ok.above,ok.inj,ok.has,ok.oe,ok.hd,ok.frames,ok.oZ,ok.o3,ok.bs,ok.l0,ok.gX,ok.gY,ok.dO,ok.mX⟩
def IU (I:aA X pins σ H s):aA (Cx.lv X E pins) [] σ H s:=⟨Ti I.ok,I.os,I.bare,I.af,I.loc,I.cell,I.free,I.cG,λp a=>I.pin p (by simpa using a),I.aY,I.len⟩
def Jw (I:aA (Cx.lv X E pins) ps σ H s):aA X pins σ H s:=⟨Tj I.ok,I.os,I.bare,I.af,I.loc,I.cell,I.free,I.cG,λp a=>I.pin p (Ci _ a),I.aY,I.len⟩
def xI {D:Ends} (h:SP (Cx.lv X E pins) [] D f d):SP X pins D f d:=by
 cases f with
 |next=>obtain ⟨a,c,I,q⟩:=h;exact ⟨a,c,Jw I,q⟩
 |brk=>obtain ⟨a,c,I,q⟩:=h;exact ⟨a,c,Jw I,q⟩
 |cont=>obtain ⟨a,c,I,q⟩:=h;exact ⟨a,c,Jw I,q⟩
 |ret u=>obtain ⟨v,a,c,I,r,q⟩:=h;exact ⟨v,a,c,Jw I,r,q⟩
def Tl (ok:X.Ok):(Cx.held X e).Ok:=⟨ok.mod,ok.kind,ok.glob,ok.blt,ok.above,ok.inj,ok.has,ok.oe,(λz=>nomatch z),ok.frames,ok.oZ,ok.o3,ok.bs,ok.l0,ok.gX,ok.gY,ok.dO,ok.mX⟩
def KD (I:aA X pins σ H s):aA (Cx.held X e) pins σ H s:=⟨Tl I.ok,I.os,I.bare,I.af,I.loc,I.cell,I.free,I.cG,I.pin,I.aY,I.len⟩
def Qd (ok:X.Ok) (I:aA (Cx.held X e) pins σ H s):aA X pins σ H s:=⟨ok,I.os,I.bare,I.af,I.loc,I.cell,I.free,I.cG,I.pin,I.aY,I.len⟩
end
def IV {B:Heap} (un:Un (dj a) [] H l h p) (J:dJ P w l p) (Y: ∀b∈dj a,l b=none)
   (e: ∀b,b∉dj a->((∃o,h.get? b=some o)\/ ∃u,l b=some u)->B.get? b=p.get? b) (FF:p.FunFrames Q a) (st:B.StaysIn E) (up:p.UpToSlots E):
   Un (dj a) [] H l h E/\dJ P w l E:=by
 have d: ∀b o,b∈dj a->p.get? b=some o-> ∃L,E.get? b=some {o with slots:=L}:=λb o i q=>by
   obtain ⟨_,I,y,hd⟩:=FF.mem i;rw [q] at y;cases y;exact up b o q hd
 refine ⟨⟨λb o q n i _=>?_,λb o q n i _=>?_,un.free,λb o q _=>?_,un.eH,un.fE,un.fT⟩,λb u q=>?_⟩
 . have m:=un.keep b o q n i (by simp);exact st b o ((e b i (.inl ⟨o,q⟩)).trans m)
 . obtain ⟨L,m⟩:=un.slot b o q n i (by simp);obtain ⟨N,O⟩:=d b _ i m;exact ⟨N,O⟩
 . obtain ⟨I,m⟩:=un.there b o q (by simp)
   by_cases U:b∈dj a
   . obtain ⟨L,O⟩:=d b I U m;exact ⟨_,O⟩
   . exact ⟨I,st b I ((e b U (.inl ⟨o,q⟩)).trans m)⟩
 . refine (J b u q).a9 (λc v hc r=>?_) (λ_ z=>z) λ_ _ z=>z
   have ht: ∃u,l c=some u:=by
     rcases hc with z|z
     . rw [z];exact ⟨u,q⟩
     . exact ⟨_,z⟩
   obtain ⟨u',j⟩:=ht;have nm:c∉dj a:=λz=>by rw [Y c z] at j;cases j
   exact st c v ((e c nm (.inr ⟨u',j⟩)).trans r)
def Ey (X:Cx) (a:List (Addr×Obj)) (E:Ends) (i:List ExceptHandler) (e:Value) (c:aM):Prop:=wpAny (model X.prog X.w) X.A (noteFrame e X.env) (λ_ d=>wpAny (model X.prog X.w) X.A (setFlight e none) (λ_ h=>
 wpAny (model X.prog X.w) X.A (handleBy e X.env i) (SP X a E) X.xe h) X.xe d) X.xe c
theorem Wm: ∀(c a:List (aQ×V)),((a++c).map (·.1)).Nodup->Wn a c=a++c
 | [],a,_=>by simp [Wn]
 |p::r,a,h=>by
  have i:putK a p.1 p.2=a++[p]:=by
   have: ∀q∈a,q.1≠p.1:=λq d e=>by
    rw [rH,cL] at h;have j:=(Er.mp h).2.2 q.1 (List.mem_map_of_mem d) p.1 (by simp);exact j e
   unfold putK;rw [if_neg];intro z;obtain ⟨q,d,e⟩:=sX.mp z;exact this q d (by simpa using e)
  show Wn (putK a p.1 p.2) r=_;rw [i,Wm r (a++[p]) (by simpa using h)];simp
abbrev KF:=Int×(Sl->ao D)
def IW (K:aC) (a:List KF):List (TE×TE):=a.map λq=>(tC (.int q.1),tE K .s q.2)
@[irreducible] def Bx (X:Cx) (c:Pos) (keys:List (Option Expr)) (a:List Expr) (d:List KF):Prop:=vr X c keys a (IW X.K d)
section
variable {X:Cx}
def Tn {a:Pos}:Bx X a [] [] []:=by
 with_unfolding_all exact OY
def KR {a:Pos} {k v:Expr} {d:List (Option Expr)} {e:List Expr} {i:Int} {f:T4} {c:List KF} (h:PE X k (tC (.int i))) (j:DE X .s v f) (l:Bx X a d e c):Bx X a (some k::d) (v::e) ((i,f)::c):=by
 with_unfolding_all exact (OZ h j l)
def Ez (c:List KF):Sl->ao (List D):=λa=>match c with
 | []=> .ok []
 |q::r=>q.2 a>>=λd=>Ez r a>>=λe=> .ok (d::e)
def By (a:List KF):Sl->ao D:=λc=>Ez a c>>=λd=>aV (D.dQ d=true/\(a.map λq=>(jU q.1:aQ)).Nodup/\a.length<=15) (.ok (.aP (a.map λq=> .inl q.1) d))
theorem IX {K:aC} {G:WZ} {n:Hp} {a:Sl} {j:L2.St}: ∀(c:List KF) (H:Hp) (i:List D) (Q:List (V×V)->Hp->Prop),ay K G n a j H->Ez c a= .ok i->
  (∀h l,aq H l->au K (Sf G a j) l h i->h.length=c.length->Q ((c.map λq=>V.int q.1).zip h) l)->vq (IW K c) j H Q
 | [],H,i,Q,k,e,q=>by
  cases e;exact q [] H (aq.refl H) .nil rfl
 |p::r,H,i,Q,k,e,q=>by
  obtain ⟨d,e1,e⟩:=jd e;obtain ⟨m,e2,w⟩:=jd e;cases w;refine ⟨G,n,a,d,k,e1,λv y o z _=>IX r y m _ (k.am o) e2 λh B u r2 E=>?_⟩;exact q (v::h) B (o.trans u) (.cons (z.am u) r2) (by simp [E])
def To {n:Pos} {keys:List (Option Expr)} {c:List Expr} {i:List KF} (h:Bx X n keys c i) (r:keys.all (·.isSome)=true:=by rfl) (U:keys.length=c.length:=by rfl) (Y:keys≠[]:=by simp) (y:keys.length<=15:=by decide):
    DE X .t (.Dict keys c n) (By i):=by
 with_unfolding_all exact (PE.imp (O1 h r U Y y) λσ H Q=>by
  rintro ⟨G,H0,env,d,k,ef,q⟩;obtain ⟨I,e1,e2⟩:=jd ef;obtain ⟨⟨c1,c2,c3⟩,e3⟩:=ju e2;cases e3;refine λp w=>IX i _ I _ (k.am (aq.aR w)) e1 λl J L r2 j=>?_
  have u:=L _ _ jD;have v:(((i.map λq=>(jU q.1:aQ)).zip l).map (·.1))=i.map λq=>(jU q.1:aQ):=List.map_fst_zip (by simp [j])
  have B:(((i.map λq=>(jU q.1:aQ)).zip l).map (·.2))=l:=List.map_snd_zip (by simp [j]);refine ⟨u,(i.map λq=>(jU q.1:aQ)).zip l,?_,?_,?_⟩
  . rw [show (λ(N:aQ×V)=>(kV N.1,N.2))=Prod.map kV id from rfl,<-List.zip_map_left,mR];rfl
  . simp [j];exact c3
  . have E:(((i.map λq=>(jU q.1:aQ)).zip l).map (·.1)).Nodup:=by
     rw [v];exact c2
    rw [Wm _ [] (by simpa using E)]
    have sm:aq H (aR J p (.dK ((i.map λq=>(jU q.1:aQ)).zip l))):=λb o e=>by
     have O:=qS e w;rw [j3 O];exact L _ _ (by rw [j3 O];exact e)
    refine q _ _ sm (.aP jD (k.new p w) v B ?_) (qH (aq.refl H) w);have r3:au X.K (λ_=>False) J l I:=r2.j2 c1
    exact r3.a9 (λa o e m=>by
     rw [j3]
     . exact e
     . rintro rfl;rw [u] at e;cases e
       exact (m trivial).elim) λa z=>z.elim)
def KQ:eY X [] (wt bo):=gn.x jv
end
section
variable {X:Cx} {k:Nat} {x:Str} {ps:List Str} {fr:Bool} {F:T0} {e:Expr} {es:List Expr} {p pos:Pos} {g:T1}
def fK.s (h:fK X .t e f):fK X .s e f:=by
 with_unfolding_all exact (PE.imp h λi H Q=>by
  rintro ⟨G,a,env,k,q⟩;rcases q with ⟨d,e1,q⟩|z
  . exact ⟨G,a,env,k,.inl ⟨d,e1,λv c s r _=>q v c s r trivial⟩⟩
  . exact ⟨G,a,env,k,.inr z⟩)
def ip.nA (A:ip X.prog X.w X.K X.mg X.af k x ps fr F) (hr:aE k X.A) (d:DA X .s (e::es) g) (i:ps.length=n:=by rfl) (j:Gl X x:=by rfl) (a:Y6 x:=by decide)
  (l:Vs X e es:=by exact jm rfl) (c:Vr X pos es:=by exact jF rfl):fK X .s (.Call (.Name x p) (e::es) [] pos) (QT n F g):=by
 have h:=ip.call (p:=p) A hr d i j a l c
 cases fr with
 |true=>exact fK.s h
 |false=>exact h
end
def xH (t:TZ) (g:T2):D->Sl->ao aW:=λd c=>match t d c with
 | .ok a=>g a
 |_=> .aj
def f7 (f:T1) (t:TZ) (g:T2):Sl->ao aW:=λa=>match f a with
 | .ok c=>a5 (xH t g) c a
 |_=> .aj
def IY (hp:pR (model X.prog X.w) X.A X.env X.xe) (hc:X.bT=true) (hi:DI X tg e fi) (hg:DG X tg t) (hb:eY X body g)
   (hs: ∀x,oi e X.env x=pure x:=by intro _;rfl):mw X (.For tg e body [] pos) (f7 fi t g):=by
 with_unfolding_all exact (
  PS.imp (CD hp hc hi hg hb hs) λE σ H=>by
   rintro ⟨G,O,r,k,q⟩;have key: ∃j,fi r= .ok j/\f7 fi t g r=a5 (xH t g) j r:=by
     cases e1:fi r with
     |ok j=>exact ⟨j,rfl,by unfold f7;rw [e1]⟩
     |_=>
       have z:f7 fi t g r= .aj:=by unfold f7;rw [e1]
       rcases q with ⟨o,h,_⟩| ⟨c,h,_⟩<;>(rw [z] at h;cases h)
   obtain ⟨j,e1,e2⟩:=key;rw [e2] at q;generalize EA:a5 (xH t g) j r=res at q;refine ⟨G,O,r,j,k,e1,λJ H1 P sm wk p0 oE=>?_⟩;have k1:=k.am sm
   have B:(∃o,res= .ok o/\mf X.K G O r σ H1 E o)\/ ∃c,res= .exc c/\IP X c O:=by
     rcases q with ⟨o,h,q⟩|z
     . exact .inl ⟨o,h,zZ (be.refl sm) q⟩
     . exact .inr z
   refine ⟨λi m w Q=>m=j.length-i/\i<=j.length/\ ∃a,ay X.K G O a w Q/\be r σ H1 a w Q/\a5 (xH t g) (j.drop i) a=res,⟨j.length,by simp,gl _,r,k1,be.refl (aq.refl H1),by simpa using EA⟩,?_⟩;rintro i m w Q ⟨rfl,hi,a,k',f',e'⟩;obtain ⟨w1,w2,w3⟩:=wk i Q (oE a w Q f')
   by_cases hd:i<j.length
   . refine .inr ⟨w1 hd,?_⟩;rw [A8 hd] at e'
     have I:(xH t g j[i] a>>=λo=>match o with
       | .nx a=>a5 (xH t g) (j.drop (i+1)) a
       | .ct a=>a5 (xH t g) (j.drop (i+1)) a
       | .bk a=> .ok (.nx a)
       | .rt fr d=> .ok (.rt fr d))=res:=e'
     have EB: ∃l,t j[i] a= .ok l/\xH t g j[i] a=g l:=by
       cases e5:t j[i] a with
       |ok l=>exact ⟨l,rfl,by unfold xH;rw [e5]⟩
       |_=>
         have z:xH t g j[i] a= .aj:=by unfold xH;rw [e5]
         rw [z] at I;have u:=I.symm;rcases B with ⟨o,h,_⟩| ⟨c,h,_⟩<;>(rw [u] at h;cases h)
     obtain ⟨l,e5,e6⟩:=EB;rw [e6] at I;refine ⟨λv U=>j.length-(i+1)=j.length-(i+1)/\i+1<=j.length/\ ∃n,ay X.K G O n v U/\be r σ H1 n v U/\a5 (xH t g) (j.drop (i+1)) n=res,λv U z=>⟨j.length-(i+1),by omega,z⟩,λx U y=>?_⟩
     obtain ⟨rT,rd⟩:aq Q U/\aL X.K (Sf G a w) U x j[i]:=by
       rcases w2 _ (cU hd) x U y with ⟨rfl,rd⟩| ⟨p,vs,es,hp,rfl,rfl,ed,rk⟩
       . exact ⟨aq.refl _,f'.rep k1 rd⟩
       . refine ⟨aq.aR hp,?_⟩;rw [ed];exact .ak jD ((f'.rg k1 rk).am (aq.aR hp))
     refine ⟨G,O,a,j[i],l,k'.am rT,rd,e5,λoD wg wh=>⟨G,O,l,wg,?_⟩⟩;have Y:=(f'.trans (be.refl rT)).trans wh
     cases eg:g l with
     |aj=>
       rw [eg] at I;have u:=I.symm;rcases B with ⟨o,h,_⟩| ⟨c,h,_⟩<;>(rw [u] at h;cases h)
     |exc c1=>
       rw [eg] at I;have u:=I.symm;rcases B with ⟨o,h,_⟩| ⟨c,h,th⟩
       . rw [u] at h;cases h
       . rw [u] at h;cases h;exact .inr ⟨c1,rfl,th⟩
     |ok o1=>
       rw [eg] at I;refine .inl ⟨o1,rfl,?_⟩
       cases o1 with
       |nx n=>exact λv H3 L N=>⟨rfl,hd,n,L,Y.trans N,I⟩
       |ct n=>exact λv H3 L N=>⟨rfl,hd,n,L,Y.trans N,I⟩
       |bk n=>
         have u:=I.symm;rcases B with ⟨o,h,B⟩| ⟨c,h,_⟩
         . rw [u] at h;cases h;exact λv H3 L N=>B v H3 L (Y.trans N)
         . rw [u] at h;cases h
       |rt fr dd=>
         have u:=I.symm;rcases B with ⟨o,h,B⟩| ⟨c,h,_⟩
         . rw [u] at h;cases h;exact B
         . rw [u] at h;cases h
   . have he:i=j.length:=by omega
     refine .inl ⟨w3 (by omega),?_⟩;rw [A9 (by omega)] at e';have u:=e'.symm;rcases B with ⟨o,h,B⟩| ⟨c,h,_⟩
     . rw [u] at h;cases h;exact B w Q k' f'
     . rw [u] at h;cases h)
def ip.av {P:bH} {w:World} {K:aC} {mg:W0} {af:Heap} {k:Nat} {x:Str} {c:List Str} {i:Bool} {F:T0} (h:ip P w K mg af k x c i F):Av P w K mg af k x c i (λa=>nz (F a)):=by
 obtain ⟨f,m,G,b⟩:=h.ex;refine ⟨f,m,⟨λj H Q E ⟨B,a,d,hl,_⟩=>hl,λA outer s H args n j Q E hr o p u v=>?_⟩,b⟩;obtain ⟨B,a,d,hl,r,e,q⟩:=v;refine o8 (G.run A outer s H args n j Q (λ_ _ _=>False) hr o p u ⟨B,a,hl,r,.inl ⟨d,VW e,q⟩⟩) λr I l=>?_
 cases r with
 |error e=>
  obtain ⟨_,_,_,_,_,_,_,_,_,_,_,_,_,z⟩:=l;exact z.elim
 |ok y=>cases y<;>exact l
theorem au.set {K:aC} {A:WZ} {H:Hp} {v:V} {d:D} (a:aL K A H v d): ∀ {c:List V} {e:List D} (j:Nat),au K A H c e->au K A H (c.set j v) (e.set j d)
 |_,_,_,.nil=> .nil
 |_,_,0,.cons _ t=> .cons a t
 |_,_,j+1,.cons h t=> .cons h (au.set a j t)
def Bz (i:Nat) (e h:T4):Sl->ao aW:=λa=>dw i a>>=λc=>h a>>=λd=>e a>>=λl=>match l with
 | .int n=>match lQ c.length n with
  |some j=> .ok (.nx (a.set i (.aw (.ai (c.set j d)))))
  |none=> .aj
 |_=> .aj
def Tp {X:Cx} {l1:Lv} {e1 e2:Expr} {O Q:T4} {h c p:Pos} {x:Str} (i:Nat) (hk:DE X l1 e1 O) (hv:DE X .s e2 Q) (hN:X.N[i]?=some x:=by rfl) (I:fL X.env.scope x:=by exact du rfl)
   (hd:Y6 x:=by decide) (J:Y5 x:=by decide)
   (z: ∀v,iK (.Subscript (.Name x p) e1 c) X.env v=(do
    let B<-gq [v] (eval (.Name x p) X.env)
    let L<-gq [v,B] (eval e1 X.env)
    iJ c
    gq [v,B,L] (setItem B L v)
    release [v,B,L] []):=by intro _;rfl)
   (hs:swapsWithSole [.Subscript (.Name x p) e1 c] e2 h.line X.env=pure false:=by rfl) (hw:swappedStores [.Subscript (.Name x p) e1 c] e2 X.env=pure none:=by rfl)
   (h1:(eD [.Subscript (.Name x p) e1 c] X.env).map (·.2)=[iK (.Subscript (.Name x p) e1 c) X.env]:=by rfl):
   DS X (.Assign [.Subscript (.Name x p) e1 c] e2 h) (Bz i O Q):=by
 with_unfolding_all exact (
  PS.imp (GQ hv (NH (wE hN I hd J) hk OH z) hs hw h1) λE σ H=>by
   rintro ⟨G,U,l,o,k,m,q⟩;obtain ⟨ds,c1,m⟩:=jd m;obtain ⟨d,c2,m⟩:=jd m;obtain ⟨kd,c3,e⟩:=jd m;have Y:=J9 c1;obtain ⟨a,xs,z,hx,rs⟩:=J8 k Y
   cases kd with
   |int n=>
    dsimp only at e
    cases N:lQ ds.length n with
    |none=>rw [N] at e;cases e
    |some j=>
     rw [N] at e;cases e;refine ⟨G,U,l,d,k,c2,λv H1 r r1 _=>⟨.ref a,z,G,U,l,.int n,k.am r,c3,λy H2 u r2 _=>?_⟩⟩;have w:=u _ _ (r _ _ hx);cases (r2.aH Lv.aZ).cM;refine ⟨a,xs,n,j,rfl,rfl,w,by rw [rs.length];exact N,?_⟩;have W:=((k.am r).am u).write Y z w (au.set (r1.am u) j ((rs.am r).am u));exact q σ _ W.1 ((W.2.am u).am r)
   |_=>cases e)
section
variable {prog:bH} {w:World} {A:bQ} {E:Vt} {s:aM} {it t:Addr} {i:Nat} {items:Array Value} {Q:Vt}
def WM (a:s.heap.IsTupleIter it t i) (l:s.heap.IsTuple t items) (m:items[i]?=some x) (n: ∀e,e.IsTupleIter it t (i+1)->pO it s.heap e->Q x {s with heap:=e}):
  wpAny (model prog w) A (pw (.ref it)) Q E s:=by
 obtain ⟨o,d,p,c⟩:=id a;obtain ⟨q,h,_,r,j⟩:=l;unfold pw
 refine az (pc a.typeIs BA (m5 BA a.typeIs F.entry_tuple_iterator_next
  (show wpAny _ _ (field (.ref it) 0>>=_) _ _ s from az (lf d c rfl (show wpAny _ _ (if (di t==kb)=true then _ else _) _ _ s from ?_))) (F.args_tuple_iterator_next_1 _)))
 rw [if_neg (show¬((di t==kb)=true) from eh)];refine (show wpAny _ _ (field (.ref it) 1>>=_) _ _ s from az (lf d c rfl (show wpAny _ _ (seqItems? (.ref t)>>=_) _ _ s from az (oI h j ?_))));simp only [lP,m];exact az (Br d c (by simp) (ba ⟨x,rfl,ba (n _ ⟨_,AX _ d (Obj.isFreed_of_fields (Bs c _)),(Obj.cls_mapFields ..).trans p,by rw [Bs c];simp [l6]⟩ (Bt ..))⟩))
def KP (m:A.handled=none) (a:s.heap.IsTupleIter it t i) (n:s.heap.IsTuple t items) (p:items[i]?=none)
  (q: ∀c e,Heap.ExtBut it s.heap c->(∃o,c.get? e=some o/\o.cls= .type "StopIteration")->E (.ref e) {s with heap:=c}):
  wpAny (model prog w) A (pw (.ref it)) Q E s:=by
 obtain ⟨o,d,r,h⟩:=id a;obtain ⟨u,j,_,v,l⟩:=n;unfold pw
 refine az (pc a.typeIs BA (m5 BA a.typeIs F.entry_tuple_iterator_next
  (show wpAny _ _ (field (.ref it) 0>>=_) _ _ s from az (lf d h rfl (show wpAny _ _ (if (di t==kb)=true then _ else _) _ _ s from ?_))) (F.args_tuple_iterator_next_1 _)))
 rw [if_neg (show¬((di t==kb)=true) from eh)];refine (show wpAny _ _ (field (.ref it) 1>>=_) _ _ s from az (lf d h rfl (show wpAny _ _ (seqItems? (.ref t)>>=_) _ _ s from az (oI j l ?_))));simp only [lP,p];refine az (rG (az (Br d h (by simp) (show wpAny _ _ (newExc (.type "StopIteration") []>>=_) _ _ _ from az ?_))));simp only [newExc,newTuple];refine az (nU (az (wpAny_of_eq (by first|rfl| (simp;rfl)) (nU ?_ (by size_fits)))) (by size_fits));simp only [raiseNew];refine az (wpAny_handled ?_);rw [show A.in1.handled=none from m];exact az (ba (wpAny_throw (q _ _ (((Bt ..).extBut.push _).push _) ⟨_,dn _ rfl,rfl⟩)))
def Tq (p:A.handled=none) (it l:Addr) (d:l≠it) (items:Array Value):Draws prog w A it [it,l] items.size (λi v=>items[i]?=some v) (λi h=>h.IsTupleIter it l i/\h.IsTuple l items) where
 live:=λ_ _ st=>let ⟨o,j,_⟩:=st.1;⟨o,j⟩
 frame:=λ_ _ _ st m=>⟨st.1.at λo e=>m it (by simp) o e,let ⟨o,j,r⟩:=st.2;⟨o,m l (by simp) o j,r⟩⟩
 item:=λi s Q E n st q=>WM st.1 st.2 (x:=items[i]) (by simp [n]) λu a c=>q _ u s.toks (by simp [n]) ⟨a,st.2.extBut c.extBut d⟩ c
 done:=λs Q E st y=>KP p st.1 st.2 (by simp) y
def Ts (d:A.handled=none) (it l:Addr) (items:Array Value) (i:Nat) (p:items.size<=i):Draws prog w A it [it,l] i (λ_ _=>True) (λj h=>j=i/\h.IsTupleIter it l j/\h.IsTuple l items) where
 live:=λ_ _ st=>let ⟨o,a,_⟩:=st.2.1;⟨o,a⟩
 frame:=λ_ _ _ st c=>⟨st.1,st.2.1.at λo e=>c it (by simp) o e,let ⟨o,a,r⟩:=st.2.2;⟨o,c l (by simp) o a,r⟩⟩
 item:=λj s Q E m st q=>absurd st.1 (eB m)
 done:=λs Q E st n=>KP d st.2.1 st.2.2 (by simp;omega) n
end
open AutoSeq1 (wpAny_loadPart') in
theorem Tt (l:Addr) (a:Array Value) (n:Nat) (i:Option Addr) (p:Array (Option Value)):
  PySem.Meets (mM.«enumerate.__new__» ⟨[.type "enumerate",.ref l],[]⟩) (λ_ R s=>s.heap.get? l=some {cls:= .type "tuple",dict:=i,data:= .seq a n,slots:=p}/\
    R (.ok (.ret (.ref (s.heap.push {cls:= .type "tuple_iterator",data:= .fields #[.ref l,.int 0 0]}).objs.size)))
     {s with heap:=(s.heap.push {cls:= .type "tuple_iterator",data:= .fields #[.ref l,.int 0 0]}).push {cls:= .type "enumerate",data:= .fields #[.none,.bool false,.ref s.heap.objs.size,l6 0,.none,.none]}}):=
 .of_wp λj w A R s h=>by
  obtain ⟨q,g,d,tk,os⟩:=s;obtain ⟨e,h⟩:=h;have m:=sub_enumerate;have o:Heap.IsTuple (Shared.heap ⟨q,g,d,tk,os⟩) l a:=⟨_,e,rfl,n,rfl⟩
  wp_walk using wj e
  refine wpAny_stack_any λst=>ba ?_
  split
  . rename_i c _ _ _ _ _;cases (c==n8 "enumerate")<;>(wp_walk using wj e,wd o;exact ⟨_,rfl,h⟩)
  . wp_walk using wj e,wd o
    exact ⟨_,rfl,h⟩
section
variable {prog:bH} {w:World} {A:bQ} {E:Vt} {s:aM}
def Tu (r:s.heap.IsTuple l a)
  (h: ∀d,IsEnum d (s.heap.objs.size+1) s.heap.objs.size 0 .none->d.IsTupleIter s.heap.objs.size l 0->(∀b o,s.heap.get? b=some o->d.get? b=some o)->Q (.ref (s.heap.objs.size+1)) {s with heap:=d}):
  wpAny (model prog w) A (call (.type "enumerate") [.ref l]) Q E s:=by
 obtain ⟨⟨c,i,dt,u⟩,v,y,n,z⟩:=r;cases (show c= .type "tuple" from y);cases (show dt= .seq a n from z);refine callType_new F.called_enumerate (by decide) (F.typeCall_enumerate_1 _) (F.newCall_enumerate_1 _) (λobj=>F.args_object_init_2 obj _) F.entry_enumerate_new (Tt l a n i u) ⟨v,?_⟩;generalize j:s.heap.push {cls:= .type "tuple_iterator",data:= .fields #[.ref l,.int 0 0]}=e;have q:e.objs.size=s.heap.objs.size+1:=by rw [<-j];exact oo ..
 have m:e.get? s.heap.objs.size=some {cls:= .type "tuple_iterator",data:= .fields #[.ref l,.int 0 0]}:=by rw [<-j];exact dn _ rfl
 have B: ∀b o,s.heap.get? b=some o->e.get? b=some o:=λb o x=>by rw [<-j];exact bW _ x
 have p:=dn e (o:={cls:= .type "enumerate",data:= .fields #[.none,.bool false,.ref s.heap.objs.size,l6 0,.none,.none]}) rfl;rw [q] at p;rw [q];exact ⟨⟨_,p,rfl⟩,h _ p ⟨_,bW _ m,rfl,rfl⟩ λb o x=>bW _ (B b o x)⟩
end
def EC (K:aC) (a:Addr) (c:List V):It:=⟨λi H=>ee K H a c/\i<c.length,λi H v d=> ∃p x,H p=none/\c[i]?=some x/\v= .ref p/\d=aR H p (.ak [.int (i:Int),x]),λi H=>ee K H a c/\c.length<=i⟩
def uY {K:aC} (a d e:Addr) (xs:List V) (B:e≠d) (Tv:a≠d) (Tw:a≠e):Turn P w K (.Tuple elts n pos) (EC K a xs) [e,d] e (λi h=>(∃j,IsEnum h e d (i:Int) j)/\h.IsTupleIter d a i) where
 mem:=by simp
 obj:=λi h st b r=>by
  obtain ⟨⟨j,q⟩,o,ho,hc,hd⟩:=st;simp at r;rcases r with rfl|rfl
  . exact ⟨_,q,λv z=>by cases z⟩
  . exact ⟨o,ho,λv z=>by rw [hd] at z;cases z⟩
 keep:=λi h h' st k=>by
  obtain ⟨⟨j,q⟩,l⟩:=st;exact ⟨⟨j,k e (by simp) _ q⟩,l.at λo x=>k d (by simp) o x⟩
 item:=by
  intro X hP hw hK hc i c s σ H E I N st hg;subst hP hw hK;obtain ⟨hq,hi⟩:=hg;obtain ⟨m,rv,p,hz⟩:=I.tuple hq;have hx:=cU hi;obtain ⟨u,hu,ru⟩:=rv.get hx;obtain ⟨⟨j,q⟩,l⟩:=st;have fe:=N e (by simp);have fi:=N d (by simp);have hl:=rv.length;refine wpAny_pyNext_enum_itemD (Tq (A:=X.A.in1) (I.ok.hd hc) d a Tv m.toArray) q ⟨l,show s.heap.IsTuple a m.toArray from p⟩ (by simp;omega) B (by simp [B,iH Tw]) λx h' tk px ho Tx hT rK hk=>?_
  have Tz:x=u:=by
    have:m.toArray[i]?=some u:=by simpa using hu
    rw [this] at px;exact (fj px).symm
  subst Tz;refine ⟨_,rfl,wpAny_letOwnedTupleGo_enum ho λnk Et O=>?_⟩;have Q:=b6 q;have U:d<s.heap.objs.size:=by obtain ⟨_,x,_⟩:=l;exact b6 x
  have nj:=I.aY.fresh (br _)
  have I1:aA X c σ (aR H s.heap.objs.size (.ak [.int (i:Int),xs[i]])) {s with heap:=s.heap.push {cls:= .type "tuple",data:= .seq #[.int i tk,x]}}:=
    I.laid (λb o e=>bW _ e) (br _) ⟨cY (show 2<=20 by decide) (by decide),[.int i tk,x],.cons ⟨_,rfl⟩ (.cons ru .nil),⟨_,dn _ rfl,rfl,_,rfl⟩⟩
  have Y:cQ X c (aR H s.heap.objs.size (.ak [.int (i:Int),xs[i]])) e:=⟨by rw [j3 (eB Q)];exact fe.1,fe.2⟩
  have zu:cQ X c (aR H s.heap.objs.size (.ak [.int (i:Int),xs[i]])) d:=⟨by rw [j3 (eB U)];exact fi.1,fi.2⟩
  have I2:=yC (t':=tk+1) I1 (λb o J L eo=>by
    refine (O.2 b J).trans ?_
    by_cases r:b=s.heap.objs.size
    . subst r;rw [dn _ rfl] at eo;rw [<-eo];exact hT
    . have rR:s.heap.get? b=some o:=by
       rcases Bu eo with ⟨z,_⟩|z
       . exact absurd z r
       . exact z
      exact hk b o J L rR) Y zu
  refine ⟨.ref s.heap.objs.size,_,I2,rfl,⟨_,_,nj,hx,rfl,rfl⟩,⟨⟨_,by simpa using Et⟩,Tx.1.at λo y=>(O.2 d B.symm).trans y⟩,λb r=>?_⟩;simp at r;rcases r with rfl|rfl
  . exact Y.1
  . exact zu.1
 done:=by
  intro X hP hw hK hc i c s σ H E I N st hg;subst hP hw hK;obtain ⟨hq,hi⟩:=hg;obtain ⟨m,rv,p,hz⟩:=I.tuple hq;obtain ⟨⟨j,q⟩,l⟩:=st;have hl:=rv.length;refine wpAny_pyNext_enum_endD (Ts (A:=X.A.in1) (I.ok.hd hc) d a m.toArray i (by simp;omega)) q ⟨rfl,l,show s.heap.IsTuple a m.toArray from p⟩ λh' eb=>⟨rfl,yC I (λb o J L eo=>eb b o L eo) (N e (by simp)) (N d (by simp))⟩
 self:=λ_ _ _ _ _ st h=>let ⟨⟨_,q⟩,_⟩:=st;Bv q h
section
variable {X:Cx} {elts:List Expr} {n:Nat} {gt p pos:Pos} {e:Expr} {f:T4}
def BB (f:T4):Sl->ao (List D):=λa=>f a>>=λd=>match d with
 | .ak c=> .ok (jS 0 c)
 |_=> .aj
def TB (hg:Gl X "enumerate") (hm:X.mg "enumerate" =none) (h:DE X .s e f) (hs:bg [e] X.env=[(false,eval e X.env)]:=by rfl):DI X (.Tuple elts n gt) (.Call (.Name "enumerate" p) [e] [] pos) (BB f):=by
 have hE:PE X e (tE X.K .s f):=by with_unfolding_all exact h
 with_unfolding_all exact (show PI X (.Tuple elts n gt) (.Call (.Name "enumerate" p) [e] [] pos) (tI X.K (BB f)) from by
  rintro l s B H R I ⟨G,J,c,ds,k,L,q⟩;obtain ⟨d,e1,e2⟩:=jd L
  have hA:PA X [e] (tA X.K .s λc=>f c>>=λd=> .ok [d]):=by
   have:=j8 hE wF hs;rintro ps l s B H Q I ⟨G,J,c,ds,k,L,q⟩;obtain ⟨d,c1,c2⟩:=jd L;cases c2;exact this ps l s B H Q I ⟨G,J,c,d,k,c1,λv m j z _=>q [v] m j (.cons z .nil)⟩
  refine Call_ (Ju I hg hm boot_enumerate (oh (bc (hA pos l s B H (λN m=> ∃v,N=[v]/\aq H m/\aL X.K (Sf G c B) m v d) I ⟨G,J,c,[d],k,by show (f c>>=_)=_;rw [e1];rfl,λN m j z=>by obtain ⟨v,rfl,r⟩:=z.one;exact ⟨v,rfl,j,r⟩⟩) λus j ⟨N,m,w,z,v,ev,sm,rep⟩=>?_) hs rfl));subst ev;obtain ⟨u,rfl,ru⟩:=ZK z;have k1:=k.am sm
  cases d with
  |ak es=>
   cases e2;obtain ⟨a,O,rfl,E,rs⟩:=rep.dR;cases ru;have hq:ee X.K m a O:= .inl (.of E);obtain ⟨U,rv,pl,hz⟩:=w.tuple hq;have cV:a<j.heap.objs.size:=by obtain ⟨o,ho,_⟩:=pl;exact b6 ho
   refine Tu (show j.heap.IsTuple a U.toArray from pl) λh' he Y hk=>Bv he ?_
   have I2:=w.kept (t':=j.toks) hk;refine ⟨j.heap.objs.size+1,[j.heap.objs.size+1,j.heap.objs.size],_,_,m,rfl,I2,uY a j.heap.objs.size (j.heap.objs.size+1) O (Nat.succ_ne_self _) (eB cV) (eB (Nat.lt_succ_of_lt cV)),⟨⟨_,he⟩,Y⟩,λb hb=>?_,?_⟩
   . simp at hb;rcases hb with rfl|rfl
     . exact w.eQ (nS _) (w.aY.fresh (nS _))
     . exact w.eQ (br _) (w.aY.fresh (br _))
   . refine q _ m (λH=>H a=some (.ak O)) sm (λi H' pp=>?_) E λenv' fR H' fr=>fr.keep a _ E λow=>(k1.li ow E).elim
     have hl:=rs.length;rw [Xi];refine ⟨λhi=>⟨.inl (.of pp),by omega⟩,λd hd x H2 y=>?_,λhi=>⟨.inl (.of pp),by omega⟩⟩;obtain ⟨p,x',hp,mn,rfl,rfl⟩:=y;obtain ⟨d',Eu,rd⟩:=rs.get' mn;rw [Xj,Eu] at hd;cases hd;exact .inr ⟨p,_,_,hp,rfl,rfl,rfl,.cons (by rw [pi];exact .int _) (.cons rd .nil)⟩
  |_=>cases e2)
end
section
variable {X:Cx} {K:aC}
def nB:D->D->ao D
 |a,.aU=> .ok (.bl (!a.nu))
 |_,_=> .aj
def TC:ej K (λx y H Q=>y= .aU/\Q (.bl (!decide (x= .aU))) H) nB:=by
 intro x y H a b d Q c h e q;unfold nB at e
 split at e
 . cases e;refine ⟨h.rf,?_⟩;rw [Vv c];exact q _ (iM _)
 . cases e
end
def Ud {a:Type} {v:a} {l:List (Str×a)}:gJ c ((c,v)::l)=some v:=by simp [gJ]
def Uc {a:Type} {v:a} {l:List (Str×a)} (h:c≠d):gJ c ((d,v)::l)=gJ c l:=by
 have:(c==d)=false:=by simpa using h
 simp [gJ,this]
inductive bL where
 |nx (env:Sl)|rt (b:Bool) (env:Sl)
abbrev At (c:L2.St) (i:Nat) (a:Addr):Prop:=c[i]?=some (some (V.ref a))
def BC (K:aC) (G:WZ) (j:Hp) (i:Nat) (a:Addr) (h:Sl) (l:L2.St) (H:Hp) (E:Ends):bL->Prop
 | .nx c=> ∀d e,ay K G j c d e->At d i a->be h l H c d e->E.nx d e
 | .rt b c=> ∀d e,ay K G j c d e->At d i a->be h l H c d e->E.rt (.bl b) e
def IZ (K:aC) (i:Nat) (g:Sl->ao bL):TS:=λE d H=> ∃G e c o a,ay K G e c d H/\At d i a/\g c= .ok o/\BC K G e i a c d H E o
@[irreducible] def pz (X:Cx) (i:Nat) (st:Stmt) (g:Sl->ao bL):Prop:=PS X st (IZ X.K i g)
@[irreducible] def f9 (X:Cx) (i:Nat) (st:List Stmt) (g:Sl->ao bL):Prop:=dk X st (IZ X.K i g)
section
variable {K:aC} {G:WZ} {H0 H H':Hp} {env env':Sl} {σ fR:L2.St} {i:Nat} {a:Addr} {E:Ends}
def Z2 (f:be env σ H env' fR H') (q:BC K G H0 i a env σ H E o):BC K G H0 i a env' fR H' E o:=by
 cases o with
 |nx e=>exact λc d h j l=>q c d h j (f.trans l)
 |rt b e=>exact λc d h j l=>q c d h j (f.trans l)
def ay.anew (k:ay K G H0 env σ H) (p:env[i]?=some (.aw d)) (J:At σ i a) (r: ∀c o,c≠a->H c=some o->H' c=some o) (t:Top K (Sf G env σ) H' a u):
   ay K G H0 (env.set i (.aw u)) σ H'/\be env σ H (env.set i (.aw u)) σ H':=by
 have hl:i<env.length:=(iD.mp p).1;have O:zY env σ a:=⟨i,_,p,J⟩
 have same: ∀c,zY (env.set i (.aw u)) σ c->zY env σ c:=λc ⟨j,e,h1,h2⟩=>by
   by_cases z:i=j
   . subst z;exact ⟨i,d,p,h2⟩
   . exact ⟨j,e,by rw [jx z] at h1;exact h1,h2⟩
 obtain ⟨a',y,B,Y⟩:=k.aw i _ p;rw [J] at y;cases y;obtain ⟨o0,L,N⟩:=Y.there
 have st:eT (Sf G env σ) H H':=λc o e m=>r c o (by
   rintro rfl;rw [L] at e;cases e
   exact (m N).1 O) e
 have w: ∀c,Sf G env σ c->Sf G (env.set i (.aw u)) σ c:=λc n=>⟨λo=>n.1 (same c o),n.2⟩
 refine ⟨⟨by simp [k.len],λc o e=>?_,k.g0,λj e h=>?_,λj e h=>?_,λj Q I d2 b q1 q2 q3 q4=>?_⟩,⟨λc o e n=>?_,λc o=> .inl (same c o),λc e=>?_⟩⟩
 . exact r c o (by rintro rfl;rw [B] at e;cases e) (k.af c o e)
 . by_cases z:i=j
   . subst z;obtain ⟨q,_⟩:=jL h;cases q
   . rw [jx z] at h;obtain ⟨v,h1,h2⟩:=k.ah j e h;exact ⟨v,h1,h2.a9 st w⟩
 . by_cases z:i=j
   . subst z;obtain ⟨q,_⟩:=jL h;cases q;exact ⟨a,J,B,t.a9 (λ_ _ e _=>e) w λ_ e=>e⟩
   . rw [jx z] at h;obtain ⟨b,h1,h0,h2⟩:=k.aw j e h
     have hb:b≠a:=by
       rintro rfl;exact z (k.nX i j _ _ b p h J h1)
     exact ⟨b,h1,h0,h2.a9 st w λo e=>r b o hb e⟩
 . have l: ∀(j:Nat) (I:D),(env.set i (.aw u))[j]?=some (.aw I)-> ∃d0:D,env[j]?=some (.aw d0):=λj I q=>by
     by_cases z:i=j
     . subst z;exact ⟨_,p⟩
     . exact ⟨I,by rw [jx z] at q;exact q⟩
   obtain ⟨e1,z1⟩:=l j I q1;obtain ⟨e2,z2⟩:=l Q d2 q2;exact k.nX j Q e1 e2 b z1 z2 q3 q4
 . exact r c o (by rintro rfl;exact n O) e
 . cases z:H c with
   |none=>rfl
   |some o=>
     by_cases U:c=a
     . subst U;obtain ⟨o1,h1,_⟩:=t.there;rw [h1] at e;cases e
     . rw [r c o U z] at e;cases e
end
section
variable {X:Cx} {i:Nat} {e c I:Expr} {st:Stmt} {rest Y U:List Stmt} {O:Pos} {l:Lv} {f:T4} {g L g2:Sl->ao bL}
def gb (L g2:Sl->ao bL):Sl->ao bL:=λd=>L d>>=λo=>match o with
 | .nx a=>g2 a
 | .rt b e=> .ok (.rt b e)
def xy (n:pz X i st L) (p:f9 X i rest g2):f9 X i (st::rest) (gb L g2):=by
 with_unfolding_all exact (dk.imp (Q8 n p) λE B H=>by
  rintro ⟨G,j,h,o,a,k,r,u,q⟩;obtain ⟨m,e1,e2⟩:=jd u;refine ⟨G,j,h,m,a,k,r,e1,?_⟩
  cases m with
  |nx d=>exact λv J w y z=>⟨G,j,d,o,a,w,y,e2,Z2 z q⟩
  |rt b d=>cases e2;exact q)
def zO (a:pz X i st L):f9 X i [st] L:=by
 with_unfolding_all exact (dk.imp (Xe a) λE d H q=>q)
def nZ:Sl->ao bL:=λa=> .ok (.nx a)
def yN:f9 X i [] nZ:=by
 with_unfolding_all exact (dk.imp Xf λE d H=>by
  rintro ⟨G,n,h,o,a,k,j,m,q⟩;cases m
  exact q d H k j (be.refl (aq.refl H)))
def pA (t:T3) (L g2:Sl->ao bL):Sl->ao bL:=λa=>t a>>=λb=>if b=true then L a else g2 a
def UG (m:DT X c t) (n:f9 X i Y L) (p:f9 X i U g2):pz X i (.If c Y U O) (pA t L g2):=by
 with_unfolding_all exact (PS.imp (Vy m n p) λE u H=>by
  rintro ⟨G,h,d,o,a,k,j,r,q⟩;obtain ⟨b,e1,e2⟩:=jd r;refine ⟨G,h,d,b,k,e1,λv s=>?_⟩
  cases b with
  |true=>
   rw [if_pos rfl] at e2 ⊢;exact ⟨G,h,d,o,a,k.am s,j,e2,Z2 (be.refl s) q⟩
  |false=>
   rw [if_neg eh] at e2 ⊢
   exact ⟨G,h,d,o,a,k.am s,j,e2,Z2 (be.refl s) q⟩)
def gc (f:T4):Sl->ao bL:=λa=>f a>>=λd=>match d with
 | .bl b=> .ok (.rt b a)
 |_=> .aj
def QS (h:DE X l e f):pz X i (.Return (some e) O) (gc f):=by
 with_unfolding_all exact (PS.imp (Wl h) λE m H=>by
  rintro ⟨G,n,j,o,a,k,p,u,q⟩;obtain ⟨d,e1,e2⟩:=jd u
  cases d with
  |bl b=>
   cases e2;refine ⟨G,n,j,.bl b,k,e1,λv w s r _=>?_⟩;cases (r.aH (A':=Any) Lv.aZ).re;exact q m w (k.am s) p (be.refl s)
  |_=>cases e2)
def TD (K:aC) (i:Nat) (t:TZ):TG:=λv m H Q=> ∃G n h d a,ay K G n h m H/\aL K (Sf G h m) H v d/\t d h= .ok a/\ ∀j,ay K G n a j H->be h m H a j H->j[i]?=m[i]?->Q j H
@[irreducible] def zz (X:Cx) (i:Nat) (I:Expr) (t:TZ):Prop:=PG X I (TD X.K i t)
theorem KS (j:Nat) (a:j≠i) (m:X.N.Nodup) (n:X.N[j]?=some x:=by rfl) (o:Loc X.env.scope x:=by exact h8 rfl)
   (p:T9 X x:=by first|exact .inl rfl|exact .inr rfl|assumption):zz X i (.Name x O) (gN j):=by
 with_unfolding_all exact (
  PG.imp (GP m n o p) λv w H Q=>by
   rintro ⟨G,y,u,d,h,k,r,e,q⟩;cases e
   exact q _ (k.iN r) (.set (aq.refl H) λ_ _ z _=>by cases z) (jx a))
def TF {k:Nat} (E:X.bT=true) (J:zz X i a t) (N:zz X i b u)
   (hs:(eD [a,b] X.env).map (·.2)=iK a X.env::(eD [b] X.env).map (·.2):=by rfl) (m:(eD [b] X.env).map (·.2)=iK b X.env::(eD [] X.env).map (·.2):=by rfl)
   (hn:(eD [a,b] X.env).length=2:=by rfl) (o:(eD [a,b] X.env).findIdx? (·.1)=none:=by rfl):zz X i (.Tuple [a,b] k O) (M.g2 t u):=by
 with_unfolding_all exact (
  PG.imp (Cy (n:=2) E (xK J (xK N kq m) hs) hn o) λv σ H Q=>by
   rintro ⟨G,y,p,d,j,k,r,e,q⟩;unfold M.g2 at e
   split at e
   . obtain ⟨h,e1,e2⟩:=jd e;obtain ⟨a,xs,rfl,ha,rs⟩:=r.dR;obtain ⟨v1,z,rfl,r1,r2⟩:=rs.al;refine ⟨a,_,rfl,.of ha,rfl,v1,[z],rfl,G,y,p,_,h,k,r1,e1,λoD k1 B z1=>⟨z,[],rfl,G,y,h,_,j,k1,B.rep k r2,e2,λw k2 f2 z2=>⟨rfl,q w k2 (B.trans f2) (z2.trans z1)⟩⟩⟩
   . cases e)
def Zr (t:TZ) (g:Sl->ao bL):List D->Sl->ao bL
 | [],a=> .ok (.nx a)
 |d::m,a=>t d a>>=λh=>g h>>=λo=>match o with
  | .nx j=>Zr t g m j
  | .rt b e=> .ok (.rt b e)
def lx (f:T1) (t:TZ) (g:Sl->ao bL):Sl->ao bL:=λa=>f a>>=λd=>Zr t g d a
def I0 (hp:pR (model X.prog X.w) X.A X.env X.xe) (hc:X.bT=true) (hi:DI X I e fi) (hg:zz X i I t) (hb:f9 X i Y g)
   (hs: ∀x,oi e X.env x=pure x:=by intro _;rfl):pz X i (.For I e Y [] O) (lx fi t g):=by
 with_unfolding_all exact (
  PS.imp (CD hp hc hi hg hb hs) λE σ H=>by
   rintro ⟨G,H0,v,o,a,k,ha,ef,q⟩;obtain ⟨u,e1,e2⟩:=jd ef;refine ⟨G,H0,v,u,k,e1,λJ H1 P sm wk p0 oE=>?_⟩;have k1:=k.am sm;have q1:BC X.K G H0 i a v σ H1 E o:=Z2 (be.refl sm) q;refine ⟨λj m n B=>m=u.length-j/\j<=u.length/\ ∃d,ay X.K G H0 d n B/\At n i a/\be v σ H1 d n B/\Zr t g (u.drop j) d= .ok o,⟨u.length,by simp,gl _,v,k1,ha,be.refl (aq.refl H1),by simpa using e2⟩,?_⟩;rintro j m n B ⟨rfl,hj,d,k',a',f',e'⟩;obtain ⟨w1,w2,w3⟩:=wk j B (oE d n B f')
   by_cases hd:j<u.length
   . refine .inr ⟨w1 hd,?_⟩;rw [A8 hd] at e';obtain ⟨w,e5,e'⟩:=jd e';obtain ⟨o1,e6,e4⟩:=jd e';refine ⟨λr N=>u.length-(j+1)=u.length-(j+1)/\j+1<=u.length/\ ∃h,ay X.K G H0 h r N/\At r i a/\be v σ H1 h r N/\Zr t g (u.drop (j+1)) h= .ok o,λr N z=>⟨u.length-(j+1),by omega,z⟩,λx N y=>?_⟩
     obtain ⟨rT,rd⟩:aq B N/\aL X.K (Sf G d n) N x u[j]:=by
      rcases w2 _ (cU hd) x N y with ⟨rfl,rd⟩| ⟨p,vs,es,hp,rfl,rfl,ed,rk⟩
      . exact ⟨aq.refl _,f'.rep k1 rd⟩
      . refine ⟨aq.aR hp,?_⟩;rw [ed];exact .ak jD ((f'.rg k1 rk).am (aq.aR hp))
     refine ⟨G,H0,d,u[j],w,k'.am rT,rd,e5,λoD wg wh z1=>⟨G,H0,w,o1,a,wg,z1.trans a',e6,?_⟩⟩;have Jc:=(f'.trans (be.refl rT)).trans wh
     cases o1 with
     |nx h=>exact λr H3 Q ED EE=>⟨rfl,hd,h,Q,ED,Jc.trans EE,e4⟩
     |rt b h=>cases e4;exact λr H3 Q ED EE=>q1 r H3 Q ED (Jc.trans EE)
   . refine .inl ⟨w3 (by omega),?_⟩;rw [A9 (by omega)] at e';cases e'
     exact q1 n B k' a' f')
end
def BD (i:Nat) (c e fw:T4):Sl->ao bL:=λa=>lq i a>>=λq=>c a>>=λh=>e a>>=λd=>match eX h with
 |some k=>aV (q.1.length<aS) (match bB q.1 q.2 k with
  |some d0=>fw a>>=λw=>ce d0 w>>=λr=>match r with
   | .bl b=> .ok (.rt b a)
   |_=> .aj
  |none=>fw (a.set i (.aw (.aP (QE q.1 k) (QF q.1 q.2 k d))))>>=λw=>ce d w>>=λr=>match r with
   | .bl b=> .ok (.rt b (a.set i (.aw (.aP (QE q.1 k) (QF q.1 q.2 k d)))))
   |_=> .aj)
 |none=> .aj
section
variable {X:Cx} {i:Nat} {x:Str} {e1 e2 e3:Expr} {p apos cj pos EF:Pos} {l1 l3:Lv} {fk fv fw:T4}
def TH {K:aC} (k:aQ) (r:au K A H (a.map (·.2)) j):(∀v,bX a k=some v-> ∃d,bB (a.map (·.1)) j k=some d/\aL K A H v d)/\(bX a k=none->bB (a.map (·.1)) j k=none):=by
 obtain ⟨m,n⟩:=ZW k r
 cases e:bB (a.map (·.1)) j k with
 |none=>
  have:=n e;exact ⟨λv c=>(by rw [this] at c;cases c),λ_=>rfl⟩
 |some d=>
  obtain ⟨v,c,o⟩:=m d e;exact ⟨λq h=>(by rw [c] at h;cases h;exact ⟨d,rfl,o⟩),λl=>(by rw [c] at l;cases l)⟩
def TJ (hu:X.A.units+200<cLine) (i:Nat) (hk:DE X l1 e1 fk) (hv:DE X .s e2 fv) (hw:DE X l3 e3 fw) (hN:X.N[i]?=some x:=by rfl) (TK:fL X.env.scope x:=by exact du rfl)
   (hd:Y6 x:=by decide) (AU:Y5 x:=by decide)
   (m:l7 (.Name x p) "setdefault" X.env (eval (.Name x p) X.env)=eval (.Name x p) X.env:=by rfl)
   (I:((dA cj (bg [e1,e2] X.env)).all (λx=>!x.1)&&(fV cj (fW [] X.env)).all (λx=>x.1.isSome)
    &&decide ([e1,e2].length+([]:List fO).length+(if ([]:List fO).isEmpty then 0 else 1)<30))=true:=by exact xt rfl rfl)
   (n:(apos.endLine==cj.line)=true:=by rfl) (hs:bg [e1,e2] X.env=(false,eval e1 X.env)::bg [e2] X.env:=by exact jm rfl) (j:(dA cj (bg [e2] X.env)).any (·.1)=false:=by exact jF rfl)
   (yG:bg [e2] X.env=(false,eval e2 X.env)::bg [] X.env:=by exact jm rfl) (hm:pW .Eq e3=false:=by first|exact CL _| (with_unfolding_all rfl)):
   pz X i (.Return (some (.Compare (.Call (.Attribute (.Name x p) "setdefault" apos) [e1,e2] [] cj) [.Eq] [e3] EF)) pos) (BD i fk fv fw):=by
 with_unfolding_all exact (
  PS.imp (Wl (GW (qY hu) (kr PySem.F.plainAttrs_dict Il PySem.F.type_dict_setdefault RY (wE (i:=i) hN TK hd AU) (j8 hk (j8 hv wF yG) hs) m I n hs j) hw hm)) λE σ H=>by
   rintro ⟨G,U,r,o,aa,k,TL,J,q⟩;obtain ⟨ks,c1,J⟩:=jd J;obtain ⟨kd,c2,J⟩:=jd J;obtain ⟨d,c3,Y⟩:=jd J;have hi:=Ze c1;obtain ⟨a,u,L,hx,z,rs⟩:=WK k hi
   have N:a=aa:=by
    have:=L.symm.trans TL;cases this;rfl
   subst N
   cases e:eX kd with
   |none=>rw [e] at Y;cases Y
   |some kk=>
    rw [e] at Y;obtain ⟨hz,c⟩:=ju Y;refine ⟨.ref a,L,.inr (.inr (.inl ⟨rfl,.inl ⟨u,hx⟩⟩)),G,U,r,kd,k,c2,λy H1 h r1 _=>⟨G,U,r,d,k.am h,c3,λv H2 l r2 _=>?_⟩⟩;have O:=l _ _ (h _ _ hx);have hy:=Jv (r1.aH (A':=Any) Lv.aZ) e;subst hy;have hl:u.length<aS:=by rw [<-z,dc] at hz;exact hz
    obtain ⟨g1,g2⟩:=TH (K:=X.K) kk ((rs.am h).am l);rw [z] at g1 g2;refine ⟨a,u,kk,v,rfl,rfl,O,hl,λw hw=>?_,λhn=>?_⟩
    . obtain ⟨d0,TM,TN⟩:=g1 w hw;rw [TM] at c;obtain ⟨Q,c6,c⟩:=jd c;obtain ⟨rr,c7,c⟩:=jd c;obtain ⟨hc,c8⟩:=ju c7;cases c8;cases c;refine ⟨G,U,r,Q,(k.am h).am l,c6,λy H3 B r3 _=>⟨d0,Q,(TN.am B).aH λ_ _=>trivial,r3.aH Lv.aZ,hc,?_⟩⟩;exact q σ H3 (((k.am h).am l).am B) L (be.refl (h.trans (l.trans B)))
    . rw [g2 hn] at c;obtain ⟨Q,c6,c⟩:=jd c;obtain ⟨rr,c7,c⟩:=jd c;obtain ⟨hc,c8⟩:=ju c7;cases c8;cases c;have W:=((k.am h).am l).putD (kk:=kk) hi L O z ((rs.am h).am l) r2;refine ⟨G,U,_,Q,W.1,c6,λy H3 B r3 _=>⟨d,Q,((W.2.rep ((k.am h).am l) r2).am B).aH λ_ _=>trivial,r3.aH Lv.aZ,hc,?_⟩⟩
      exact q σ H3 (W.1.am B) L (((W.2.am l).am h).trans (be.refl B)))
end
abbrev FI:=List D->List aQ->List D->ao (Bool×List aQ×List D)
def Je (K:aC) (n:Nat) (F:FI):Sp:=λp H Q _=> ∃(B:WZ) (j:List D) (h:List V) (a:Addr) (l:List aQ) (m:List D) (b:Bool) (d:List aQ) (e:List D),p=h++[V.ref a]/\h.length=n/\au K (λc=>B c/\c≠a) H h j/\Top K (λc=>B c/\c≠a) H a (.aP l m)/\F j l m= .ok (b,d,e)/\
 ∀i,(∀c o,c≠a->H c=some o->i c=some o)->Top K (λc=>(H c=none\/B c)/\c≠a) i a (.aP d e)->Q (.bl b) i
structure ly (P:bH) (w:World) (K:aC) (mg:W0) (af:Heap) (k:Nat) (x:Str) (ps:List Str) (n:Nat) (F:FI):Prop where
 ex: ∃f fd,bR P w K mg af fQ k f fd ps (Je K n F)/\mg x=some (.ref f)/\gj K (.ref f)=true/\Binds K fd ps []
def ly.mono {K:aC} (h:ly P w K mg af j x c n F) (d:j<=k):ly P w K mg af k x c n F:=
 let ⟨f,e,a,b⟩:=h.ex
 ⟨f,e,a.mono d,b⟩
def yR (F:FI) (i:Nat) (c d:T4):Sl->ao (Bool×Sl):=λa=>c a>>=λe=>d a>>=λd2=>lq i a>>=λq=>F [e,d2] q.1 q.2>>=λr=> .ok (r.1,a.set i (.aw (.aP r.2.1 r.2.2)))
def BE (K:aC) (i:Nat) (c:Sl->ao (Bool×Sl)):TE:=λe H Q=> ∃G j d b a,ay K G j d e H/\c d= .ok (b,a)/\ ∀h,ay K G j a e h->be d e H a e h->Q (.bl b) h
@[irreducible] def rV (X:Cx) (i:Nat) (e:Expr) (c:Sl->ao (Bool×Sl)):Prop:=PE X e (BE X.K i c)
section
variable {X:Cx} {k n i:Nat} {x y:Str} {ps:List Str} {F:FI} {e1 e2:Expr} {p py pos:Pos} {f1 f2:T4}
def ly.call (i:Nat) (A:ly X.prog X.w X.K X.mg X.af k x ps 2 F) (hr:aE k X.A) (h1:DE X .s e1 f1) (h2:DE X .s e2 f2) (hN:X.N[i]?=some y:=by rfl) (j:fL X.env.scope y:=by exact du rfl)
   (hd:Y6 y:=by decide) (l:Y5 y:=by decide) (hg:Gl X x:=by rfl) (m:Y6 x:=by decide)
   (U:bg [e1,e2,.Name y py] X.env=(false,eval e1 X.env)::bg [e2,.Name y py] X.env:=by exact jm rfl) (o:bg [e2,.Name y py] X.env=(false,eval e2 X.env)::bg [.Name y py] X.env:=by exact jm rfl)
   (u:bg [.Name y py] X.env=(false,eval (.Name y py) X.env)::bg [] X.env:=by exact jm rfl)
   (v:(dA pos (bg [e2,.Name y py] X.env)).any (·.1)=false:=by exact jF rfl):rV X i (.Call (.Name x p) [e1,e2,.Name y py] [] pos) (yR F i f1 f2):=by
 obtain ⟨f,fd,g1,g2,g3,g4⟩:=A.ex
 with_unfolding_all exact (
  PE.imp (Ke g1 hr hg g2 g3 g4 .nil (E:=λ_ _ _=>False) VA (j8 h1 (j8 h2 (j8 (wE (i:=i) hN j hd l) wF u) o) U) m U v) λh H Q=>by
   rintro ⟨G,Y,env,b,env',k,d,q⟩;obtain ⟨d1,c1,d⟩:=jd d;obtain ⟨d2,c2,d⟩:=jd d;obtain ⟨ks,c3,d⟩:=jd d;obtain ⟨r,c4,d⟩:=jd d;cases d;have B:=Ze c3;refine ⟨G,Y,env,d1,k,c1,λv1 H1 I r1 _=>⟨G,Y,env,d2,k.am I,c2,λv2 H2 J r2 _=>?_⟩⟩;have L:=(k.am I).am J;obtain ⟨a,N,h0,ta⟩:=L.aw i _ B;have ow:zY env h a:=⟨i,_,B,N⟩
   have w: ∀c,Sf G env h c->Sf G env h c/\c≠a:=λc z=>⟨z,by rintro rfl;exact z.1 ow⟩
   refine ⟨.ref a,N,?_⟩;show Je X.K 2 F ([v1,v2,.ref a]++[]) H2 Q (λ_ _ _=>False);rw [fN];refine ⟨Sf G env h,[d1,d2],[v1,v2],a,_,_,r.1,r.2.1,r.2.2,rfl,rfl,.cons ((r1.am J).aH w) (.cons (r2.aH w) .nil),ta.a9 (λ_ _ e _=>e) w λ_ e=>e,c4,λH' O t'=>?_⟩;have W:=L.anew B N O (t'.a9 (λ_ _ e _=>e) (λc z=>z.1.elim (λz=>L.new c z) λz=>z) λ_ e=>e)
   exact q H' W.1 ((W.2.am J).am I))
def rV.not (h:rV X i e c) (a: ∀whole,mH e X.env whole=(do let v<-whole;iJ e.pos;gq [v] (truthy v)):=by intro _;rfl):PT X (.UnaryOp .Not e pos) (tF (tB (BE X.K i c))):=by
 with_unfolding_all exact GN (vM h a)
def lz (c:Sl->ao (Bool×Sl)) (d g2:Sl->ao bL):Sl->ao bL:=λa=>c a>>=λr=>if r.1=true then g2 r.2 else d r.2
def JC {g2:Sl->ao bL} (h:rV X i e c) (L:f9 X i m N) (O:f9 X i j g2)
   (Q: ∀whole,mH e X.env whole=(do let v<-whole;iJ e.pos;gq [v] (truthy v)):=by intro _;rfl):pz X i (.If (.UnaryOp .Not e u) m j pos) (lz c N g2):=by
 with_unfolding_all exact (
  PS.imp (Vy (rV.not (pos:=u) h Q) L O) λE Y H=>by
   rintro ⟨G,w,z,o,a,k,B,l,q⟩;obtain ⟨r,U,l⟩:=jd l;obtain ⟨b,d⟩:=r;refine ⟨G,w,z,b,d,k,U,λH' I J=>⟨b,rfl,?_⟩⟩
   cases b with
   |true=>
    rw [if_pos rfl] at l;rw [if_neg (by simp)];exact ⟨G,w,d,o,a,I,B,l,Z2 J q⟩
   |false=>
    rw [if_neg eh] at l;rw [if_pos (by simp)]
    exact ⟨G,w,d,o,a,I,B,l,Z2 J q⟩)
def JD (i:Nat) (c:Sl->ao (Bool×Sl)):Sl->ao aW:=λa=>c a>>=λr=>if r.1=true then (lq i r.2>>=λq=> .ok (.rt true (.aP q.1 q.2))) else .ok (.rt true .aU)
def TQ {j l:Pos} (h:rV X i e c) (Y:X.N[i]?=some y:=by rfl) (w:fL X.env.scope y:=by exact du rfl)
   (hd:Y6 y:=by decide) (B:Y5 y:=by decide)
   (he: ∀whole,mH e X.env whole=(do let v<-whole;iJ e.pos;gq [v] (truthy v)):=by intro _;rfl) {J:Expr} (hn:PE X J (tC .aU)):DS X (.Return (some (.IfExp e (.Name y py) J j)) l) (JD i c):=by
 with_unfolding_all exact (
  PS.imp (Wl (vS (vM (show PE X e (BE X.K i c) from h) he) (wE (i:=i) Y w hd B) hn)) λE σ H=>by
   rintro ⟨G,H0,I,o,k,d,q⟩;obtain ⟨r,c1,d⟩:=jd d;obtain ⟨b,m⟩:=r;refine ⟨G,H0,I,b,m,k,c1,λL u f'=>⟨b,rfl,?_⟩⟩
   cases b with
   |true=>
    rw [if_pos rfl] at d ⊢;obtain ⟨ks,c2,d⟩:=jd d;cases d;have N:=Ze c2;obtain ⟨a,O,Q,h2⟩:=u.aw i _ N;refine ⟨.ref a,O,q _ L u.af (h2.rep (λc z=>⟨z.2,Yy u N O c z⟩) (u.g0 a Q)) λ_ b e o' U=>?_⟩;cases e;rw [Q] at U;cases U
   |false=>
    rw [if_neg eh] at d ⊢;cases d
    exact q _ L u.af .aU λ_ b e=>by cases e)
end
def Ql (n:Nat) (a:List D) (c:List aQ) (d:List D):Sl:=a.map .ah++(.aw (.aP c d)::eP (n-a.length-1) .un)
def J7 (h:(Ql n a c i)[j]?=some s):(∃d,a[j]?=some d/\s= .ah d)\/(j=a.length/\s= .aw (.aP c i))\/s= .un:=by
 unfold Ql at h
 by_cases q:j<a.length
 . rw [g9 (by simpa using q),iE] at h
   cases e:a[j]? with
   |none=>rw [e] at h;cases h
   |some x=>rw [e] at h;cases h;exact .inl ⟨x,rfl,rfl⟩
 . rw [iL (by simpa using q)] at h;simp only [dc] at h
   by_cases z:j=a.length
   . subst z;simp at h;exact .inr (.inl ⟨rfl,h.symm⟩)
   . obtain ⟨m,l⟩: ∃m,j-a.length=m+1:=⟨j-a.length-1,by omega⟩
     rw [l,zx,ox] at h
     split at h
     . cases h;exact .inr (.inr rfl)
     . cases h
def TR {K:aC} {B:WZ} (r:au K (λc=>B c/\c≠a) H l i) (t:Top K (λc=>B c/\c≠a) H a (.aP E I)) (U:i.length+1<=N.length):
   ay K (λc=>H c=none\/c=a\/B c) (λc=>if c=a then none else H c) (Ql N.length i E I) (start N (l++[V.ref a])) H/\At (start N (l++[V.ref a])) i.length a:=by
 have J:=r.length
 have n:At (start N (l++[V.ref a])) i.length a:=by
   show (L2.start N (l++[V.ref a]))[i.length]?=_;unfold L2.start;rw [g9 (by simp;omega)];simp [<-J]
 have q: ∀(j:Nat) (v:V),l[j]?=some v->(start N (l++[V.ref a]))[j]?=some (some v):=λj v h=>by
   have L:=(iD.mp h).1;unfold L2.start;rw [g9 (by simp;omega),iE,g9 L,h];rfl
 have u: ∀c,zY (Ql N.length i E I) (start N (l++[V.ref a])) c->c=a:=λc ⟨j,d,y,p⟩=>by
   rcases J7 y with ⟨_,_,z⟩| ⟨rfl,_⟩|z
   . cases z
   . rw [n] at p;cases p;rfl
   . cases z
 have w: ∀c,B c/\c≠a->Sf (λc=>H c=none\/c=a\/B c) (Ql N.length i E I) (start N (l++[V.ref a])) c:=λc z=>⟨λo=>z.2 (u c o),.inr (.inr z.1)⟩
 refine ⟨⟨?_,λc o e=>?_,λc e=>?_,λj d h=>?_,λj d h=>?_,λj O d e b y p Y h4=>?_⟩,n⟩
 . simp [L2.start,Ql,J];omega
 . split at e
   . cases e
   . exact e
 . split at e
   . rename_i z;exact .inr (.inl z)
   . exact .inl e
 . rcases J7 h with ⟨Q,e,z⟩| ⟨_,z⟩|z
   . cases z;obtain ⟨v,y,p⟩:=r.get e;exact ⟨v,q j v y,p.aH w⟩
   . cases z
   . cases z
 . rcases J7 h with ⟨Q,e,z⟩| ⟨rfl,z⟩|z
   . cases z
   . cases z;exact ⟨a,n,if_pos rfl,t.a9 (λ_ _ e _=>e) w λ_ e=>e⟩
   . cases z
 . have m: ∀(j:Nat) (d:D),(Ql N.length i E I)[j]?=some (.aw d)->j=i.length:=λj d h=>by
     rcases J7 h with ⟨_,_,z⟩| ⟨z,_⟩|z
     . cases z
     . exact z
     . cases z
   rw [m j d y,m O e p]
def gy (N n:Nat) (g:Sl->ao bL):FI:=λe h i=>match g (Ql N e h i) with
 | .ok (.rt b a)=>aV (e.length=n) (match a[n]? with
  |some (.aw (.aP c d))=> .ok (b,c,d)
  |_=> .aj)
 |_=> .aj
def TU (h:gy N n g j l m= .ok (b,c,d)): ∃a,g (Ql N j l m)= .ok (.rt b a)/\j.length=n/\a[n]?=some (.aw (.aP c d)):=by
 unfold gy at h
 split at h
 . rename_i p a e;obtain ⟨o,i⟩:=ju h
   split at i
   . rename_i q r e2;cases i;exact ⟨a,e,o,e2⟩
   . cases i
 . cases h
section
variable {P:bH} {w:World} {K:aC} {mg:W0} {af:Heap}
def TV {x:Str} {st:Stmt} (J:hZ K x x st f L) (m:mg x=some (.ref f)) (S:ar N p (jg st)) (u:Binds K L p []) (hn:p.length=n+1) (hN:n+1<=N.length)
   (hb: ∀(i:Value) (A:bQ) (d:List Env) (s:aM) (H:Hp) (E:XK),aE k (A.deeper (fF x (jg st) s.heap.objs.size f i))->f9 (bA fQ P w K mg af N x (jg st) f i A d s H E).kf n (jQ st) g):
   ly P w K mg af (k+1) x p n (gy N.length n g):=by
 refine ⟨f,L,?_,m,J.kp,u⟩
 with_unfolding_all exact (by
 refine J.ok S (λvs H Q E ⟨B,ds,us,a,ks,es,b,v,y,I,O,_⟩=>by rw [I,cP,O,hn];rfl) (λi A d s H vs Q E hr h=>?_);obtain ⟨B,ds,us,a,ks,es,b,v,y,I,O,r,t,eF,q⟩:=h;refine ⟨_,hb i A d s H E hr,?_⟩;obtain ⟨env,e1,e2,U⟩:=TU eF;subst I;obtain ⟨kk,j⟩:=TR (N:=N) r t (by omega);rw [e2] at j;refine ⟨_,_,_,_,a,kk,j,e1,λfR H' Y a' f'=>?_⟩;obtain ⟨a2,h1,_,t2⟩:=Y.aw n _ U;rw [a'] at h1;cases h1;refine q H' (λc o hc e=>Y.af c o (by rw [if_neg hc];exact e)) (t2.a9 (λ_ _ e _=>e) (λc z=>?_) λ_ e=>e)
 have l:c≠a:=by
   rintro rfl;exact z.1 ⟨n,_,U,a'⟩
 refine ⟨?_,l⟩;rcases z.2 with z|z|z
 . exact .inl z
 . exact absurd z l
 . exact .inr z)
def TW {st:Stmt} (q:hZ K x x st f l) (c:mg x=some (.ref f)) (d:Binds K l m []) (u:m.length=n+1):ly P w K mg af k x m n (λ_ _ _=> .aj):=
 ⟨f,l,⟨λv H Q E ⟨B,y,z,a,I,J,b,h,i,o,p,_⟩=>by rw [o,cP,p,u];rfl,λA j s H args z v Q E _ _ _ _ ⟨B,y,L,a,I,J,b,h,i,o,p,r,t,e,_⟩=>by cases e⟩,c,q.kp,d⟩
end
section
variable {prog:bH} {w:World} {A:bQ} {E:Vt} {s:aM} {z TI TO i1 i2 l1 l2:Addr} {k1 k2:Nat} {xs ys:Array Value} {a b:Value}
structure fy (h:Heap) (z TI TO i1 i2 l1 l2:Addr) (k1 k2:Nat) (f0:Value):Prop where
 hz:IsZip h z TI TO f0
 ti:mS h TI (.ref i1) (.ref i2)
 to: ∃a b,mS h TO a b
 h1:h.IsTupleIter i1 l1 k1
 h2:h.IsTupleIter i2 l2 k2
def TX {Q:Vt} (D:ZipApart z TI TO i1 i2 l1 l2) (Z:fy s.heap z TI TO i1 i2 l1 l2 k1 k2 .none) (U:s.heap.IsTuple l1 xs) (Y:s.heap.IsTuple l2 ys) (hx:xs[k1]?=some x) (hy:ys[k2]?=some y)
  (hQ: ∀L,fy L z TI TO i1 i2 l1 l2 (k1+1) (k2+1) (l6 s.heap.objs.size)->mS L s.heap.objs.size x y->
   (∀c o,c≠z->c≠TO->c≠i1->c≠i2->s.heap.get? c=some o->L.get? c=some o)->Q (.ref s.heap.objs.size) {s with heap:=L}):
  wpAny (model prog w) A (mM.«zip.__next__» ⟨[.ref z],[]⟩) (λfin s'=> ∃v,fin= .done (.ret v)/\Q v s') E s:=by
 obtain ⟨n,p,⟨a,b,TY⟩,h1,h2⟩:=Z;refine (show wpAny _ _ (field (.ref z) 2>>=_) _ _ _ from az (lf n rfl (x:= .bool false) rfl (show wpAny _ _ (field (.ref z) 3>>=_) _ _ _ from az (lf n rfl (x:= .ref TI) rfl (az (oI p rfl (show wpAny _ _ (BF (.ref z)>>=_) _ _ _ from az ?_)))))));unfold BF;refine az (lf n rfl (x:= .none) rfl (ba ?_));simp only [if_true];refine az (rG (az (lf n rfl (x:= .ref TO) rfl (az (sY n (by simp) λg1 z1 i=>az ?_)))));have T5:IsZip g1 z TI TO .ellipsis:=z1;simp only [List.zipIdx_cons,List.zipIdx_nil,List.forIn_cons,List.forIn_nil];refine az (az (wpAny_onRaise (show wpAny _ _ (pw (.ref i1)>>=_) _ _ _ from az (WM (h1.extBut i.extBut D.i1z) (U.extBut i.extBut D.l1z) hx λg2 q1 l=>ba ?_))));have q:mS g2 TO a b:=l.extBut _ _ D.TOi1 (i.extBut _ _ D.TOz TY);refine az (oI q rfl (az (EG q λg3 to3 m=>az (wpAny_letGo (ba (az (az (wpAny_onRaise ?_))))))));have r:mS g3 TO x b:=to3;refine (show wpAny _ _ (pw (.ref i2)>>=_) _ _ _ from az (WM (((h2.extBut i.extBut D.i2z).extBut l.extBut D.i12.symm).extBut m.extBut D.TOi2.symm) (((Y.extBut i.extBut D.l2z).extBut l.extBut D.l2i1).extBut m.extBut D.l2TO) hy λg4 q2 u=>ba ?_));have B:mS g4 TO x b:=u.extBut _ _ D.TOi2 r;refine az (oI B rfl (az (EG B λd UX H=>az (wpAny_letGo (ba (ba ?_))))));have h:mS d TO x y:=UX;refine az (oI h rfl (az (wpAny_newTuple (show wpAny _ _ (JE (.ref z) (.ref d.objs.size)>>=_) _ _ _ from az ?_))));have rK:d.objs.size=s.heap.objs.size:=by rw [H.1,u.1,m.1,l.1,i.1]
 have z5:IsZip d z TI TO .ellipsis:=H.extBut _ _ D.TOz.symm (u.extBut _ _ D.i2z.symm (m.extBut _ _ D.TOz.symm (l.extBut _ _ D.i1z.symm T5)));have k5: ∀c o,c≠z->c≠TO->c≠i1->c≠i2->s.heap.get? c=some o->d.get? c=some o:=λc o j N c3 c4 e=>H.extBut _ _ N (u.extBut _ _ c4 (m.extBut _ _ N (l.extBut _ _ c3 (i.extBut _ _ j e))))
 have UY:d.IsTupleIter i1 l1 (k1+1):=((q1.extBut m.extBut D.TOi1.symm).extBut u.extBut D.i12).extBut H.extBut D.TOi1.symm;have UZ:d.IsTupleIter i2 l2 (k2+1):=q2.extBut H.extBut D.TOi2.symm;have I:z<d.objs.size:=b6 z5;unfold JE;have z6:IsZip (d.push {cls:= .type "tuple",data:= .seq #[x,y]}) z TI TO .ellipsis:=bW _ z5;refine az (sY z6 (by simp) λg7 z7 s7=>?_);have U0:IsZip g7 z TI TO (l6 d.objs.size):=z7;refine sY U0 (by simp) λO z8 s8=>ba ⟨_,rfl,(show Q (.ref d.objs.size) _ from ?_)⟩
 have J:IsZip O z TI TO (l6 d.objs.size):=z8;have up: ∀c o,c≠z->d.get? c=some o->O.get? c=some o:=λc o j e=>s8.extBut _ _ j (s7.extBut _ _ j (bW _ e))
 have t8:mS O d.objs.size x y:=s8.extBut _ _ (AK I) (s7.extBut _ _ (AK I) (dn _ rfl));rw [rK] at J t8 ⊢;exact hQ O ⟨J,up _ _ D.TIz (k5 _ _ D.TIz D.TITO D.TIi1 D.TIi2 p),⟨_,_,up _ _ D.TOz h⟩,UY.at λo e=>up _ o D.i1z e,UZ.at λo e=>up _ o D.i2z e⟩ t8 λc o j N c3 c4 e=>up c o j (k5 c o j N c3 c4 e)
def U1 (U:A.handled=none) (D:ZipApart z TI TO i1 i2 l1 l2) (Z:fy s.heap z TI TO i1 i2 l1 l2 k1 k2 .none) (r:s.heap.IsTuple l1 xs) (H:s.heap.IsTuple l2 ys) (u:xs[k1]?=none\/ys[k2]?=none)
  (Y: ∀I e,(∀c o,c≠z->c≠TO->c≠i1->c≠i2->s.heap.get? c=some o->I.get? c=some o)->(∃o,I.get? e=some o/\o.cls= .type "StopIteration")->E (.ref e) {s with heap:=I}):
  wpAny (model prog w) A (mM.«zip.__next__» ⟨[.ref z],[]⟩) Q E s:=by
 obtain ⟨m,J,⟨a,b,L⟩,h1,h2⟩:=Z;refine (show wpAny _ _ (field (.ref z) 2>>=_) _ _ _ from az (lf m rfl (x:= .bool false) rfl (show wpAny _ _ (field (.ref z) 3>>=_) _ _ _ from az (lf m rfl (x:= .ref TI) rfl (az (oI J rfl (show wpAny _ _ (BF (.ref z)>>=_) _ _ _ from az ?_)))))));unfold BF;refine az (lf m rfl (x:= .none) rfl (ba ?_));simp only [if_true];refine az (rG (az (lf m rfl (x:= .ref TO) rfl (az (sY m (by simp) λg1 z1 j=>az ?_)))));have v:IsZip g1 z TI TO .ellipsis:=z1;simp only [List.zipIdx_cons,List.zipIdx_nil,List.forIn_cons,List.forIn_nil];refine az (az (wpAny_onRaise (show wpAny _ _ (pw (.ref i1)>>=_) _ _ _ from ?_)))
 have ne: ∀ {h:Heap} {e:Addr} {n:Obj},IsZip h z TI TO .ellipsis->h.get? e=some n->n.cls= .type "StopIteration" ->e≠z:=λ{h e n} m d i x=>by
  subst x;rw [m] at d;cases d;simp at i
 cases N:xs[k1]? with
 |none=>
  refine az (KP U (h1.extBut j.extBut D.i1z) (r.extBut j.extBut D.l1z) N λg2 e l p=>?_);obtain ⟨n,d,i⟩:=p;have z2:IsZip g2 z TI TO .ellipsis:=l _ _ D.i1z.symm v;exact sY z2 (by simp) λg3 _ q=>Y g3 e (λc o y _ O _ x=>q.extBut _ _ y (l _ _ O (j.extBut _ _ y x))) ⟨n,q.extBut _ _ (ne z2 d i) d,i⟩
 |some x=>
  have hy:ys[k2]?=none:=u.resolve_left (by rw [N];simp);refine az (WM (h1.extBut j.extBut D.i1z) (r.extBut j.extBut D.l1z) N λg2 q1 l=>ba ?_);have B:mS g2 TO a b:=l.extBut _ _ D.TOi1 (j.extBut _ _ D.TOz L);refine az (oI B rfl (az (EG B λg3 to3 q=>az (wpAny_letGo (ba (az (az (wpAny_onRaise ?_))))))));refine (show wpAny _ _ (pw (.ref i2)>>=_) _ _ _ from az (KP U (((h2.extBut j.extBut D.i2z).extBut l.extBut D.i12.symm).extBut q.extBut D.TOi2.symm) (((H.extBut j.extBut D.l2z).extBut l.extBut D.l2i1).extBut q.extBut D.l2TO) hy λg4 e s4 p=>?_));obtain ⟨n,d,i⟩:=p;have z4:IsZip g4 z TI TO .ellipsis:=s4 _ _ D.i2z.symm (q.extBut _ _ D.TOz.symm (l.extBut _ _ D.i1z.symm v));exact sY z4 (by simp) λg5 _ s5=>Y g5 e (λc o y c2 O c4 x=>s5.extBut _ _ y (s4 _ _ c4 (q.extBut _ _ c2 (l.extBut _ _ O (j.extBut _ _ y x))))) ⟨n,s5.extBut _ _ (ne z4 d i) d,i⟩
def U2 (D:ZipApart z TI TO i1 i2 l1 l2) (Z:fy s.heap z TI TO i1 i2 l1 l2 k1 k2 .none) (e:s.heap.IsTuple l1 xs) (h:s.heap.IsTuple l2 ys) (j:xs[k1]?=some x) (l:ys[k2]?=some y)
  (m: ∀d,fy d z TI TO i1 i2 l1 l2 (k1+1) (k2+1) (l6 s.heap.objs.size)->mS d s.heap.objs.size x y->
   (∀c o,c≠z->c≠TO->c≠i1->c≠i2->s.heap.get? c=some o->d.get? c=some o)->Q (some (.ref s.heap.objs.size)) {s with heap:=d}):wpAny (model prog w) A (pyNext (.ref z)) Q E s:=by
 have i:s.TypeIs (.ref z) "zip" :=⟨_,Z.hz,rfl⟩
 unfold pyNext;exact az (wpAny_attempt (pc (name:=Str.ofString "__next__") i BG (m5 BG i F.entry_zip_next (TX D Z e h j l λd n p q=>ba (m d n p q)) (F.args_zip_next_1 _))))
def U5 (m:A.handled=none) (D:ZipApart z TI TO i1 i2 l1 l2) (Z:fy s.heap z TI TO i1 i2 l1 l2 k1 k2 .none) (h:s.heap.IsTuple l1 xs) (i:s.heap.IsTuple l2 ys) (d:xs[k1]?=none\/ys[k2]?=none)
  (n: ∀j,(∀c o,c≠z->c≠TO->c≠i1->c≠i2->s.heap.get? c=some o->j.get? c=some o)->Q none {s with heap:=j}):wpAny (model prog w) A (pyNext (.ref z)) Q E s:=by
 have l:s.TypeIs (.ref z) "zip" :=⟨_,Z.hz,rfl⟩
 unfold pyNext;exact az (wpAny_attempt (pc (name:=Str.ofString "__next__") l BG (m5 BG l F.entry_zip_next (U1 m D Z h i d λj e p ⟨o,q,r⟩=>az (yI (T:= "StopIteration") (b:=true) ⟨o,q,r⟩ isSubtype_stop (ba (n _ p)))) (F.args_zip_next_1 _))))
end
abbrev zA (h:Heap) (a:Addr):Heap:=h.push {cls:= .type "tuple_iterator",data:= .fields #[.ref a,.int 0 0]}
abbrev BH (h:Heap) (a c:Addr):Heap:=(zA h a).push {cls:= .type "tuple_iterator",data:= .fields #[.ref c,.int 0 0]}
abbrev sZ (h:Heap) (a c:Addr):Heap:=(BH h a c).push {cls:= .type "tuple",data:= .seq #[.ref h.objs.size,.ref (zA h a).objs.size]}
abbrev BI (h:Heap) (a c:Addr):Heap:=(sZ h a c).push {cls:= .type "tuple",data:= .seq #[.none,.none]}
abbrev rW (h:Heap) (a c:Addr):Heap:=(BI h a c).push {cls:= .type "zip",data:= .fields #[.none,.bool false,.bool false,.ref (BH h a c).objs.size,.ref (sZ h a c).objs.size]}
def U6 (a c:Addr) (m n:Array Value):PySem.Meets (mM.«zip.__new__» ⟨[.type "zip",.ref a,.ref c],[]⟩) (λ_ R s=>s.heap.IsTuple a m/\s.heap.IsTuple c n/\R (.ok (.ret (.ref (BI s.heap a c).objs.size))) {s with heap:=rW s.heap a c}):=
 .of_wp λo w A R s h=>by
  obtain ⟨p,g,d,tk,os⟩:=s;obtain ⟨e,i,h⟩:=h;have q:=sub_zip;have j:Heap.IsTuple (Shared.heap ⟨p,g,d,tk,os⟩) a m:=e;have l:Heap.IsTuple (Shared.heap ⟨p.push {cls:= .type "tuple_iterator",data:= .fields #[.ref a,.int 0 0]},g,d,tk,os⟩) c n:=Heap.IsTuple.push i _
  wp_walk using wd j,wd l
  exact ⟨_,rfl,h⟩
section
variable {prog:bH} {w:World} {A:bQ} {E:Vt} {s:aM}
def Vf (j:s.heap.IsTuple a y) (l:s.heap.IsTuple d z)
  (h: ∀m,fy m (s.heap.objs.size+4) (s.heap.objs.size+2) (s.heap.objs.size+3) s.heap.objs.size (s.heap.objs.size+1) a d 0 0 .none->(∀c o,s.heap.get? c=some o->m.get? c=some o)->Q (.ref (s.heap.objs.size+4)) {s with heap:=m}):
  wpAny (model prog w) A (call (.type "zip") [.ref a,.ref d]) Q E s:=by
 refine callType_new F.called_zip (by decide) (F.typeCall_zip_2 _ _) (F.newCall_zip_2 _ _) (λobj=>F.args_object_init_3 obj _ _) F.entry_zip_new (U6 a d y z) ⟨j,l,?_⟩;have n:(zA s.heap a).objs.size=s.heap.objs.size+1:=oo ..;have p:(BH s.heap a d).objs.size=s.heap.objs.size+2:=by rw [oo,n]
 have q:(sZ s.heap a d).objs.size=s.heap.objs.size+3:=by rw [oo,p]
 have u:(BI s.heap a d).objs.size=s.heap.objs.size+4:=by rw [oo,q]
 have up1: ∀c o,(sZ s.heap a d).get? c=some o->(rW s.heap a d).get? c=some o:=λc o e=>bW _ (bW _ e)
 have i: ∀c o,(zA s.heap a).get? c=some o->(sZ s.heap a d).get? c=some o:=λc o e=>bW _ (bW _ e)
 have r:(rW s.heap a d).get? (BI s.heap a d).objs.size=some _:=dn _ rfl;have g4:(rW s.heap a d).get? (sZ s.heap a d).objs.size=some _:=bW _ (dn _ rfl);have v:(rW s.heap a d).get? (BH s.heap a d).objs.size=some _:=up1 _ _ (dn _ rfl);have g2:(rW s.heap a d).get? (zA s.heap a).objs.size=some _:=up1 _ _ (bW _ (dn _ rfl));have B:(rW s.heap a d).get? s.heap.objs.size=some _:=up1 _ _ (i _ _ (dn _ rfl));show _/\_;rw [p,q,u] at r;rw [n,p] at v;rw [q] at g4;rw [n] at g2;rw [u];exact ⟨⟨_,r,rfl⟩,h _ ⟨r,v,⟨_,_,g4⟩,⟨_,B,rfl,rfl⟩,⟨_,g2,rfl,rfl⟩⟩ λc o x=>up1 _ _ (i _ _ (bW _ x))⟩
end
def Vg (K:aC) (d e:Addr) (a c:List V):It:=⟨λi H=>(ee K H d a/\ee K H e c)/\i<a.length/\i<c.length,λi H v h=> ∃p x y,H p=none/\a[i]?=some x/\c[i]?=some y/\v= .ref p/\h=aR H p (.ak [x,y]),λi H=>(ee K H d a/\ee K H e c)/\(a.length<=i\/c.length<=i)⟩
section
variable {X:Cx} {pins:List (Addr×Obj)} {σ:L2.St} {H:Hp} {s:aM}
def yB {d:List Addr} (I:aA X pins σ H s) (k: ∀b o,b∉d->s.heap.get? b=some o->h'.get? b=some o) (f: ∀b∈d,cQ X pins H b):aA X pins σ H {s with heap:=h',toks:=t'}:=by
 have n: ∀b u,H b=some u->b∉d:=λb u e z=>by have:=(f b z).1;rw [this] at e;cases e
 refine I.step (g':=s.gens) (d':=s.drawn) (ch:=d) (λb h=>?_) (λb o _ _ a e _=>k b o a e) (λb o _ _ a e _=>⟨o.slots,k b o a e⟩) (λ_ _ _ _ n=>n)
   (λb o a e=>⟨o,k b o a e⟩) (λ_ _ e=>e) (λ_ _ _ e=>e) (λb J e=>⟨#[],by rw [e];simp⟩) (λm i=>?_) (λb u e=>?_) I.bare
 . obtain ⟨L,j,_,l,p,w⟩:=f b h;exact ⟨l,j,p,w⟩
 . obtain ⟨o,y,B,E,r⟩:=i;exact ⟨o,y,B,k _ o (λz=>(f _ z).2.1 rfl) E,r⟩
 . refine (I.aY b u e).a9 (λc v a q=>k c v ?_ q) (λ_ q=>q) λ_ _ q=>q
   rcases a with z|z
   . rw [z];exact n b u e
   . exact n c _ z
end
def Vh {K:aC} {TI TO:Addr} (L N:List V) (D:ZipApart z TI TO O Q a1 a2):
  Turn P w K (.Tuple elts n pos) (Vg K a1 a2 L N) [z,TI,TO,O,Q] z (λi h=>fy h z TI TO O Q a1 a2 i i .none) where
 mem:=by simp
 obj:=λi h st b a=>by
  obtain ⟨U,Y,⟨x,y,to⟩,⟨o1,e1,c1,d1⟩,o2,e2,c2,d2⟩:=st;simp only [bJ,eE,or_false] at a;rcases a with rfl|rfl|rfl|rfl|rfl
  . exact ⟨_,U,λv q=>by cases q⟩
  . exact ⟨_,Y,λv q=>by cases q⟩
  . exact ⟨_,to,λv q=>by cases q⟩
  . exact ⟨o1,e1,λv q=>by rw [d1] at q;cases q⟩
  . exact ⟨o2,e2,λv q=>by rw [d2] at q;cases q⟩
 keep:=λi h h' st k=>by
  obtain ⟨U,Y,⟨x,y,to⟩,q1,q2⟩:=st;exact ⟨k z (by simp) _ U,k TI (by simp) _ Y,⟨x,y,k TO (by simp) _ to⟩,q1.at λo e=>k O (by simp) o e,q2.at λo e=>k Q (by simp) o e⟩
 item:=by
  intro X hP hw hK hc i j s σ H E I hf st hg;subst hP hw hK;obtain ⟨⟨p,r⟩,g1,g2⟩:=hg;obtain ⟨l,B,p1,_⟩:=I.tuple p;obtain ⟨m,J,p2,_⟩:=I.tuple r;have hx:L[i]?=some L[i]:=cU g1;have hy:N[i]?=some N[i]:=cU g2;obtain ⟨u,hu,ru⟩:=B.get hx;obtain ⟨v,hv,rv⟩:=J.get hy;refine U2 D st (show s.heap.IsTuple a1 l.toArray from p1) (show s.heap.IsTuple a2 m.toArray from p2) (x:=u) (y:=v) (by simpa using hu) (by simpa using hv) λh' Z' hT hk=>?_
  refine ⟨_,rfl,wpAny_letOwnedTupleGo_zip Z'.hz λnk rX d=>?_⟩;have lt: ∀ {c o},s.heap.get? c=some o->c<s.heap.objs.size:=λe=>b6 e
  have mV: ∀c∈[z,TI,TO,O,Q],c<s.heap.objs.size:=λc hc=>by
    obtain ⟨U,Y,⟨_,_,to⟩,⟨_,e1,_⟩,_,e2,_⟩:=st;simp only [bJ,eE,or_false] at hc;rcases hc with rfl|rfl|rfl|rfl|rfl
    . exact lt U
    . exact lt Y
    . exact lt to
    . exact lt e1
    . exact lt e2
  have nj:H s.heap.objs.size=none:=I.aY.fresh (br _)
  have I1:aA X j σ (aR H s.heap.objs.size (.ak [L[i],N[i]])) {s with heap:=s.heap.push {cls:= .type "tuple",data:= .seq #[u,v]}}:=
    I.laid (t':=s.toks) (λb o e=>bW _ e) (br _) ⟨cY (show 2<=20 by decide) (by decide),[u,v],.cons ru (.cons rv .nil),⟨_,dn _ rfl,rfl,_,rfl⟩⟩
  have f1: ∀b∈[z,TI,TO,O,Q],cQ X j (aR H s.heap.objs.size (.ak [L[i],N[i]])) b:=λb a=>⟨by rw [j3 (eB (mV b a))];exact (hf b a).1,(hf b a).2⟩
  have I2:=yB (t':=s.toks) (h':=nk) I1 (λb o a eo=>by
    have zD:b≠z:=λe=>a (by simp [e])
    refine (d.2 b zD).trans ?_
    by_cases zE:b=s.heap.objs.size
    . subst zE;rw [dn _ rfl] at eo;rw [<-eo];exact hT
    . have rR:s.heap.get? b=some o:=by
       rcases Bu eo with ⟨q,_⟩|q
       . exact absurd q zE
       . exact q
      exact hk b o zD (λe=>a (by simp [e])) (λe=>a (by simp [e])) (λe=>a (by simp [e])) rR) f1
  obtain ⟨_,EH,⟨q1,q2,EI⟩,w1,w2⟩:=Z';exact ⟨.ref s.heap.objs.size,_,I2,rfl,⟨_,_,_,nj,hx,hy,rfl,rfl⟩,⟨rX,d.extBut _ _ D.TIz EH,⟨q1,q2,d.extBut _ _ D.TOz EI⟩,w1.extBut d.extBut D.i1z,w2.extBut d.extBut D.i2z⟩,λb a=>(f1 b a).1⟩
 done:=by
  intro X hP hw hK hc i j s σ H E I hf st hg;subst hP hw hK;obtain ⟨⟨p,r⟩,g⟩:=hg;obtain ⟨l,B,p1,_⟩:=I.tuple p;obtain ⟨m,J,p2,_⟩:=I.tuple r;have BJ:=B.length;have BK:=J.length;refine U5 (I.ok.hd hc) D st (show s.heap.IsTuple a1 l.toArray from p1) (show s.heap.IsTuple a2 m.toArray from p2) (g.imp (λg=>by simp;omega) λg=>by simp;omega) λh' hk=>⟨rfl,yB (t':=s.toks) I (λb o a eo=>hk b o (λe=>a (by simp [e])) (λe=>a (by simp [e])) (λe=>a (by simp [e])) (λe=>a (by simp [e])) eo) hf⟩
 self:=λ_ _ _ _ _ st h=>BL st.hz h
section
variable {X:Cx} {elts:List Expr} {n:Nat} {gt p pos:Pos} {e1 e2:Expr} {f1 f2:T4}
def q9:List D->List D->List D
 |x::a,y::c=> .ak [x,y]::q9 a c
 |_,_=>[]
theorem ZZ: ∀a c:List D,(q9 a c).length=min a.length c.length
 | [],_=>by simp [q9]
 |_::_,[]=>by simp [q9]
 |x::a,y::c=>by simp [q9,ZZ a c]
theorem Z0: ∀(a c:List D) (i:Nat) (d:D),(q9 a c)[i]?=some d-> ∃x y,a[i]?=some x/\c[i]?=some y/\d= .ak [x,y]
 | [],_,i,d,h=>by simp [q9] at h
 |_::_,[],i,d,h=>by simp [q9] at h
 |x::a,y::c,0,d,h=>by simp [q9] at h;exact ⟨x,y,rfl,rfl,h.symm⟩
 |x::a,y::c,i+1,d,h=>by
  simp only [q9,zx] at h ⊢;exact Z0 a c i d h
def lB (f1 f2:T4):Sl->ao (List D):=λa=>f1 a>>=λd=>f2 a>>=λe=>match d,e with
 | .ak c,.ak h=> .ok (q9 c h)
 |_,_=> .aj
def UO:jW "zip" =some (.type "zip"):=by decide+kernel
def Wc (hg:Gl X "zip") (hm:X.mg "zip" =none) (h1:DE X .s e1 f1) (h2:DE X .s e2 f2) (hs:bg [e1,e2] X.env=(false,eval e1 X.env)::bg [e2] X.env:=by exact jm rfl) (yG:bg [e2] X.env=(false,eval e2 X.env)::bg [] X.env:=by exact jm rfl)
  (pb:(dA pos (bg [e2] X.env)).any (·.1)=false:=by exact jF rfl):DI X (.Tuple elts n gt) (.Call (.Name "zip" p) [e1,e2] [] pos) (lB f1 f2):=by
 have EJ:PE X e1 (tE X.K .s f1):=by with_unfolding_all exact h1
 have EK:PE X e2 (tE X.K .s f2):=by with_unfolding_all exact h2
 with_unfolding_all exact (show PI X (.Tuple elts n gt) (.Call (.Name "zip" p) [e1,e2] [] pos) (tI X.K (lB f1 f2)) from by
  rintro j s U H R I ⟨G,H0,c,ds,k,m,q⟩;obtain ⟨d1,c1,m⟩:=jd m;obtain ⟨d2,c2,m⟩:=jd m;have hA:=j8 EJ (j8 EK wF yG) hs;refine Call_ (Ju I hg hm UO (oh (bc (hA pos j s U H (λvs r=> ∃u v,vs=[u,v]/\aq H r/\aL X.K (Sf G c U) r u d1/\aL X.K (Sf G c U) r v d2) I ⟨G,H0,c,d1,k,c1,λu Y a r1 _=>⟨G,H0,c,d2,k.am a,c2,λv r s2 r2 _=>⟨u,v,rfl,a.trans s2,r1.am s2,r2⟩⟩⟩) λus a h9=>?_) hs pb));obtain ⟨vs,Y,w,r1,u,v,ev,sm,EL,EM⟩:=h9;subst ev;obtain ⟨u1,u2,rfl,EN,zM⟩:=CO r1;have k1:=k.am sm
  split at m
  . rename_i We Wh;cases m;obtain ⟨z,xs,rfl,e,B⟩:=EL.dR;obtain ⟨E,ys,rfl,h,J⟩:=EM.dR;cases EN;cases zM;obtain ⟨L,Wi,p1,_⟩:=w.tuple (.inl (.of e));obtain ⟨N,Wj,p2,_⟩:=w.tuple (.inl (.of h));have EO:z<a.heap.objs.size:=by obtain ⟨o,ho,_⟩:=p1;exact b6 ho
    have EQ:E<a.heap.objs.size:=by obtain ⟨o,ho,_⟩:=p2;exact b6 ho
    refine Vf (show a.heap.IsTuple z L.toArray from p1) (show a.heap.IsTuple E N.toArray from p2) λh' Z hk=>BL Z.hz ?_
    have I2:aA X j U Y {a with heap:=h'}:=w.kept (t':=a.toks) hk;refine ⟨a.heap.objs.size+4,[a.heap.objs.size+4,a.heap.objs.size+2,a.heap.objs.size+3,a.heap.objs.size,a.heap.objs.size+1],_,_,Y,rfl,I2,Vh xs ys (JF EO EQ),Z,λb hb=>?_,?_⟩
    . have O:a.heap.objs.size<=b:=by
       simp only [bJ,eE,or_false] at hb;rcases hb with rfl|rfl|rfl|rfl|rfl<;>first|exact Nat.le_add_right _ _|exact br _
      exact w.eQ O (w.aY.fresh O)
    . refine q _ Y (λH=>H z=some (.ak xs)/\H E=some (.ak ys)) sm (λi H' pp=>?_) ⟨e,h⟩ λenv' fR H' fr=>⟨fr.keep z _ e λow=>(k1.li ow e).elim,fr.keep E _ h λow=>(k1.li ow h).elim⟩
      have BJ:=B.length;have BK:=J.length;have hq:ee X.K H' z xs/\ee X.K H' E ys:=⟨.inl (.of pp.1),.inl (.of pp.2)⟩
      rw [ZZ];refine ⟨λhi=>⟨hq,by omega,by omega⟩,λd hd x r y=>?_,λhi=>⟨hq,by omega⟩⟩;obtain ⟨p,x',y',hp,mn,ER,rfl,rfl⟩:=y;obtain ⟨dx,dy,ES,ET,rfl⟩:=Z0 _ _ _ _ hd;obtain ⟨d',Q,rd⟩:=B.get' mn;obtain ⟨Ww,l,w4⟩:=J.get' ER;rw [ES] at Q;cases Q;rw [ET] at l;cases l;exact .inr ⟨p,_,_,hp,rfl,rfl,rfl,.cons rd (.cons w4 .nil)⟩
  . cases m)
end
section
variable {X:Cx}
def EU:D->Option Int->Option Int->ao D
 | .ei a,lo,c=> .ok (.ai (cutD a lo c))
 |_,_,_=> .aj
def WA {lo:Option Expr} (y:DE X .s e f) (B:DO X lo E) (I:DO X J L):
   DE X .t (.Subscript e (.Slice lo J none p2) N) (qp f E L EU):=by
 with_unfolding_all exact (
  PE.imp (vQ lR y B I) λσ H Q=>by
   rintro ⟨G,l,h,d,k,i,q⟩;obtain ⟨a,e1,i⟩:=jd i;obtain ⟨m,e2,i⟩:=jd i;obtain ⟨n,O,v⟩:=jd i;refine ⟨G,l,h,a,k,e1,λx H1 o U _=>⟨G,l,h,m,k.am o,e2,λH2 r=>⟨G,l,h,n,(k.am o).am r,O,λY w=>?_⟩⟩⟩;have u:=o.trans (r.trans w)
   cases a with
   |ei ds=>
    cases v;obtain ⟨b,xs,rfl,hb,rs⟩:=((U.am r).am w).m7;refine ⟨b,xs,rfl,hb.nW,λp j=>q _ _ (u.trans (aq.aR j)) (.ai jD (k.new p (aq.free u j)) (((vg rs).laid j).aH λc z=>⟨z.1,z.2⟩)) ((qH (aq.refl Y) j).am u)⟩
   |_=>cases v)
def JG (i j:Int):Prop:=0<j/\j<2^200
def Qa:cp X (gI .FloorDiv) (rI JG λi j=> .int (i/j)):=tN λi j _ _ _ _ _ a q=>by
 have d:=a.1;have e:=a.2;refine floordiv_int (by omega) (by rw [Int.fdiv_eq_ediv_of_nonneg i (by omega)];exact q) (.inl (PyProof.noPylong_of_log2 ?_));have c:j.natAbs<2^200:=by omega
 exact fS ((Nat.log2_lt (by omega)).mpr c) (by omega)
abbrev zW:Int->Int->Prop:=λ_ j=>0<j/\j<2^200
def Qb {K:aC}:ej K (rI JG λi j=> .int (i/j)) (eV zW λi j=> .int (i/j)):=nq (λ_ _ h=>h) λi j=>j5 _
abbrev bZ:=eV zW λi j=> .int (i/j)
end
def iY (f:Str):List Str->List D->Option D
 |n::a,d::c=>if n=f then some d else iY f a c
 |_,_=>none
def tc (f:Str):List Str->List Str
 | []=>[f]
 |n::a=>if n=f then n::a else n::tc f a
def tj (f:Str) (d:D):List Str->List D->List D
 | [],_=>[d]
 |n::c,e::a=>if n=f then d::a else e::tj f d c a
 |_::_,[]=>[]
theorem KL {K:aC}: ∀ {fs:List (Str×V)} {a:List D} {d:D},au K A H (fs.map (·.2)) a->iY f (fs.map (·.1)) a=some d-> ∃v,fs.lookup f=some v/\aL K A H v d
 | [],_,_,_,h=>by simp [iY] at h
 | (n,v)::r,_,d,.cons q t,h=>by
  by_cases e:n=f
  . subst e;simp only [cL,iY,if_pos] at h;cases h;exact ⟨v,by simp [gJ],q⟩
  . simp only [cL,iY,if_neg e] at h;obtain ⟨c,i,j⟩:=KL t h;exact ⟨c,by rw [ln];simp [show (f==n)=false from by simpa using λz=>e z.symm,i],j⟩
theorem vJ {K:aC} (a:aL K A H v d): ∀ {fs:List (Str×V)} {c:List D},au K A H (fs.map (·.2)) c->(cK f v fs).map (·.1)=tc f (fs.map (·.1))/\au K A H ((cK f v fs).map (·.2)) (tj f d (fs.map (·.1)) c)
 | [],_,.nil=>⟨rfl,.cons a .nil⟩
 | (n,u)::r,_,.cons q t=>by
  by_cases e:n=f
  . simp only [cK,cL,tc,tj,if_pos e];exact ⟨trivial,.cons a t⟩
  . simp only [cK,cL,tc,tj,if_neg e];obtain ⟨h,i⟩:=vJ a t;exact ⟨by rw [h],.cons q i⟩
theorem Js: ∀ {fs:List (Str×V)},(fs.map (·.1)).contains f=false->fs.lookup f=none
 | [],_=>rfl
 | (n,u)::r,h=>by
  simp only [cL,List.contains_cons,Bool.or_eq_false_iff] at h;rw [ln];simp [h.1,Js h.2]
def aL.objE {K:aC} (r:aL K A H v (.obj c ns h)): ∃a C dx fs,v= .ref a/\H a=some (.ins C dx fs)/\A a/\cg K bM c=some (some (.ref C))/\fs.map (·.1)=ns/\au K (λc=>A c/\c≠a) H (fs.map (·.2)) h:=by
 cases r with
 |obj e a d i r=>subst i;exact ⟨_,_,_,_,rfl,e,a,d.1,d.2,r⟩
def JH {K:aC} {i:Nat} (k:ay K G u d h H) (l:d[i]?=some (.aw (.obj c m n))):
  ∃a C dx fs,h[i]?=some (some (.ref a))/\H a=some (.ins C dx fs)/\cg K bM c=some (some (.ref C))/\fs.map (·.1)=m/\au K (Sf G d h) H (fs.map (·.2)) n:=by
 obtain ⟨a,o,_,p⟩:=k.aw i _ l
 cases p with
 |obj e j q r=>subst q;exact ⟨a,_,_,_,o,e,j.1,j.2,r⟩
structure mx (K:aC) (c f:Str):Prop where
 ex: ∃C,cg K bM c=some (some (.ref C))/\fm K C/\dC K C f
def mx.at {K:aC} (h:mx K c f) (e:cg K bM c=some (some (.ref C))):fm K C/\dC K C f:=by
 obtain ⟨a,h1,h2⟩:=h.ex;rw [e] at h1;cases h1;exact h2
def iZ (c f:Str):D->ao D
 | .obj a e h=>aV (a=c) (match iY f e h with
  |some d=> .ok d
  |none=> .aj)
 |_=> .aj
def WG (h:iZ c f o= .ok d): ∃a i,o= .obj c a i/\iY f a i=some d:=by
 unfold iZ at h
 split at h
 . rename_i m a i;obtain ⟨l,j⟩:=ju h;subst l
   cases e:iY f a i with
   |none=>rw [e] at j;cases j
   |some n=>rw [e] at j;cases j;exact ⟨a,i,rfl,e⟩
 . cases h
def gz (c f:Str) (d:T4):Sl->ao D:=λa=>d a>>=iZ c f
section
variable {X:Cx} {e:Expr} {fo:T4} {pos p:Pos} {c f:Str}
def KU (i:Nat) {x:Str} (l:mx X.K c f) (E:X.N[i]?=some x:=by rfl) (I:fL X.env.scope x:=by exact du rfl)
   (J:Y6 x:=by decide) (m:Y5 x:=by decide)
   (L:l7 (.Name x p) f X.env (eval (.Name x p) X.env)=eval (.Name x p) X.env:=by rfl):DE X .s (.Attribute (.Name x p) f pos) (gz c f (cy i)):=by
 with_unfolding_all exact (
  PE.imp (Of (wE E I J m) L) λY H Q=>by
   rintro ⟨G,H0,N,d,k,O,q⟩;obtain ⟨o,e1,e2⟩:=jd O;obtain ⟨ns,ds,rfl,B⟩:=WG e2;rcases Kb e1 with z|z
   . obtain ⟨v,n,U⟩:=k.ah i _ z;obtain ⟨a,C,dx,fs,rfl,r,_,h,u,w⟩:=U.objE;subst u;obtain ⟨j,y,g2⟩:=KL w B;exact ⟨_,n,a,C,dx,fs,j,rfl,r,(l.at h).1,(l.at h).2,y,q j H (aq.refl H) (g2.aH λ_ z=>z.1) trivial⟩
   . obtain ⟨a,C,dx,fs,n,r,h,u,w⟩:=JH k z;subst u;obtain ⟨j,y,g2⟩:=KL w B
     exact ⟨_,n,a,C,dx,fs,j,rfl,r,(l.at h).1,(l.at h).2,y,q j H (aq.refl H) g2 trivial⟩)
end
inductive dU where
 |nx (env:Sl)|rt (d:D) (env:Sl)
def EV (K:aC) (G:WZ) (l:Hp) (i:Nat) (a:Addr) (j:Sl) (m:L2.St) (H:Hp) (E:Ends):dU->Prop
 | .nx c=> ∀e h,ay K G l c e h->At e i a->be j m H c e h->E.nx e h
 | .rt d c=> ∀v e h,ay K G l c e h->At e i a->be j m H c e h->aL K (Sf G c e) h v d->E.rt v h
def JI (K:aC) (i:Nat) (g:Sl->ao dU):TS:=λE d H=> ∃G e c o a,ay K G e c d H/\At d i a/\g c= .ok o/\EV K G e i a c d H E o
@[irreducible] def Aa (X:Cx) (i:Nat) (st:Stmt) (g:Sl->ao dU):Prop:=PS X st (JI X.K i g)
@[irreducible] def ir (X:Cx) (i:Nat) (st:List Stmt) (g:Sl->ao dU):Prop:=dk X st (JI X.K i g)
theorem kz {K:aC} (f:be h r H d j u) (q:EV K G w i a h r H E o):EV K G w i a d j u E o:=by
 cases o with
 |nx e=>exact λc l m n p=>q c l m n (f.trans p)
 |rt b e=>exact λv c l m n p r2=>q v c l m n (f.trans p) r2
section
variable {X:Cx} {i:Nat} {e c0 tg:Expr} {st:Stmt} {rest v J:List Stmt} {r p u:Pos} {l:Lv} {f:T4} {g B g2:Sl->ao dU} {c n x:Str}
def oN (B g2:Sl->ao dU):Sl->ao dU:=λd=>B d>>=λo=>match o with
 | .nx a=>g2 a
 | .rt b e=> .ok (.rt b e)
def UF (w:Aa X i st B) (y:ir X i rest g2):ir X i (st::rest) (oN B g2):=by
 with_unfolding_all exact (dk.imp (Q8 w y) λE U H=>by
  rintro ⟨G,j,h,o,a,k,z,I,q⟩;obtain ⟨m,e1,e2⟩:=jd I;refine ⟨G,j,h,m,a,k,z,e1,?_⟩
  cases m with
  |nx d=>exact λL Y N O Q=>⟨G,j,d,o,a,N,O,e2,kz Q q⟩
  |rt b d=>cases e2;exact q)
def uz (a:Aa X i st B):ir X i [st] B:=by
 with_unfolding_all exact (dk.imp (Xe a) λE d H q=>q)
def J3:Sl->ao dU:=λa=> .ok (.nx a)
def WS:ir X i [] J3:=by
 with_unfolding_all exact (dk.imp Xf λE d H=>by
  rintro ⟨G,w,h,o,a,k,j,m,q⟩;cases m
  exact q d H k j (be.refl (aq.refl H)))
def EW (t:T3) (B g2:Sl->ao dU):Sl->ao dU:=λa=>t a>>=λb=>if b=true then B a else g2 a
def XR (m:DT X c0 t) (w:ir X i v B) (y:ir X i J g2):Aa X i (.If c0 v J r) (EW t B g2):=by
 with_unfolding_all exact (PS.imp (Vy m w y) λE I H=>by
  rintro ⟨G,h,d,o,a,k,j,z,q⟩;obtain ⟨b,e1,e2⟩:=jd z;refine ⟨G,h,d,b,k,e1,λL s=>?_⟩
  cases b with
  |true=>
   rw [if_pos rfl] at e2 ⊢;exact ⟨G,h,d,o,a,k.am s,j,e2,kz (be.refl s) q⟩
  |false=>
   rw [if_neg eh] at e2 ⊢
   exact ⟨G,h,d,o,a,k.am s,j,e2,kz (be.refl s) q⟩)
def J4:Sl->ao dU:=λ_=> .aj
def XS:Aa X i st J4:=by
 with_unfolding_all exact (λd s m H E I ⟨G,w,h,o,a,k,y,j,q⟩=>by cases j)
def my (i:Nat) (c:Str):Sl->ao (List Str×List D):=λa=>match a[i]? with
 |some (.aw (.obj d h j))=>aV (d=c) (.ok (h,j))
 |_=> .aj
def X8 (h:my i c a= .ok q):a[i]?=some (.aw (.obj c q.1 q.2)):=by
 unfold my at h
 split at h
 . rename_i m o w e;obtain ⟨d,j⟩:=ju h;subst d;cases j;exact e
 . cases h
def BM (i:Nat) (c n:Str) (f:T4):Sl->ao dU:=λa=>f a>>=λd=>my i c a>>=λq=>aV (q.1.length<1000) (.ok (.nx (a.set i (.aw (.obj c (tc n q.1) (tj n d q.1 q.2))))))
def uA (O:mx X.K c n) (h:DE X .s e f) (hN:X.N[i]?=some x:=by rfl) (hv:fL X.env.scope x:=by exact du rfl)
   (hd:Y6 x:=by decide) (z:Y5 x:=by decide)
   (hs:g8 e (some (.Attribute (.Name x p) n u)) r.line X.env=pure false:=by rfl):Aa X i (.Assign [.Attribute (.Name x p) n u] e r) (BM i c n f):=by
 with_unfolding_all exact (
  PS.imp (Og (wE hN hv hd z) h hs) λE σ H=>by
   rintro ⟨G,H0,I,o,a,k,m,j,q⟩;obtain ⟨d,e1,j⟩:=jd j;obtain ⟨ns,e2,j⟩:=jd j;obtain ⟨Q,e3⟩:=ju j;cases e3;have U:=X8 e2;refine ⟨G,H0,I,d,k,e1,λy H1 L r1 _=>?_⟩;obtain ⟨a',C,dx,fs,Y,hx,N,hn,rs⟩:=JH (k.am L) U;rw [m] at Y;cases Y;refine ⟨_,m,a,C,dx,fs,rfl,hx,(O.at N).1,(O.at N).2,by rw [<-hn,dc] at Q;exact Q,?_⟩;obtain ⟨p1,p2⟩:=vJ r1 rs;rw [hn] at p1 p2;have W:=(k.am L).ia (o':= .ins C dx (cK n y fs)) U m hx trivial λA' H' st e w=> .obj e ⟨N,p1⟩ rfl (p2.a9 st w)
   exact q σ _ W.1 m (W.2.am L))
end
structure gS (P:bH) (w:World) (K:aC) (mg:W0) (af:Heap) (k:Nat) (c m:Str) (ps:List Str) (fr:Bool) (F:T0):Prop where
 ex: ∃C f fd,bR P w K mg af fQ k f fd ps (lj K fr ps.length F)/\cg K bM c=some (some (.ref C))/\fm K C/\Meth K C m f/\Binds K fd ps []
def gS.mono {K:aC} (h:gS P w K mg af j c m d e F) (i:j<=k):gS P w K mg af k c m d e F:=
 let ⟨C,f,l,a,b⟩:=h.ex
 ⟨C,f,l,a.mono i,b⟩
def Qk (c m:Str) (n:Nat) (F:T0) (i:T4) (g:T1):Sl->ao D:=λa=>i a>>=λo=>match o with
 | .obj d e j=>aV (d=c/\e.contains m=false) (g a>>=λh=>aV (h.length+1=n) (F (.obj d e j::h)))
 |_=> .aj
def Xt (h:Qk c m n F p g a= .ok d): ∃e j i,p a= .ok (.obj c e j)/\e.contains m=false/\g a= .ok i/\i.length+1=n/\F (.obj c e j::i)= .ok d:=by
 obtain ⟨o,q,h⟩:=jd h
 cases o with
 |obj B e j=>
  obtain ⟨⟨r,u⟩,v⟩:=ju h;subst r;obtain ⟨i,w,l⟩:=jd v;obtain ⟨y,z⟩:=ju l;exact ⟨e,j,i,q,u,w,y,z⟩
 |_=>cases h
section
variable {X:Cx} {k n:Nat} {c m:Str} {ps:List Str} {fr:Bool} {F:T0} {o e:Expr} {es:List Expr} {pos apos:Pos} {fo:T4} {g:T1} {pl:Sem Bool}
def gS.call (A:gS X.prog X.w X.K X.mg X.af k c m ps fr F) (hr:aE k X.A) (I:DE X .s o fo) (J:DA X .s (e::es) g) (h:ps.length=n:=by rfl)
  (i:Vs X e es:=by exact jm rfl) (j:Vr X pos es:=by exact jF rfl)
  (L:eval (.Call (.Attribute o m apos) (e::es) [] pos) X.env=(do
   let r<-eval o X.env
   iJ apos.atName
   let (f,first)<-gq [r] (o5 r m pl)
   callWith pos f first (dA pos (bg (e::es) X.env)) (fV pos (fW [] X.env))):=by rfl):DE X .s (.Call (.Attribute o m apos) (e::es) [] pos) (Qk c m n F fo g):=by
 subst h;obtain ⟨C,f,fd,h1,h2,N,O,U⟩:=A.ex
 with_unfolding_all exact (
 PE.imp (G0 I N O h1 hr U .nil VA J i j L) λσ H Q=>by
  rintro ⟨u,w,env,d,k,Y,q⟩;obtain ⟨ns,vs,y,e1,e2,e3,e4,e5⟩:=Xt Y;refine ⟨u,w,env,_,k,e1,λv H1 l B _=>?_⟩;obtain ⟨a,C',dx,fs,rfl,hx,_,E,h,rs⟩:=B.objE;rw [h2] at E;cases E;refine ⟨a,dx,fs,rfl,hx,Js (by rw [h];exact e2),u,w,env,y,k.am l,e3,λws H2 p r2=>?_⟩;show lj X.K fr ps.length F (.ref a::(ws++[])) H2 Q (λ_ _ _=>False);rw [fN]
  exact ⟨_,_::y,d,by simp [r2.length,e4],.cons (B.am p) r2,e5,λv H3 s3 r3 _=>q v H3 (l.trans (p.trans s3)) (r3.aH λc z=>z.elim (λz=>k.new c (aq.free l (aq.free p z))) λz=>z) trivial⟩)
def gS.aB (A:gS X.prog X.w X.K X.mg X.af k c m ps true F) (hr:aE k X.A) (I:DE X .s o fo) (J:DA X .s (e::es) g) (j:ps.length=n:=by rfl)
  (l:Vs X e es:=by exact jm rfl) (p:Vr X pos es:=by exact jF rfl)
  (L:eval (.Call (.Attribute o m apos) (e::es) [] pos) X.env=(do
   let r<-eval o X.env
   iJ apos.atName
   let (f,first)<-gq [r] (o5 r m pl)
   callWith pos f first (dA pos (bg (e::es) X.env)) (fV pos (fW [] X.env))):=by rfl):DE X .t (.Call (.Attribute o m apos) (e::es) [] pos) (Qk c m n F fo g):=by
 subst j;obtain ⟨C,f,fd,h1,h2,N,O,U⟩:=A.ex
 with_unfolding_all exact (
 PE.imp (G0 I N O h1 hr U .nil VA J l p L) λσ H Q=>by
  rintro ⟨u,w,env,d,k,Y,q⟩;obtain ⟨ns,vs,y,e1,e2,e3,e4,e5⟩:=Xt Y;refine ⟨u,w,env,_,k,e1,λv H1 h B _=>?_⟩;obtain ⟨a,C',dx,fs,rfl,hx,_,E,j,rs⟩:=B.objE;rw [h2] at E;cases E;refine ⟨a,dx,fs,rfl,hx,Js (by rw [j];exact e2),u,w,env,y,k.am h,e3,λws H2 i r2=>?_⟩;show lj X.K true ps.length F (.ref a::(ws++[])) H2 Q (λ_ _ _=>False);rw [fN]
  exact ⟨_,_::y,d,by simp [r2.length,e4],.cons (B.am i) r2,e5,λv H3 s3 r3 nt=>q v H3 (h.trans (i.trans s3)) (r3.aH λc z=>z.elim (λz=>k.new c (aq.free h (aq.free i z))) λz=>z) (((nt rfl).am i).am h)⟩)
def oq:Sl->ao (List D):=λ_=> .ok []
def gS.rY (A:gS X.prog X.w X.K X.mg X.af k c m ps true F) (hr:aE k X.A) (r:DE X .s o fo) (h:ps.length=n:=by rfl)
  (u:eval (.Call (.Attribute o m apos) [] [] pos) X.env=(do
   let j<-eval o X.env
   iJ apos.atName
   let (f,first)<-gq [j] (o5 j m pl)
   callWith pos f first (dA pos (bg [] X.env)) (fV pos (fW [] X.env))):=by rfl):DE X .t (.Call (.Attribute o m apos) [] [] pos) (Qk c m n F fo oq):=by
 subst h;obtain ⟨C,f,fd,h1,h2,w,y,B⟩:=A.ex
 with_unfolding_all exact (
 PE.imp (Oo r w y h1 hr B .nil VA u) λσ H Q=>by
  rintro ⟨E,I,env,d,k,J,q⟩;obtain ⟨ns,vs,ds,e1,e2,L,N,O⟩:=Xt J;cases L;refine ⟨E,I,env,_,k,e1,λv H1 i l _=>?_⟩;obtain ⟨a,C',dx,fs,rfl,U,_,p,h,rs⟩:=l.objE;rw [h2] at p;cases p;refine ⟨a,dx,fs,rfl,U,Js (by rw [h];exact e2),?_⟩
  exact ⟨_,[_],d,by simp [<-N],.cons l .nil,O,λv Y s3 r3 nt=>q v Y (i.trans s3) (r3.aH λc z=>z.elim (λz=>k.new c (aq.free i z)) λz=>z) ((nt rfl).am i)⟩)
end
section
variable {P:bH} {w:World} {K:aC} {mg:W0} {af:Heap}
def X9 {st:Stmt} (l:Bool) (p:hZ K m a st f n) (q:cg K bM c=some (some (.ref C))) (r:fm K C) (u:Meth K C m f) (S:ar N o (jg st)) (j:Binds K n o [])
  (v: ∀(i:Value) (A:bQ) (e:List Env) (s:aM) (H:Hp) (E:XK),aE k (A.deeper (fF a (jg st) s.heap.objs.size f i))->gn (bA fQ P w K mg af N a (jg st) f i A e s H E).kf (jQ st) g):
  gS P w K mg af (k+1) c m o l (aD l N.length g):=
 ⟨C,f,n,DK p S v λy d _ h=>ZV h,q,r,u,j⟩
end
abbrev FO:=D->List D->ao (D×D)
def J5 (K:aC) (n:Nat) (F:FO):Sp:=λj H Q _=> ∃(B:WZ) (h:List D) (e:List V) (a:Addr) (d0 r i:D),j=V.ref a::e/\e.length=n/\au K (λc=>B c/\c≠a) H e h/\Top K (λc=>B c/\c≠a) H a d0/\F d0 h= .ok (r,i)/\
 ∀v d,(∀c o,c≠a->H c=some o->d c=some o)->Top K (λc=>(H c=none\/B c)/\c≠a) d a i->aL K (λc=>(H c=none\/B c)/\c≠a) d v r->Q v d
def Q4 (n:Nat) (d0:D) (a:List D):Sl:= .aw d0::(a.map .ah++eP (n-a.length-1) .un)
def J6 (h:(Q4 n d0 a)[j]?=some s):(j=0/\s= .aw d0)\/(∃c d,j=c+1/\a[c]?=some d/\s= .ah d)\/s= .un:=by
 unfold Q4 at h
 cases j with
 |zero=>simp at h;exact .inl ⟨rfl,h.symm⟩
 |succ j=>
  rw [zx] at h
  by_cases q:j<a.length
  . rw [g9 (by simpa using q),iE] at h
    cases e:a[j]? with
    |none=>rw [e] at h;cases h
    |some x=>rw [e] at h;cases h;exact .inr (.inl ⟨j,x,rfl,e,rfl⟩)
  . rw [iL (by simpa using q),ox] at h
    split at h
    . cases h;exact .inr (.inr rfl)
    . cases h
def Ya {K:aC} {B:WZ} (r:au K (λc=>B c/\c≠a) H i p) (t:Top K (λc=>B c/\c≠a) H a d0) (L:p.length+1<=N.length):
   ay K (λc=>H c=none\/c=a\/B c) (λc=>if c=a then none else H c) (Q4 N.length d0 p) (start N (V.ref a::i)) H/\At (start N (V.ref a::i)) 0 a:=by
 have I:=r.length
 have m:At (start N (V.ref a::i)) 0 a:=by
   show (L2.start N (V.ref a::i))[0]?=_;unfold L2.start;simp
 have q: ∀(j:Nat) (v:V),i[j]?=some v->(start N (V.ref a::i))[j+1]?=some (some v):=λj v h=>by
   have O:=(iD.mp h).1;unfold L2.start;rw [g9 (by simp;omega),iE,zx,h];rfl
 have u: ∀c,zY (Q4 N.length d0 p) (start N (V.ref a::i)) c->c=a:=λc ⟨j,d,y,n⟩=>by
   rcases J6 y with ⟨rfl,_⟩| ⟨_,_,_,_,z⟩|z
   . rw [m] at n;cases n;rfl
   . cases z
   . cases z
 have w: ∀c,B c/\c≠a->Sf (λc=>H c=none\/c=a\/B c) (Q4 N.length d0 p) (start N (V.ref a::i)) c:=λc z=>⟨λo=>z.2 (u c o),.inr (.inr z.1)⟩
 refine ⟨⟨?_,λc o e=>?_,λc e=>?_,λj d h=>?_,λj d h=>?_,λj E d e b y n Q U=>?_⟩,m⟩
 . simp [L2.start,Q4,I];omega
 . split at e
   . cases e
   . exact e
 . split at e
   . rename_i z;exact .inr (.inl z)
   . exact .inl e
 . rcases J6 h with ⟨_,z⟩| ⟨E,J,rfl,e,z⟩|z
   . cases z
   . cases z;obtain ⟨v,y,n⟩:=r.get e;exact ⟨v,q E v y,n.aH w⟩
   . cases z
 . rcases J6 h with ⟨rfl,z⟩| ⟨E,J,_,e,z⟩|z
   . cases z;exact ⟨a,m,if_pos rfl,t.a9 (λ_ _ e _=>e) w λ_ e=>e⟩
   . cases z
   . cases z
 . have l: ∀(j:Nat) (d:D),(Q4 N.length d0 p)[j]?=some (.aw d)->j=0:=λj d h=>by
     rcases J6 h with ⟨z,_⟩| ⟨_,_,_,_,z⟩|z
     . exact z
     . cases z
     . cases z
   rw [l j d y,l E e n]
def Ab:Sl->ao D
 | .aw d::_=> .ok d
 |_=> .aj
def Yb (h:Ab a= .ok d):a[0]?=some (.aw d):=by
 unfold Ab at h
 split at h
 . cases h;rfl
 . cases h
def nD (N n:Nat) (g:Sl->ao dU):FO:=λd0 c=>aV (c.length=n) (g (Q4 N d0 c)>>=λo=>match o with
 | .nx a=>Ab a>>=λd=> .ok (.aU,d)
 | .rt r a=>Ab a>>=λd=> .ok (r,d))
section
variable {P:bH} {w:World} {K:aC} {mg:W0} {af:Heap}
def Zu {m p:Str} {st:Stmt} (Fu:hZ K m p st f fd) (S:ar N ps (jg st)) (hn:ps.length=n+1) (hN:n+1<=N.length)
  (hb: ∀(u:Value) (A:bQ) (l:List Env) (s:aM) (H:Hp) (E:XK),aE k (A.deeper (fF p (jg st) s.heap.objs.size f u))->ir (bA fQ P w K mg af N p (jg st) f u A l s H E).kf 0 (jQ st) g):
  bR P w K mg af fQ (k+1) f fd ps (J5 K n (nD N.length n g)):=by
 with_unfolding_all exact (by
 refine Fu.ok S (λvs H Q E ⟨B,ds,us,a,d0,r,d1,Y,hl,_⟩=>by rw [Y,bO,hl,hn]) (λu A l s H vs Q E hr h=>?_);obtain ⟨B,ds,us,a,d0,r,d1,Y,hl,rs,t,I,q⟩:=h;refine ⟨_,hb u A l s H E hr,?_⟩;obtain ⟨e0,I⟩:=ju I;obtain ⟨o,e1,I⟩:=jd I;subst Y;obtain ⟨kk,hat⟩:=Ya (N:=N) rs t (by omega)
 have O: ∀(i:Sl) (j:L2.St) (y:Hp) (v:V),ay K (λc=>H c=none\/c=a\/B c) (λc=>if c=a then none else H c) i j y->At j 0 a->Ab i= .ok d1->aL K (Sf (λc=>H c=none\/c=a\/B c) i j) y v r->Q v y:=λi j y v J L e2 rv=>by
  have hi:=Yb e2;obtain ⟨a2,h1,_,t2⟩:=J.aw 0 _ hi;rw [L] at h1;cases h1
  have ww: ∀c,Sf (λc=>H c=none\/c=a\/B c) i j c->(H c=none\/B c)/\c≠a:=λc z=>by
   have U:c≠a:=by
     rintro rfl;exact z.1 ⟨0,_,hi,L⟩
   refine ⟨?_,U⟩;rcases z.2 with z|z|z
   . exact .inl z
   . exact absurd z U
   . exact .inr z
  exact q v y (λc o hc e=>J.af c o (by rw [if_neg hc];exact e)) (t2.a9 (λ_ _ e _=>e) ww λ_ e=>e) (rv.aH ww)
 refine ⟨_,_,_,o,a,kk,hat,e1,?_⟩
 cases o with
 |nx i=>
  obtain ⟨d,e2,e3⟩:=jd I;cases e3;exact λj y J L f'=>O i j y .aU J L e2 .aU
 |rt r' i=>
  obtain ⟨d,e2,e3⟩:=jd I;cases e3
  exact λv j y J L f' rv=>O i j y v J L e2 rv)
end
structure rZ (P:bH) (w:World) (K:aC) (mg:W0) (af:Heap) (k:Nat) (c:Str) (n:Nat) (F:FO):Prop where
 ex: ∃C f fd ps,bR P w K mg af fQ k f fd ps (J5 K n F)/\cg K bM c=some (some (.ref C))/\mg c=some (.ref C)/\Mk K C f/\Binds K fd ps []
def kQ (c:Str) (n:Nat) (F:FO) (g:T1):Sl->ao D:=λa=>g a>>=λe=>aV (e.length=n) (F (.obj c [] []) e>>=λq=>match q with
 | (.aU,d)=> .ok d
 |_=> .aj)
section
variable {X:Cx} {k n:Nat} {c:Str} {F:FO} {e:Expr} {es:List Expr} {pos p:Pos} {g:T1}
def rZ.make (A:rZ X.prog X.w X.K X.mg X.af k c n F) (hr:aE (k+1) X.A) (J:DA X .s (e::es) g) (L:Gl X c:=by rfl) (l:Y6 c:=by decide)
  (N:Vs X e es:=by exact jm rfl) (u:Vr X pos es:=by exact jF rfl):
  DE X .t (.Call (.Name c p) (e::es) [] pos) (kQ c n F g):=by
 obtain ⟨C,f,fd,ps,h1,h2,O,U,Y⟩:=A.ex
 with_unfolding_all exact (
 PE.imp (Oq U h1 hr L O Y .nil VA J l N u) λσ H Q=>by
  rintro ⟨G,H0,env,d,k,a,q⟩;obtain ⟨y,e1,a⟩:=jd a;obtain ⟨hn,a⟩:=ju a;obtain ⟨⟨r,d1⟩,e2,a⟩:=jd a
  cases r with
  |aU=>
   cases a;refine ⟨G,H0,env,y,k,e1,λvs B j E x dx i w ne=>?_⟩
   have S:aq B (aR (aR B dx (.aw x)) x (.ins C dx [])):=λb o h=>by
    rw [j3 (qS h i),j3 (qS h w)];exact h
   have kx:=k.new x (aq.free j i);have rr:=E.cw.am S;rw [fN];refine ⟨Sf G env σ,y,vs,x,_,.aU,d,rfl,by rw [E.length];exact hn,rr.aH λb z=>⟨z.1,by rintro rfl;exact z.2 i⟩,.obj jD ⟨h2,rfl⟩ rfl .nil,e2,λv I hs t rv=>⟨rv.rf,?_⟩⟩;have sH:aq H I:=λb o h=>hs b o (qS (j b o h) i) (S b o (j b o h))
   refine q _ I sH (t.rep (λb z=>⟨z.1.elim (λz=>k.new b (aq.free j (aq.free S z))) λz=>z,z.2⟩) kx) λb h o qb m=>?_
   cases h;rw [j _ _ qb] at i;cases i
  |_=>cases a)
end
section
variable {P:bH} {w:World} {K:aC} {mg:W0} {af:Heap}
def jkr {st:Stmt} (o:hZ K m a st f l) (p:cg K bM c=some (some (.ref C))) (h:mg c=some (.ref C)) (mk:Mk K C f) (S:ar N i (jg st)) (j:Binds K l i []) (q:i.length=n+1) (r:n+1<=N.length)
  (u: ∀(e:Value) (A:bQ) (d:List Env) (s:aM) (H:Hp) (E:XK),aE k (A.deeper (fF a (jg st) s.heap.objs.size f e))->ir (bA fQ P w K mg af N a (jg st) f e A d s H E).kf 0 (jQ st) g):
  rZ P w K mg af (k+1) c n (nD N.length n g):=
 ⟨C,f,l,i,Zu o S q r u,p,h,mk,j⟩
end
section
variable {prog:bH} {w:World} {A:bQ} {E:Vt} {s:aM}
structure cF (h:Heap) (a:Addr) (es:Array (Int×Value)) (ep:Nat) (t:SetTable):Prop where
 ex: ∃o,h.get? a=some o/\o.ExactSet/\o.data= .set es ep t
 el: ∀e∈es.toList,∃k tk,e.2= .int k tk/\e.1=hashInt k
 bd:es.size<pB
 ft:t.fits es.size=true
def cF.of (j:h.SetOf (lK prog w) a S n): ∃c d t,cF h a c d t/\c.size=n/\(∀k,S k=true↔ ∃e∈c.toList,(lK prog w).is k e.2=true):=by
 obtain ⟨o,c,d,t,l,m,hd,i,p,q,r,u⟩:=j;refine ⟨c,d,t,⟨⟨o,l,m,hd⟩,λe v=>?_,q,r⟩,u,p⟩;obtain ⟨⟨k,h1,h2⟩,_⟩:=i e v;obtain ⟨tk,y⟩:=Ce h1;exact ⟨k,tk,y,h2⟩
def cF.state (h:cF s.heap a c d t) (e:Q (c,d,t) s):wpAny (model prog w) A (setState a) Q E s:=by
 obtain ⟨o,i,_,hd⟩:=h.ex;exact wpAny_setState_of i hd h.ft e
def Xd {c:Array (Int×Value)} (i: ∀e∈c.toList,∃k tk,e.2= .int k tk/\e.1=hashInt k) {d:Type} {a:d} {f:Int×Value->d->Sem (ForInStep d)} {Q:d->aM->Prop}
   (m: ∀h k tk,f (h,.int k tk) a=pure (.yield a)) (n:Q a s):wpAny (model prog w) A (forIn c a f) Q E s:=by
 refine La f (λrest b j=>b=a/\j=s/\ ∀e∈rest,e∈c.toList) Q ?_ ?_ c a ⟨rfl,rfl,λ_ h=>h⟩
 . rintro ⟨h,x⟩ rest b j ⟨rfl,rfl,l⟩;obtain ⟨k,tk,e1,e2⟩:=i _ (l _ iC);dsimp only at e1;subst e1;rw [m];exact ba ⟨rfl,rfl,λe o=>l e (fM _ o)⟩
 . rintro b j ⟨rfl,rfl,_⟩;exact n
def jah {a b c:Addr} {e1 e2 i:Array (Int×Value)} {j l m:Nat} {n o p:SetTable} (d:cF s.heap a e1 j n) (e:cF s.heap b e2 l o) (h:cF s.heap c i m p) {Q:Bool->aM->Prop} (q:Q true s):
  wpAny (model prog w) A (setsQuiet [a,b,c]) Q E s:=by
 unfold setsQuiet setEntries;simp;refine az (d.state ?_);refine az (Xd d.el (λ_ _ _=>rfl) ?_);dsimp only;simp;refine az (e.state ?_);refine az (Xd e.el (λ_ _ _=>rfl) ?_);dsimp only;simp;refine az (h.state ?_);refine az (Xd h.el (λ_ _ _=>rfl) ?_);dsimp only;simp;exact ba q
theorem Lb {c:Type} (next:Nat->Nat): ∀(fuel k:Nat) (left:List c) (a:Array c) (x:c),x∈(pickOrder.go next fuel k left a).toList->x∈left\/x∈a.toList
 |0,_,_,a,x,h=> .inr h
 |fuel+1,k,left,a,x,h=>by
  unfold pickOrder.go at h
  split at h
  . rename_i y e;rcases Lb next fuel (k+1) _ _ x h with z|z
    . exact .inl (List.mem_of_mem_eraseIdx z)
    . rw [Array.toList_push,j0] at z;rcases z with z|z
      . exact .inr z
      . rw [List.mem_singleton] at z;subst z;exact .inl (gu e)
  . exact .inr h
def jev {a:Type} {c:Array a} {x:a} (h:x∈(pickOrder next c).toList):x∈c.toList:=by
 rcases Lb next _ _ _ _ x h with z|z
 . exact z
 . simp at z
def Vq {d:SetTable} (m:cF s.heap a c q d) (i:w.params.followText "set-order" =true\/((!d.plain&&decide (c.size>1))=false/\(!d.led&&decide (c.size>1))=false)) {Q:Array (Int×Value)->aM->Prop}
  (h: ∀j:Array (Int×Value),(∀e∈j.toList,e∈c.toList)->Q j s):wpAny (model prog w) A (setWalk a) Q E s:=by
 unfold setWalk setsByText;refine az (m.state ?_);dsimp only;simp;refine az (wpAny_askSetting ?_);dsimp only
 cases l:(model prog w).w.params.followText "set-order" with
 |true=>
  simp;refine az (wpAny_askSetting (ba (h _ λe n=>jev n)))
 |false=>
  simp;rcases i with i| ⟨o,p⟩
  . rw [show (model prog w).w.params.followText "set-order" =w.params.followText "set-order" from rfl,i] at l;cases l
  . show wpAny _ _ (if (!d.plain&&decide (c.size>1))=true then _ else _) _ _ _;rw [o];simp;show wpAny _ _ ((if (!d.led&&decide (c.size>1))=true then unsupported "set:maker-not-led" else pure ())>>=λ_=>pure c) _ _ _;rw [p];simp;exact ba (h _ λ_ z=>z)
def cF.keep (x:cF h a c d t) (k: ∀o,h.get? a=some o->e.get? a=some o):cF e a c d t:=
 let ⟨o,h1,h2⟩:=x.ex
 ⟨⟨o,k o h1,h2⟩,x.el,x.bd,x.ft⟩
def WY (n:cF s.heap a d U ta) (H:cF s.heap o Y po I) (i:cF s.heap f #[] pf m)
   (h: ∀(c:Array (Int×Value)) (p:Heap),(∀e∈c.toList,e∈d.toList)->(∀b ob,b≠f->s.heap.get? b=some ob->p.get? b=some ob)->(∃q r,cF p f #[] q r)->Q c {s with heap:=p}):
   wpAny (model prog w) A (setWalkUnseen a [o,f] (some f)) Q E s:=by
 unfold setWalkUnseen setsByText;refine az (n.state ?_);dsimp only;simp only [bind_assoc,pure_bind];refine az (wpAny_askSetting ?_);dsimp only;have j: ∀c:Array (Int×Value),(∀e∈c.toList,e∈d.toList)->Q c s:=λc z=>h c s.heap z (λ_ _ _ e=>e) ⟨_,_,i⟩
 by_cases hc:((model prog w).w.params.followText "set-order" ||ta.led&&ta.plain||decide (d.size<=1))=true
 . rw [if_pos hc];refine Vq n ?_ λc hw=>j c hw
   simp at hc;rcases hc with (hc| ⟨J,L⟩)|hc
   . exact .inl hc
   . exact .inr ⟨by simp [L],by simp [J]⟩
   . have: ¬(d.size>1):=by omega
     exact .inr ⟨by simp [this],by simp [this]⟩
 . rw [if_neg hc];refine az (jah n H i ?_);simp;refine az (rG ?_);refine az (i.state ?_);dsimp only
   split
   . obtain ⟨ob,v,y,B⟩:=i.ex;refine az (wpAny_storeSet_of v B ?_ (by simp));refine ba (h d _ (λ_ z=>z) (λb ob N e=>Heap.get?_update_of_ne _ (iH N) e) ?_)
     have l:({m with led:=m.led&&ta.led,plain:=m.plain&&ta.plain}:SetTable).fits (#[]:Array (Int×Value)).size=true:=by
      have:=i.ft;cases m;exact this
     obtain ⟨O,_⟩:=SetOf_store (knd:=lK prog w) (S':=λ_=>false) v y B (λe u=>by simp at u) (λk=>by simp) (by decide) l;exact ⟨_,_,⟨⟨_,O,y,rfl⟩,λe u=>by simp at u,by decide,l⟩⟩
   . exact ba (j _ λ_ z=>z)
def YF (k:Int) (tk:Tok):(lK prog w).is k (.int k tk)=true:=by
 with_unfolding_all exact (beq_self_eq_true k)
def EX (c:s.TypeIs (.ref a) "set") (h:Q true s):wpAny (model prog w) A (BN (.ref a)) Q E s:=by
 unfold BN;unfold orM;refine az (yI c F.sub_set_set ?_);exact ba h
def XX {id:String} {a o:Addr} {O p:Int->Bool} {U Y:Nat} (hA:s.heap.SetOf (lK prog w) a O U) (q:s.heap.SetOf (lK prog w) o p Y) (hs: ∀k,O k=true->p k=true) (hn: ¬U/4>Y) {Q:Vt}
   (h: ∀(c:Heap),(∀b ob,b<s.heap.objs.size->s.heap.get? b=some ob->c.get? b=some ob)->(∃d i,cF c s.heap.objs.size #[] d i)->Q (.ref s.heap.objs.size) {s with heap:=c}):
   wpAny (model prog w) A (EY id a (.ref o)) Q E s:=by
 have tA:=hA.typeIs;have tO:=q.typeIs;obtain ⟨ea,pa,ta,m,rfl,mA⟩:=cF.of hA;obtain ⟨eo,po,to_,u,rfl,mO⟩:=cF.of q;unfold EY Builtin.Frozenset.sizeOf EZ setEntries Builtin.Frozenset.baseOf setEpoch;dsimp only;refine az (EX tO ?_);simp only [Ac,oJ,if_false,pure_bind,bind_assoc,Bool.false_and,if_true];refine az (u.state ?_);refine az (m.state ?_);dsimp only;rw [if_neg hn];refine az (yI tA F.sub_set_set ?_);simp only [if_true];refine az (wpAny_newSet_of (knd:=lK prog w) λv hS=>?_);simp only [pure_bind];obtain ⟨er,pr,tr,iR,hz,_⟩:=cF.of hS;have y:=Array.eq_empty_of_size_eq_zero hz;subst y;have n: ∀b ob,s.heap.get? b=some ob->(s.heap.push {cls:= .type "set",dict:=none,data:= .set #[] 0 (.fresh 0 0 v)}).get? b=some ob:=λb ob e=>bW _ e
 have j:=m.keep (n a);have z:=u.keep (n o);have lA:=let ⟨_,e,_⟩:=m.ex;b6 e;have lO:=let ⟨_,e,_⟩:=u.ex;b6 e;refine az (j.state ?_);refine az (mI ?_);refine az (WY j z iR λws c hw B H=>?_);obtain ⟨d,i,iF⟩:=H;have I:=j.keep λob e=>B _ _ (eB lA) e
 have J:c.SetOf (lK prog w) o p eo.size:=by
   obtain ⟨ob,es,ep,t,ho,hx,hd,rest⟩:=q;exact ⟨ob,es,ep,t,B _ _ (eB lO) (n _ _ ho),hx,hd,rest⟩
 have hQ:=h c (λb ob hb e=>B b ob (eB hb) (n b ob e)) ⟨d,i,iF⟩;refine az (La _ (λrest b L=>L={s with heap:=c}/\ ∀e∈rest,e∈ea.toList) _ ?_ ?_ ws _ ⟨rfl,hw⟩)
 . rintro ⟨hh,x⟩ rest b L ⟨rfl,hm⟩;have l:=hm _ iC;obtain ⟨k,tk,e1,e2⟩:=m.el _ l;dsimp only at e1 e2;subst e1;subst e2;refine az (mI ?_);have N:=hs k ((mA k).mpr ⟨_,l,YF k tk⟩);refine az (wpAny_setFind_of (knd:=lK prog w) (YF k tk) rfl J λr hr=>?_);rw [hr,N];simp only [pure_bind,Ac,oJ,if_false];refine ba ?_;unfold Builtin.Frozenset.unchanged setEpoch;simp only [bind_assoc,pure_bind];refine az (I.state ?_);dsimp only;simp only [bne_self_eq_false,oJ,if_false,pure_bind];exact ba ⟨rfl,λe he=>hm e (fM _ he)⟩
 . rintro b L ⟨rfl,_⟩;exact ba (ba hQ)
def KO:entryFor table "set.__sub__" =some mM.«frozenset.__sub__» :=
 entryFor_alias (id':= "frozenset.__sub__") (by kernel_rfl) rfl (by decide+kernel) (by kernel_rfl)
def jea {a o:Addr} {n p:Int->Bool} {q u:Nat} (e:s.heap.SetOf (lK prog w) a n q) (i:s.heap.SetOf (lK prog w) o p u) (v: ∀k,n k=true->p k=true) (y: ¬q/4>u) {Q:Vt}
  (h: ∀(d:Heap),(∀b ob,b<s.heap.objs.size->s.heap.get? b=some ob->d.get? b=some ob)->(∃j m,cF d s.heap.objs.size #[] j m)->Q (.ref s.heap.objs.size) {s with heap:=d}):
  wpAny (model prog w) A (gI .Sub (.ref a) (.ref o)) Q E s:=by
 refine wpAny_binaryOp_same e.typeIs i.typeIs F.fills_set_sub F.slot_set_sub (m5 F.slot_set_sub e.typeIs KO ?_ (F.args_set_sub_2 _ _))
 show wpAny _ _ (do
  let (self,c)<-Lc "__sub__" ⟨[.ref a,.ref o],[]⟩
  let (l,r):=(self,c)
  if !(<-BN l<&&>BN r) then rule s!"frozenset.{"__sub__"}.declined";return<-ret .notImplemented
  ret (<-EY s!"frozenset.{"__sub__"}" (<-EZ l) r)) _ _ _
 unfold Lc slotArgs;simp only [List.isEmpty_nil,Ac,oJ,if_false,bind_assoc,bO,dY,bne_self_eq_false,pure_bind];unfold andM;simp only [bind_assoc];refine az (EX e.typeIs ?_);dsimp;refine az (EX i.typeIs ?_);simp;unfold EZ;simp;refine az (XX e i v y λd z B=>?_);exact ba ⟨_,rfl,by simp,h d z B⟩
end
def cF.setOf (x:cF h a #[] c d):h.SetOf (lK prog w) a (λ_=>false) 0:=by
 obtain ⟨o,h1,h2,i⟩:=x.ex;exact ⟨o, #[],c,d,h1,h2,i,λe j=>by simp at j,λk=>by simp,by decide,x.ft,rfl⟩
def dd (a:List Int):List Int:=firstMet (λi=>a.getD i 0) a.length
def jkh (a:List Int) (k:Int):(dd a).any (· ==k)=a.any (· ==k):=by
 unfold dd;rw [firstMet_any];congr 1;apply List.ext_getElem
 . simp
 . intro i d c;simp [cU c]
section
variable {X:Cx}
theorem ug: ∀ {is:List Int} {us:List Value},aI (is.map V.int) us->IntsAre us is
 | [],_,.nil=> .nil
 |i::is,_,.cons h t=>by
  obtain ⟨k,rfl⟩:=h;exact .cons i k (ug t)
def UM (n:X.bT=true):bK X (.type "set") (λh H Q=> ∃(p:Addr) (a:List Int),h=[.ref p]/\da X.K H p (a.map V.int)/\a.length+1<pB/\ ∀l,H l=none->Q (.ref l) (aR H l (.set (λk=>a.any (· ==k)) (dd a).length))):=by
 rintro i s O H h U Q I r ⟨p,a,v,w,y,q⟩;subst v;obtain ⟨u,rfl,z⟩:=ZK r;cases z;obtain ⟨B,j,E,_⟩:=I.list w;obtain ⟨c,Y⟩:=vp j;refine call_set_list (I.ok.hd n) E.isList (by simpa using ug j) (by simp;rw [c];exact y) λm tk J L=>?_
 have N:=I.aY.fresh (br _)
 have d:m.SetOf (lK X.prog X.w) s.heap.objs.size (λk=>a.any (· ==k)) (dd a).length:=by
  refine SetOf_congr J (λk=>?_) ?_
  . simp only [b7,c];exact jkh a k
  . simp only [b7,c];rfl
 exact ⟨.ref s.heap.objs.size,_,I.laid (λb o e=>L b o (b6 e) e) (br _) (show bn X.prog X.w _ m _ (.set _ _) from d),rfl,q _ N⟩
def jhd:cp X (gI .Sub) (λx y H Q=> ∃a b S n c d,x= .ref a/\y= .ref b/\H a=some (.set S n)/\H b=some (.set c d)/\(∀k,S k=true->c k=true)/\ ¬n/4>d/\ ∀l,H l=none->Q (.ref l) (aR H l (.set (λ_=>false) 0))):=by
 rintro i s σ H x y v u Q I j m ⟨a,b,S,n,c,d,p,r,w,z,B,E,q⟩;subst p;subst r;cases j;cases m;have J:=I.aY a _ w;have L:=I.aY b _ z;refine jea J L B E λN O h=>?_;obtain ⟨pf,tf,U⟩:=h
 have Y:=I.aY.fresh (br _);exact ⟨.ref s.heap.objs.size,_,I.laid (λb o e=>O b o (b6 e) e) (br _) (show bn X.prog X.w _ N _ (.set _ _) from U.setOf),rfl,q _ Y⟩
def jdT:bK X (.builtin "len") (λc H Q=> ∃a S n,c=[.ref a]/\H a=some (.set S n)/\Q (.int n) H):=by
 rintro d s J H c L Q I r ⟨a,S,n,e,h,q⟩;subst e;obtain ⟨u,rfl,i⟩:=ZK r;cases i;have j:=I.aY a _ h;obtain ⟨o,l,N,t,m,p,v,w,O,y,z,B⟩:=j;subst B;have E:pB=4096:=rfl;exact call_len_set m p v z (by rw [E] at y;omega) ⟨.int l.size,H,I.tok _,⟨_,rfl⟩,q⟩
def mz (a b:D):ao D:=match a,b with
 | .ai x,.ai y=>match XA x,XA y with
  |some u,some v=>aV (u.length+1<pB/\v.length+1<pB/\(∀i∈u,i∈v)/\ ¬(dd u).length/4>(dd v).length) (.ok (.int 0))
  |_,_=> .aj
 |_,_=> .aj
def jeb (h:mz a b= .ok d): ∃u v:List Int,a= .ai (u.map D.int)/\b= .ai (v.map D.int)/\(u.length+1<pB/\v.length+1<pB/\(∀i∈u,i∈v)/\ ¬(dd u).length/4>(dd v).length)/\d= .int 0:=by
 unfold mz at h
 split at h
 . rename_i x y
   split at h
   . rename_i u v e1 e2;obtain ⟨c,e⟩:=ju h;cases e;exact ⟨u,v,by rw [Z8 e1],by rw [Z8 e2],c,rfl⟩
   . cases h
 . cases h
variable {l1 l2:Lv} {e1 e2:Expr} {f1 f2:T4} {p1 p2 p3 q1 q2 q3 pos:Pos}
def jdA (N:X.bT=true) (h1:DE X l1 e1 f1) (h2:DE X l2 e2 f2) (w:Gl X "len") (y:X.mg "len" =none) (c:Gl X "set") (h:X.mg "set" =none)
   (j:bg [.BinOp (.Call (.Name "set" p1) [e1] [] q1) .Sub (.Call (.Name "set" p2) [e2] [] q2) pos] X.env=(false,eval (.BinOp (.Call (.Name "set" p1) [e1] [] q1) .Sub (.Call (.Name "set" p2) [e2] [] q2) pos) X.env)::bg [] X.env:=by exact jm rfl)
   (m:bg [e1] X.env=(false,eval e1 X.env)::bg [] X.env:=by exact jm rfl) (n:bg [e2] X.env=(false,eval e2 X.env)::bg [] X.env:=by exact jm rfl):
   DE X .b (.Call (.Name "len" p3) [.BinOp (.Call (.Name "set" p1) [e1] [] q1) .Sub (.Call (.Name "set" p2) [e2] [] q2) pos] [] q3) (al f1 f2 mz):=by
 with_unfolding_all exact (
  PE.imp (WJ jdT w y rfl (j8 (CI jhd (Zd (UM N) c h rfl (j8 h1 wF m) (by decide) (by decide) m rfl) (Zd (UM N) c h rfl (j8 h2 wF n) (by decide) (by decide) n rfl)) wF j) (by decide) (by decide) j rfl) λσ H Q=>by
   rintro ⟨G,O,r,d,k,z,q⟩;obtain ⟨a,c1,z⟩:=jd z;obtain ⟨b,c2,c3⟩:=jd z;obtain ⟨u,v,rfl,rfl,⟨z1,z2,z3,z4⟩,rfl⟩:=jeb c3;refine ⟨G,O,r,_,k,c1,λx1 H1 U r1 _=>?_⟩;obtain ⟨p,xs,rfl,hp,_,rs⟩:=(r1.aH Lv.aZ).cC;have B:=Xc rs;subst B;refine ⟨p,u,rfl,.inl (.inl hp),z1,λl hl=>?_⟩;have Y:=aq.aR (o:=HO.set (λk=>u.any (· ==k)) (dd u).length) hl;refine ⟨G,O,r,_,(k.am U).am Y,c2,λx2 H2 s2 r2 _=>?_⟩;obtain ⟨p',xs,rfl,E,_,I⟩:=(r2.aH Lv.aZ).cC;have B:=Xc I;subst B;refine ⟨p',v,rfl,.inl (.inl E),z2,λl' J=>?_⟩;have S2:=aq.aR (o:=HO.set (λk=>v.any (· ==k)) (dd v).length) J;refine ⟨l,l',_,_,_,_,rfl,rfl,S2 _ _ (s2 _ _ jD),jD,λk hk=>?_,z4,λl2 L=>?_⟩
   . obtain ⟨i,hi,e⟩:=sX.mp hk;exact sX.mpr ⟨i,z3 i hi,e⟩
   . have S3:=aq.aR (o:=HO.set (λ_=>false) 0) L
     exact ⟨l2,_,0,rfl,jD,q _ _ (U.trans (Y.trans (s2.trans (S2.trans S3)))) (.int 0) trivial⟩)
end
structure lC (h:Heap) (z TI TO i1 i2 l1 l2:Addr) (k1 k2:Nat) (f0:Value):Prop where
 hz:IsZip h z TI TO f0
 ti:mS h TI (.ref i1) (.ref i2)
 to: ∃a b,mS h TO a b
 h1:h.IsListIter i1 l1 k1
 h2:h.IsListIter i2 l2 k2
def E1 (K:aC) (d e:Addr) (a c:List V):It:=⟨λi H=>(da K H d a/\da K H e c)/\i<a.length/\i<c.length,λi H v h=> ∃p x y,H p=none/\a[i]?=some x/\c[i]?=some y/\v= .ref p/\h=aR H p (.ak [x,y]),λi H=>(da K H d a/\da K H e c)/\(a.length<=i\/c.length<=i)⟩
def jbb {K:aC} {TI TO:Addr} (N O:List V) (D:ZipApart z TI TO J L a1 a2):
  Turn P w K (.Tuple elts n pos) (E1 K a1 a2 N O) [z,TI,TO,J,L] z (λi h=>lC h z TI TO J L a1 a2 i i .none) where
 mem:=by simp
 obj:=λi h st b a=>by
  obtain ⟨Q,U,⟨x,y,Y⟩,⟨o1,e1,c1,d1⟩,o2,e2,c2,d2⟩:=st;simp only [bJ,eE,or_false] at a;rcases a with rfl|rfl|rfl|rfl|rfl
  . exact ⟨_,Q,λv q=>by cases q⟩
  . exact ⟨_,U,λv q=>by cases q⟩
  . exact ⟨_,Y,λv q=>by cases q⟩
  . exact ⟨o1,e1,λv q=>by rw [d1] at q;cases q⟩
  . exact ⟨o2,e2,λv q=>by rw [d2] at q;cases q⟩
 keep:=λi h h' st k=>by
  obtain ⟨Q,U,⟨x,y,Y⟩,q1,q2⟩:=st;exact ⟨k z (by simp) _ Q,k TI (by simp) _ U,⟨x,y,k TO (by simp) _ Y⟩,q1.at λo e=>k J (by simp) o e,q2.at λo e=>k L (by simp) o e⟩
 item:=by
  intro X hP hw hK hc i j s σ H E I hf st hg;subst hP hw hK;obtain ⟨⟨l,m⟩,g1,g2⟩:=hg;obtain ⟨mq,p,p1,_⟩:=I.list l;obtain ⟨Ad,r,p2,_⟩:=I.list m;have hx:N[i]?=some N[i]:=cU g1;have hy:O[i]?=some O[i]:=cU g2;obtain ⟨u,hu,ru⟩:=p.get hx;obtain ⟨v,hv,rv⟩:=r.get hy;obtain ⟨za,zb,B⟩:=st.to;refine wpAny_pyNext_zip_item D st.hz st.ti B st.h1 st.h2 p1.isList p2.isList (x:=u) (y:=v) (by simpa using hu) (by simpa using hv) λh' a1' a2' a3' a4' hT _ hk=>?_
  have Z':lC h' z TI TO J L a1 a2 (i+1) (i+1) (l6 s.heap.objs.size):=⟨a1',hk _ _ D.TIz D.TITO D.TIi1 D.TIi2 st.ti,⟨_,_,a2'⟩,a3',a4'⟩
  refine ⟨_,rfl,wpAny_letOwnedTupleGo_zip Z'.hz λnk rX d=>?_⟩;have lt: ∀ {c o},s.heap.get? c=some o->c<s.heap.objs.size:=λe=>b6 e
  have mV: ∀c∈[z,TI,TO,J,L],c<s.heap.objs.size:=λc hc=>by
    obtain ⟨Q,U,⟨_,_,Y⟩,⟨_,e1,_⟩,_,e2,_⟩:=st;simp only [bJ,eE,or_false] at hc;rcases hc with rfl|rfl|rfl|rfl|rfl
    . exact lt Q
    . exact lt U
    . exact lt Y
    . exact lt e1
    . exact lt e2
  have nj:H s.heap.objs.size=none:=I.aY.fresh (br _)
  have I1:aA X j σ (aR H s.heap.objs.size (.ak [N[i],O[i]])) {s with heap:=s.heap.push {cls:= .type "tuple",data:= .seq #[u,v]}}:=
    I.laid (t':=s.toks) (λb o e=>bW _ e) (br _) ⟨cY (show 2<=20 by decide) (by decide),[u,v],.cons ru (.cons rv .nil),⟨_,dn _ rfl,rfl,_,rfl⟩⟩
  have f1: ∀b∈[z,TI,TO,J,L],cQ X j (aR H s.heap.objs.size (.ak [N[i],O[i]])) b:=λb a=>⟨by rw [j3 (eB (mV b a))];exact (hf b a).1,(hf b a).2⟩
  have I2:=yB (t':=s.toks) (h':=nk) I1 (λb o a eo=>by
    have zD:b≠z:=λe=>a (by simp [e])
    refine (d.2 b zD).trans ?_
    by_cases zE:b=s.heap.objs.size
    . subst zE;rw [dn _ rfl] at eo;rw [<-eo];exact hT
    . have rR:s.heap.get? b=some o:=by
       rcases Bu eo with ⟨q,_⟩|q
       . exact absurd q zE
       . exact q
      exact hk b o zD (λe=>a (by simp [e])) (λe=>a (by simp [e])) (λe=>a (by simp [e])) rR) f1
  obtain ⟨_,EH,⟨q1,q2,EI⟩,w1,w2⟩:=Z';exact ⟨.ref s.heap.objs.size,_,I2,rfl,⟨_,_,_,nj,hx,hy,rfl,rfl⟩,⟨rX,d.extBut _ _ D.TIz EH,⟨q1,q2,d.extBut _ _ D.TOz EI⟩,w1.extBut d.extBut D.i1z,w2.extBut d.extBut D.i2z⟩,λb a=>(f1 b a).1⟩
 done:=by
  intro X hP hw hK hc i j s σ H E I hf st hg;subst hP hw hK;obtain ⟨⟨l,m⟩,g⟩:=hg;obtain ⟨mq,p,p1,_⟩:=I.list l;obtain ⟨Ad,r,p2,_⟩:=I.list m;have BJ:=p.length;have BK:=r.length;obtain ⟨za,zb,B⟩:=st.to;refine wpAny_pyNext_zip_end (I.ok.hd hc) D st.hz st.ti B st.h1 st.h2 p1.isList p2.isList (g.imp (λg=>by simp;omega) λg=>by simp;omega) λh' hk=>⟨rfl,yB (t':=s.toks) I (λb o a eo=>hk b o (λe=>a (by simp [e])) (λe=>a (by simp [e])) (λe=>a (by simp [e])) (λe=>a (by simp [e])) eo) hf⟩
 self:=λ_ _ _ _ _ st h=>BL st.hz h
section
variable {X:Cx} {elts:List Expr} {n:Nat} {gt p pos:Pos} {e1 e2:Expr} {f1 f2:T4}
def Ye (f1 f2:T4):Sl->ao (List D):=λa=>f1 a>>=λd=>f2 a>>=λe=>match d,e with
 | .ai c,.ai h=> .ok (q9 c h)
 |_,_=> .aj
def Ld (hg:Gl X "zip") (hm:X.mg "zip" =none) (h1:DE X .s e1 f1) (h2:DE X .s e2 f2) (hs:bg [e1,e2] X.env=(false,eval e1 X.env)::bg [e2] X.env:=by exact jm rfl) (Y:bg [e2] X.env=(false,eval e2 X.env)::bg [] X.env:=by exact jm rfl)
  (pb:(dA pos (bg [e2] X.env)).any (·.1)=false:=by exact jF rfl):DI X (.Tuple elts n gt) (.Call (.Name "zip" p) [e1,e2] [] pos) (Ye f1 f2):=by
 have EJ:PE X e1 (tE X.K .s f1):=by with_unfolding_all exact h1
 have EK:PE X e2 (tE X.K .s f2):=by with_unfolding_all exact h2
 with_unfolding_all exact (show PI X (.Tuple elts n gt) (.Call (.Name "zip" p) [e1,e2] [] pos) (tI X.K (Ye f1 f2)) from by
  rintro e s Q H R I ⟨G,H0,c,ds,k,j,q⟩;obtain ⟨d1,c1,j⟩:=jd j;obtain ⟨d2,c2,j⟩:=jd j;have hA:=j8 EJ (j8 EK wF Y) hs;refine Call_ (Ju I hg hm UO (oh (bc (hA pos e s Q H (λvs r=> ∃u v,vs=[u,v]/\aq H r/\aL X.K (Sf G c Q) r u d1/\aL X.K (Sf G c Q) r v d2) I ⟨G,H0,c,d1,k,c1,λu U a r1 _=>⟨G,H0,c,d2,k.am a,c2,λv r s2 r2 _=>⟨u,v,rfl,a.trans s2,r1.am s2,r2⟩⟩⟩) λus a h9=>?_) hs pb));obtain ⟨vs,U,w,r1,u,v,ev,sm,EL,EM⟩:=h9;subst ev;obtain ⟨u1,u2,rfl,EN,zM⟩:=CO r1;have k1:=k.am sm
  split at j
  . rename_i We Wh;cases j;obtain ⟨B,xs,rfl,l,w1,E⟩:=EL.cC;obtain ⟨J,ys,rfl,m,w2,L⟩:=EM.cC;cases EN;cases zM;obtain ⟨mq,Wi,p1,_⟩:=w.list (.of l);obtain ⟨Ad,Wj,p2,_⟩:=w.list (.of m);have EO:B<a.heap.objs.size:=by obtain ⟨o,_,ho,_⟩:=p1;exact b6 ho
    have EQ:J<a.heap.objs.size:=by obtain ⟨o,_,ho,_⟩:=p2;exact b6 ho
    refine call_zip_2 p1.isList p2.isList λh' z1 z2 z3 z4 z5 _ hk=>?_
    have Z:lC h' (a.heap.objs.size+4) (a.heap.objs.size+2) (a.heap.objs.size+3) a.heap.objs.size (a.heap.objs.size+1) B J 0 0 .none:=⟨z1,z2,⟨_,_,z3⟩,z4,z5⟩
    refine BL Z.hz ?_;have I2:aA X e Q U {a with heap:=h'}:=w.kept (t':=a.toks) hk;refine ⟨a.heap.objs.size+4,[a.heap.objs.size+4,a.heap.objs.size+2,a.heap.objs.size+3,a.heap.objs.size,a.heap.objs.size+1],_,_,U,rfl,I2,jbb xs ys (JF EO EQ),Z,λb hb=>?_,?_⟩
    . have N:a.heap.objs.size<=b:=by
       simp only [bJ,eE,or_false] at hb;rcases hb with rfl|rfl|rfl|rfl|rfl<;>first|exact Nat.le_add_right _ _|exact br _
      exact w.eQ N (w.aY.fresh N)
    . refine q _ U (λH=>H B=some (.ai xs)/\H J=some (.ai ys)) sm (λi H' pp=>?_) ⟨l,m⟩ λenv' fR H' fr=>⟨fr.keep B _ l λow=>w1.1 ow,fr.keep J _ m λow=>w2.1 ow⟩
      have BJ:=E.length;have BK:=L.length;have hq:da X.K H' B xs/\da X.K H' J ys:=⟨.of pp.1,.of pp.2⟩
      rw [ZZ];refine ⟨λhi=>⟨hq,by omega,by omega⟩,λd hd x r y=>?_,λhi=>⟨hq,by omega⟩⟩;obtain ⟨p,x',y',hp,mn,ER,rfl,rfl⟩:=y;obtain ⟨dx,dy,ES,ET,rfl⟩:=Z0 _ _ _ _ hd;obtain ⟨d',O,rd⟩:=E.get' mn;obtain ⟨Ww,h,w4⟩:=L.get' ER;rw [ES] at O;cases O;rw [ET] at h;cases h;exact .inr ⟨p,_,_,hp,rfl,rfl,rfl,.cons (rd.aH λ_ z=>z.1) (.cons (w4.aH λ_ z=>z.1) .nil)⟩
  . cases j)
end
def cf {N P:List Str} {a:Scope} (c:a.kind= .function:=by rfl) (d:a.isCoroutine=false:=by rfl) (e:a.isGenerator=false:=by rfl) (h:N.Nodup:=by decide+kernel) (i:N.take P.length=P:=by rfl) (j: ∀x∈P,a.names.lookup x=some .local\/a.names.lookup x=some .cell:=by decide+kernel) (l: ∀y∈a.names,y.2≠ .free:=by decide+kernel):ar N P a:=⟨c,d,e,h,i,j,l⟩
def Dx (K:aC) (c:W0) (x:Str) (st:Stmt) (d:List Str):Prop:= ∃f a,hZ K x x st f a/\c x=some (.ref f)/\Binds K a d []
def BO (K:aC) (p:Addr) (x q:Str) (st:Stmt):Prop:= ∃(e:Value) (h i:Option Addr) (c:Array (Option Value)) (kV d j a l:Value),
 K.lookup p=some ⟨e,h,.func (gK x q (qW st) (jQ st) (jg st) .none kV d j i a l),c⟩/\nT K a q=true
def bj (K:aC) (x:Str) (st:Stmt):Prop:= ∃p:Addr,cg K bM x=some (some (.ref p))/\BO K p x x st/\gj K (.ref p)=true
def Dm (K:aC) (C:Addr) (m q:Str) (st:Stmt) (c:List Str):Prop:= ∃f a,hZ K m q st f a/\Meth K C m f/\Binds K a c []
def i3 (K:aC) (C:Addr) (m q:Str) (st:Stmt):Prop:= ∃p:Addr,lb K (.ref C) m=some (some (.ref p))/\tW K (.ref p)=true/\BO K p m q st/\gj K (.ref p)=true
abbrev Tk (x q:Str) (st:Stmt) (d:List Value) (e:List Str):Prop:= ∀(kV a h:Value) (i:Option Addr) (c j:Value),bindArgs (gK x q (qW st) (jQ st) (jg st) .none kV a h i c j) ⟨d,[]⟩=pure (e.zip d)
section
variable {K:aC} {mg:W0} {x q m:Str} {st:Stmt} {ps:List Str} {h:Heap} {C:Addr}
def BO.fn (l:BO K p x q st) (k:gj K (.ref p)=true) (n: ∀i,i.length=ps.length->Tk x q st i ps): ∃j,hZ K x q st p j/\Binds K j ps []:=by
 obtain ⟨v,w,y,o,kV,r,z,u,ct,l,c⟩:=l;have F:=Hc l c k;exact ⟨_,F,F.binds λa b c d e f i hl=>n i hl a b c d e f⟩
def bj.dx (d:bj K x st) (e:K.In h) (G:h.Ns bM mg) (i: ∀c,c.length=ps.length->Tk x x st c ps):Dx K mg x st ps:=by
 obtain ⟨p,a,l,k⟩:=d;obtain ⟨j,F,B⟩:=l.fn k i;exact ⟨p,j,F,lS e G a,B⟩
def i3.dm (d:i3 K C m q st) (e: ∀c,c.length=ps.length->Tk m q st c ps):Dm K C m q st ps:=by
 obtain ⟨p,a,i,l,k⟩:=d;obtain ⟨j,F,B⟩:=l.fn k e;exact ⟨p,j,F,⟨a,i,k⟩,B⟩
def wG {P:List Value->Prop} {n:Nat} (h: ∀a c,c.length=n->P (a::c)): ∀c,c.length=n+1->P c:=by
 intro c e
 cases c with
 |nil=>cases e
 |cons a r=>exact h a r (BP e)
def Kz {P:List Value->Prop} (h:P []): ∀c,c.length=0->P c:=by
 intro c e
 cases c with
 |nil=>exact h
 |cons a r=>cases e
def fA (h: ∀a,Tk x q st [a] [p]:=by intro _ _ _ _ _ _ _;rfl): ∀c:List Value,c.length=[p].length->Tk x q st c [p]:=wG λa=>Kz (h a)
def lD (h: ∀a b,Tk x q st [a,b] [p,c]:=by intro _ _ _ _ _ _ _ _;rfl): ∀d:List Value,d.length=[p,c].length->Tk x q st d [p,c]:=wG λa=>wG λb=>Kz (h a b)
def ka (h: ∀a b c,Tk x q st [a,b,c] [p,d,e]:=by intro _ _ _ _ _ _ _ _ _;rfl): ∀i:List Value,i.length=[p,d,e].length->Tk x q st i [p,d,e]:=wG λa=>wG λb=>wG λc=>Kz (h a b c)
def tk4 (h: ∀a b c d,Tk x q st [a,b,c,d] [p,e,i,j]:=by intro _ _ _ _ _ _ _ _ _ _;rfl): ∀l:List Value,l.length=[p,e,i,j].length->Tk x q st l [p,e,i,j]:=wG λa=>wG λb=>wG λc=>wG λd=>Kz (h a b c d)
def tk5 (h: ∀a b c d e,Tk x q st [a,b,c,d,e] [p,i,j,l,n]:=by intro _ _ _ _ _ _ _ _ _ _ _;rfl): ∀o:List Value,o.length=[p,i,j,l,n].length->Tk x q st o [p,i,j,l,n]:=wG λa=>wG λb=>wG λc=>wG λd=>wG λe=>Kz (h a b c d e)
end
section
variable {P:bH} {w:World} {K:aC} {mg:W0} {af:Heap}
def qB {st:Stmt} (e:Bool) (d:Dx K mg x st h) (S:ar N h (jg st))
  (i: ∀(f:Addr) (c:Value) (A:bQ) (a:List Env) (s:aM) (H:Hp) (E:XK),aE k (A.deeper (fF x (jg st) s.heap.objs.size f c))->gn (bA fQ P w K mg af N x (jg st) f c A a s H E).kf (jQ st) g):
  Av P w K mg af (k+1) x h e (aD e N.length g):=by
 obtain ⟨f,j,F,m,B⟩:=d;exact Rj e F m S B (i f)
def Le {st:Stmt} (e:Bool) (d:Dx K mg x st h) (S:ar N h (jg st))
  (i: ∀(f:Addr) (c:Value) (A:bQ) (a:List Env) (s:aM) (H:Hp) (E:XK),aE k (A.deeper (fF x (jg st) s.heap.objs.size f c))->eY (bA (fx P w) P w K mg af N x (jg st) f c A a s H E) (jQ st) g):
  ip P w K mg af (k+1) x h e (cv e N.length g):=by
 obtain ⟨f,j,F,m,B⟩:=d;exact Td e F m S B (i f)
def Lf {st:Stmt} (d:Dx K mg x st e) (S:ar N e (jg st)) (h:e.length=n+1) (i:n+1<=N.length)
  (j: ∀(f:Addr) (c:Value) (A:bQ) (a:List Env) (s:aM) (H:Hp) (E:XK),aE k (A.deeper (fF x (jg st) s.heap.objs.size f c))->f9 (bA fQ P w K mg af N x (jg st) f c A a s H E).kf n (jQ st) g):
  ly P w K mg af (k+1) x e n (gy N.length n g):=by
 obtain ⟨f,l,F,m,B⟩:=d;exact TV F m S B h i (j f)
def uN {st:Stmt} (h:Bool) (d:Dm K C m q st i) (j:cg K bM c=some (some (.ref C))/\fm K C) (S:ar N i (jg st))
  (l: ∀(f:Addr) (e:Value) (A:bQ) (a:List Env) (s:aM) (H:Hp) (E:XK),aE k (A.deeper (fF q (jg st) s.heap.objs.size f e))->gn (bA fQ P w K mg af N q (jg st) f e A a s H E).kf (jQ st) g):
  gS P w K mg af (k+1) c m i h (aD h N.length g):=by
 obtain ⟨f,n,F,m,B⟩:=d;exact X9 h F j.1 j.2 m S B (l f)
def jkq {st:Stmt} (d:Dm K C "__init__" q st i) (j:cg K bM c=some (some (.ref C))/\fm K C) (h:mg c=some (.ref C)) (mk:tX K C=true/\gj K (.ref C)=true) (S:ar N i (jg st)) (l:i.length=n+1) (o:n+1<=N.length)
  (p: ∀(f:Addr) (e:Value) (A:bQ) (a:List Env) (s:aM) (H:Hp) (E:XK),aE k (A.deeper (fF q (jg st) s.heap.objs.size f e))->ir (bA fQ P w K mg af N q (jg st) f e A a s H E).kf 0 (jQ st) g):
  rZ P w K mg af (k+1) c n (nD N.length n g):=by
 obtain ⟨f,r,F,m,B⟩:=d;exact jkr F j.1 h ⟨mk.1,m.at_,m.fn,mk.2⟩ S B l o (p f)
def UW {st:Stmt} (a:Bool) (d:Dx K mg x st c):Av P w K mg af k x c a (λ_=> .aj):=by
 obtain ⟨f,e,F,m,B⟩:=d;exact Rk a F m B
def Lg {st:Stmt} (d:Dx K mg x st a) (c:a.length=n+1):ly P w K mg af k x a n (λ_ _ _=> .aj):=by
 obtain ⟨f,e,F,m,B⟩:=d;exact TW F m B c
end
section
variable {X:Cx} {a b e:Expr} {f f1 f2:T4} {d:Pos} {x:Str}
def vb (i:Nat) (h:X.N[i]?=some x:=by rfl) (j:fL X.env.scope x:=by exact du rfl) (l:Y6 x:=by decide) (c:Y5 x:=by decide):DE X .b (.Name x d) (ae i):=DE.b (dv i h j l c)
def ib {j}:DE X .b (.Constant (.int i) j d) (cI i):=Dk
def dL {j}:DE X .s (.Constant (.int i) j d) (cI i):=Dk
def ob (c:cp X (gI h) r) (i:ej X.K r g) (j:DE X .b a f1) (l:DE X .b b f2):DE X .b (.BinOp a h b d) (al f1 f2 g):=sL c i j l
def gA (c:cp X (gI h) r) (i:ej X.K r g) (j:DE X .b a f1) (l:DE X .b b f2):DE X .s (.BinOp a h b d) (al f1 f2 g):=sL c i j l
def Zk (c:DE X .b a f1) (h:DE X .b b f2):DE X .b (.BinOp a .Mod b d) (al f1 f2 bf):=sL Zf Zj c h
def Ae (c:DE X .b a f1) (h:DE X .b b f2):DE X .b (.BinOp a .Pow b d) (al f1 f2 fJ):=sL NU P4 c h
def VU (c:DE X .b a f1) (h:DE X .b b f2):DE X .b (.BinOp a .FloorDiv b d) (al f1 f2 bZ):=sL Qa Qb c h
def gi (c:Gl X x) (j: ∃t,X.mg x=some (.int i t)) (l:Y6 x:=by decide):DE X .b (.Name x d) (cI i):=j.elim λ_ h=>Hh c h l
def gis (c:Gl X x) (j: ∃t,X.mg x=some (.int i t)) (l:Y6 x:=by decide):DE X .s (.Name x d) (cI i):=j.elim λ_ h=>Hh c h l
def gst (c:Gl X x) (i: ∃t,X.mg x=some (.str y t)) (j:y.length<=aS:=by decide) (l:Y6 x:=by decide):DE X .b (.Name x d) (cS y):=i.elim λ_ h=>Pf c h j l
end
def qX (n:Nat) (t:T3) (g:T2):Sl->ao aW:=λc=>match n with
 |0=> .aj
 |n+1=>match t c with
  | .ok b=>if b=true then g c>>=λo=>match o with
    | .nx a=>qX n t g a
    | .ct a=>qX n t g a
    | .bk a=> .ok (.nx a)
    | .rt e d=> .ok (.rt e d)
   else .ok (.nx c)
  |_=> .aj
def jdl (n:Nat) (hp:pR (model X.prog X.w) X.A X.env X.xe) (hc:DT X c t) (hb:eY X y g):mw X (.While c y [] pos) (qX n t g):=by
 with_unfolding_all exact (
  PS.imp (vN hp hc hb) λE σ H=>by
   rintro ⟨G,I,p,k,q⟩;generalize B:qX n t g p=res at q;refine ⟨λm r Q=> ∃a,ay X.K G I a r Q/\be p σ H a r Q/\qX m t g a=res,⟨n,p,k,be.refl (aq.refl H),B⟩,?_⟩;rintro m r Q ⟨a,U,f',e'⟩
   have J:res≠ .aj:=by
    rintro rfl;rcases q with ⟨o,e,_⟩| ⟨c,e,_⟩<;>cases e
   cases m with
   |zero=>exact (J e'.symm).elim
   |succ m=>
    have e1:(match t a with
     | .ok b=>if b=true then g a>>=λo=>match o with
        | .nx a=>qX m t g a
        | .ct a=>qX m t g a
        | .bk a=> .ok (.nx a)
        | .rt L d=> .ok (.rt L d)
      else .ok (.nx a)
     |_=> .aj)=res:=e'
    cases N:t a with
    |exc c=>rw [N] at e1;exact (J e1.symm).elim
    |aj=>rw [N] at e1;exact (J e1.symm).elim
    |ok b=>
     rw [N] at e1;refine ⟨G,I,a,b,U,N,λH1 O=>?_⟩
     cases b with
     |false=>
      have e2:=e1.symm;rw [if_neg eh];rcases q with ⟨o,e,q⟩| ⟨c,e,_⟩
      . rw [e2] at e;cases e;exact q r H1 (U.am O) (f'.trans (be.refl O))
      . rw [e2] at e;cases e
     |true=>
      rw [if_pos rfl]
      have u:(g a>>=λo=>match o with
        | .nx a=>qX m t g a
        | .ct a=>qX m t g a
        | .bk a=> .ok (.nx a)
        | .rt L d=> .ok (.rt L d))=res:=e1
      refine ⟨λi Y=> ∃h,ay X.K G I h i Y/\be p σ H h i Y/\qX m t g h=res,λi Y z=>⟨m,tZ m,z⟩,G,I,a,U.am O,?_⟩;have w:=f'.trans (be.refl O)
      cases eg:g a with
      |aj=>rw [eg] at u;exact (J u.symm).elim
      |exc c1=>
        rw [eg] at u;have v:=u.symm;rcases q with ⟨o,e,_⟩| ⟨c,e,th⟩
        . rw [v] at e;cases e
        . rw [v] at e;cases e;exact .inr ⟨c1,rfl,th⟩
      |ok o1=>
        rw [eg] at u;refine .inl ⟨o1,rfl,?_⟩
        cases o1 with
        |nx h=>exact λi H3 j l=>⟨h,j,w.trans l,u⟩
        |ct h=>exact λi H3 j l=>⟨h,j,w.trans l,u⟩
        |bk h=>
          have v:=u.symm;rcases q with ⟨o,e,q⟩| ⟨c,e,_⟩
          . rw [v] at e;cases e;exact λi H3 j l=>q i H3 j (w.trans l)
          . rw [v] at e;cases e
        |rt L dd=>
          have v:=u.symm;rcases q with ⟨o,e,q⟩| ⟨c,e,_⟩
          . rw [v] at e;cases e;exact q
          . rw [v] at e;cases e)
def tAX (X:Cx) (l:Lv) (f:T1):TA:=λd H Q=> ∃G j a,ay X.K G j a d H/\
 ((∃h,f a= .ok h/\ ∀i e,aq H e->au X.K (l.A G a d) e i h->Q i e)\/ ∃c,f a= .exc c/\lu X c d H)
@[irreducible] def BQ (X:Cx) (l:Lv) (a:List Expr) (f:T1):Prop:=PA X a (tAX X l f)
section
variable {X:Cx} {e:Expr} {es:List Expr} {st:Stmt} {pos:Pos} {l:Lv} {f:T4} {g:T1}
def Lh:BQ X l [] ag:=by
 with_unfolding_all exact (PA.imp wF λh H Q=>by
  rintro ⟨G,i,d,k,q⟩;rcases q with ⟨j,a,q⟩| ⟨c,a,_⟩
  . cases a;exact q [] H (aq.refl H) .nil
  . cases a)
def ZB (w:fK X l e f) (y:BQ X l es g) (z:Vs X e es:=by exact jm rfl):BQ X l (e::es) (jb f g):=by
 with_unfolding_all exact (
  PA.imp (j8 w y z) λI H Q=>by
   rintro ⟨G,h,a,k,q⟩;rcases q with ⟨J,n,q⟩| ⟨c,n,p⟩
   . obtain ⟨d,e1,e2⟩:=jd n;obtain ⟨i,m,o⟩:=jd e2;cases o;exact ⟨G,h,a,k,.inl ⟨d,e1,λv B j r _=>⟨G,h,a,k.am j,.inl ⟨i,m,λL E u r2=>q _ E (j.trans u) (.cons (r.am u) r2)⟩⟩⟩⟩
   . rcases wC n with e1| ⟨d,e1,e2⟩
     . exact ⟨G,h,a,k,.inr ⟨c,e1,p⟩⟩
     . rcases wC e2 with m| ⟨i,m,o⟩
       . exact ⟨G,h,a,k,.inl ⟨d,e1,λv B j r _=>⟨G,h,a,k.am j,.inr ⟨c,m,p.am j⟩⟩⟩⟩
       . cases o)
def Li {u} (h:BQ X .s es g):fK X .t (.Tuple es u pos) (aN g):=by
 with_unfolding_all exact (
  PE.imp (GY h) λz H Q=>by
   rintro ⟨G,m,a,k,q⟩;rcases q with ⟨d,i,q⟩| ⟨c,i,v⟩
   . obtain ⟨n,e1,e2⟩:=jd i;obtain ⟨w,y⟩:=ju e2;cases y;refine ⟨G,m,a,k,.inl ⟨n,e1,λB E o r=>⟨by rw [r.length];exact w,λp j=>?_⟩⟩⟩;exact q _ _ (o.trans (aq.aR j)) (.ak jD (r.am (aq.aR j))) (qH o j)
   . rcases wC i with e1| ⟨n,e1,e2⟩
     . exact ⟨G,m,a,k,.inr ⟨c,e1,v⟩⟩
     . unfold aV at e2
       split at e2<;>cases e2)
def jh0 (i:Nat) {g:T2} (h:mw X st g):mw X st (eN i g):=by
 with_unfolding_all exact (PS.imp h λE c H=>by
  rintro ⟨G,d,a,k,q⟩;refine ⟨G,d,cJ i a,k.cJ i,?_⟩;have f:be a c H (cJ i a) c H:=⟨λ_ _ e _=>e,λb o=> .inl (Xl o),λ_ e=>e⟩
  rcases q with ⟨o,j,q⟩|z
  . exact .inl ⟨o,j,zZ f q⟩
  . exact .inr z)
end
section
variable {X:Cx} {e:Expr} {x:Str} {p pos apos cj:Pos} {f:T4}
def jaQ (i:Nat) (he:fK X .s e f) (hN:X.N[i]?=some x:=by rfl) (hv:fL X.env.scope x:=by exact du rfl)
   (hd:Y6 x:=by decide) (J:Y5 x:=by decide)
   (l:l7 (.Name x p) "append" X.env (eval (.Name x p) X.env)=eval (.Name x p) X.env:=by rfl)
   (u:((dA cj (bg [e] X.env)).all (λx=>!x.1)&&(fV cj (fW [] X.env)).all (λx=>x.1.isSome)
     &&decide ([e].length+([]:List fO).length+(if ([]:List fO).isEmpty then 0 else 1)<30))=true:=by exact xt rfl rfl)
   (m:(apos.endLine==cj.line)=true:=by rfl) (O:bg [e] X.env=(false,eval e X.env)::bg [] X.env:=by exact jm rfl) (j:(dA cj (bg [] X.env)).any (·.1)=false:=by exact jF rfl)
   (L:g8 (.Call (.Attribute (.Name x p) "append" apos) [e] [] cj) none pos.line X.env=pure false:=by rfl):
   mw X (.Expr (.Call (.Attribute (.Name x p) "append" apos) [e] [] cj) pos) (jY i f):=by
 with_unfolding_all exact (
  PS.imp (Kc (kr Ba C7 PySem.F.type_list_append Xs (wE hN hv hd J) (j8 he wF O) l u m O j) L) λE Q H=>by
   rintro ⟨G,H0,h,k,q⟩;have N: ∃r,dw i h= .ok r/\jY i f h=(f h>>=λd=>aV (r.length<aS) (.ok (.nx (h.set i (.aw (.ai (r++[d]))))))):=by
     cases e1:dw i h with
     |ok r=>exact ⟨r,rfl,by unfold jY;rw [e1];rfl⟩
     |exc c=>unfold dw at e1;split at e1<;>cases e1
     |aj=>
       have z:jY i f h= .aj:=by unfold jY;rw [e1];rfl
       rcases q with ⟨o,n,_⟩| ⟨c,n,_⟩<;>(rw [z] at n;cases n)
   obtain ⟨r,e1,e2⟩:=N;rw [e2] at q;have U:=J9 e1;obtain ⟨a,Y,ha,hx,rs⟩:=J8 k U;refine ⟨.ref a,ha,.inl ⟨rfl,Y,.of hx⟩,G,H0,h,k,?_⟩;rcases q with ⟨o,n,q⟩| ⟨c,n,th⟩
   . obtain ⟨d,B,w⟩:=jd n;obtain ⟨hz,e5⟩:=ju w;cases e5;refine .inl ⟨d,B,λv H1 I r1 _=>?_⟩;have y:=I _ _ hx;refine ⟨a,Y,v,rfl,rfl,y,by rw [rs.length];exact hz,?_⟩;have W:=(k.am I).write U ha y ((rs.am I).append (.cons r1 .nil));exact q Q _ W.1 (W.2.am I)
   . rcases wC n with B| ⟨d,B,w⟩
     . exact .inr ⟨c,B,th.b Q H k.af⟩
     . unfold aV at w
       split at w<;>cases w)
end
structure dW (P:bH) (w:World) (K:aC) (mg:W0) (af:Heap) (k:Nat) (c m:Str) (ps:List Str) (pC:List D) (fr:Bool) (F:T0):Prop where
 ex: ∃C f fd Af pD,bR P w K mg af (fx P w) k f fd ps (Bw K fr ps.length F)/\cg K bM c=some (some (.ref C))/\fm K C/\Meth K C m f/\Binds K fd ps pD/\aI Af pD/\ ∀A H,au K A H Af pC
def dW.mono {K:aC} (h:dW P w K mg af j c m l d n F) (o:j<=k):dW P w K mg af k c m l d n F:=
 let ⟨C,f,p,e,i,a,b⟩:=h.ex
 ⟨C,f,p,e,i,a.mono o,b⟩
def Jd (c m:Str) (n:Nat) (a:List D) (F:T0) (j:T4) (g:T1):Sl->ao D:=λd=>match j d with
 | .ok (.obj e h l)=>if e=c/\h.contains m=false then match g d with
   | .ok i=>aV (i.length+a.length+1=n) (F (.obj e h l::(i++a)))
   |_=> .aj
  else .aj
 |_=> .aj
def jcn (h:Jd c m n a F l g d≠ .aj): ∃e j i,l d= .ok (.obj c e j)/\e.contains m=false/\g d= .ok i/\i.length+a.length+1=n/\Jd c m n a F l g d=F (.obj c e j::(i++a)):=by
 unfold Jd at h ⊢
 split at h
 . rename_i r e j e1
   split at h
   . rename_i q;obtain ⟨rfl,o⟩:=q
     split at h
     . rename_i i e2;unfold aV at h
       split at h
       . rename_i p;refine ⟨e,j,i,e1,o,e2,p,?_⟩;rw [if_pos ⟨rfl,o⟩];exact jl p
       . exact (h rfl).elim
     . exact (h rfl).elim
   . exact (h rfl).elim
 . exact (h rfl).elim
section
variable {X:Cx} {k n:Nat} {c m:Str} {ps:List Str} {pC:List D} {fr:Bool} {F:T0} {o e:Expr} {es:List Expr} {pos apos:Pos} {fo:T4} {g:T1} {pl:Sem Bool}
def Lj {v:L2.St} (F:bR X.prog X.w X.K X.mg X.af y k f z ps B) (J:aE k X.A) (L:Binds X.K z ps a) (w:aI d a)
  (I:aA X i v H s) (r:aI vs j) (h:B (vs++d) H Q E) (N: ∀e p,y X.stack H s E e p->X.xe e p):wpAny (model X.prog X.w) X.A (call (.ref f) j) (EP X i v Q) X.xe s:=by
 have O:(j++a).length=ps.length:=by rw [<-F.len _ _ _ _ h,cP,cP,r.length,w.length]
 have q:=L s j I.dP O;refine wpAny_call (o8 (F.run X.A X.stack s H ⟨j,[]⟩ (j++a) (vs++d) Q E J I.m4 q (r.append w) h) λr p l=>?_)
 cases r with
 |error e=>exact N e p l
 |ok U=>
  cases U with
  |ret u=>exact I.after l
  |next=>exact fU l
  |brk=>exact fU l
  |cont=>exact fU l
def dW.cr {l:Lv} (hl: ∀ {H:Hp} {v:V},(fr=true->bh H v)->l.T H v) (A:dW X.prog X.w X.K X.mg X.af k c m ps pC fr F) (hr:aE k X.A) (ho:DE X .s o fo) (ha:DA X .s (e::es) g) (hA: ∀ {G:WZ} {env:Sl} {w:L2.St} {c:Addr},Sf G env w c->l.A G env w c:=by exact λz=>z) (hn:ps.length=n:=by rfl)
   (BR:Vs X e es:=by exact jm rfl) (pb:Vr X pos es:=by exact jF rfl)
   (ht:eval (.Call (.Attribute o m apos) (e::es) [] pos) X.env=(do
     let ov<-eval o X.env
     iJ apos.atName
     let (f,first)<-gq [ov] (o5 ov m pl)
     callWith pos f first (dA pos (bg (e::es) X.env)) (fV pos (fW [] X.env))):=by rfl):fK X l (.Call (.Attribute o m apos) (e::es) [] pos) (Jd c m n pC F fo g):=by
 subst hn;obtain ⟨C,f,fd,N,pD,h1,h2,h3,h4,h5,h6,h7⟩:=A.ex
 with_unfolding_all exact (by
 rintro h s w H Q I ⟨O,H0,env,kk,q⟩
 have ns:Jd c m ps.length pC F fo g env≠ .aj:=by
   intro z;rcases q with ⟨o,J,_⟩| ⟨c,J,_⟩<;>(rw [z] at J;cases J)
 obtain ⟨U,Y,ds,e1,e2,e3,e4,e5⟩:=jcn ns;rw [e5] at q;refine C1 (bc ((show PE X o (tE X.K .s fo) from ho) h s w H (λv H1=>aq H H1/\aL X.K (Sf O env w) H1 v (.obj c U Y)) I ⟨O,H0,env,_,kk,e1,λv H' y r' _=>⟨y,r'⟩⟩) λu s1 h9=>?_) ht;obtain ⟨x,H1,I1,rx,i,r1⟩:=h9;obtain ⟨a,C',dx,fs,rfl,hx,_,hc,hn,rs⟩:=r1.objE;rw [h2] at hc;cases hc;obtain rfl:u=di a:=rx;refine Wb I1 hx h3 h4 (Js (by rw [hn];exact e2)) ?_;refine t4 I.ok.mod.oa h4.kp (bc ((show PA X (e::es) (tA X.K .s g) from ha) pos h s1 w H1 (λY L=>aq H1 L/\au X.K (Sf O env w) L Y ds) I1 ⟨O,H0,env,ds,kk.am i,e3,λY H' y r'=>⟨y,r'⟩⟩) λus s2 ⟨ws,L,I2,r,j,rws⟩=>⟨I2.dP,?_⟩) BR pb;have p:au X.K (Sf O env w) L (.ref a::(ws++N)) (.obj c U Y::(ds++pC)):= .cons (r1.am j) (rws.append (h7 _ _));have B:(V.ref a::(ws++N)).length=ps.length:=by rw [p.length,bO,cP];omega
 rcases q with ⟨d,J,q⟩| ⟨c',J,th⟩
 . refine Lj (vs:= .ref a::ws) (E:=λ_ _ _=>False) h1 hr h5 h6 I2 (.cons rfl r) ⟨_,_,B,p,.inl ⟨d,J,λv H3 s3 r3 nt=>?_⟩⟩ λe y cx=>?_
   . exact q v H3 (i.trans (j.trans s3)) (r3.aH λc z=>hA (z.elim (λz=>kk.new c (aq.free i (aq.free j z))) λz=>z)) (hl λz=>((nt z).am j).am i)
   . obtain ⟨_,_,_,_,_,_,_,_,_,_,_,_,_,z⟩:=cx;exact z.elim
 . refine Lj (vs:= .ref a::ws) (E:=XE X.K c' L) h1 hr h5 h6 I2 (.cons rfl r) ⟨_,_,B,p,.inr ⟨c',J,λC H' hC y=>⟨C,rfl,hC,y⟩⟩⟩ λe y cx=>?_
   exact th h L s2 e y (i.trans j) I2 cx)
end
def tm (K:aC) (C:Addr) (m q:Str) (st:Stmt) (o:List Str) (e:List D):Prop:= ∃(f:Addr) (p:Value) (r i:Option Addr) (h:Array (Option Value)) (j kV c l a n:Value) (dX:List V) (d:List Value),
 K.lookup f=some ⟨p,r,.func (gK m q (qW st) (jQ st) (jg st) j kV c l i a n),h⟩/\nT K a q=true/\Meth K C m f/\Binds K (gK m q (qW st) (jQ st) (jg st) j kV c l i a n) o d/\aI dX d/\ ∀A H,au K A H dX e
def Dm.x {K:aC} {st:Stmt} (d:Dm K C m q st ps):tm K C m q st ps []:=by
 obtain ⟨f,p,F,i,B⟩:=d;obtain ⟨j,l,kV,a,n,o,c,ct,e,rfl,lk,h⟩:=F.ex;exact ⟨f,j,l,o,e,_,kV,a,n,c,ct,[],[],lk,h,i,B,.nil,λ_ _=> .nil⟩
section
variable {P:bH} {w:World} {K:aC} {mg:W0} {af:Heap}
def Lk {st:Stmt} (U:Bool) (d:tm K C m q st Y p) (l:cg K bM c=some (some (.ref C))/\fm K C) (S:ar N Y (jg st))
   (hb: ∀(f:Addr) (j:Value) (A:bQ) (i:List Env) (s:aM) (H:Hp) (E:XK),aE k (A.deeper (fF q (jg st) s.heap.objs.size f j))->eY (bA (fx P w) P w K mg af N q (jg st) f j A i s H E) (jQ st) g):
   dW P w K mg af (k+1) c m Y p U (cv U N.length g):=by
 obtain ⟨f,oc,od,an,sA,dV,kV,doc,pm,j,ct,dX,u,lk,y,me,B,r1,r2⟩:=d;refine ⟨C,f,_,dX,u,?_,l.1,l.2,me,B,r1,r2⟩
 with_unfolding_all exact (by
 refine AT lk y S (λvs H Q E ⟨B,ds,hl,_⟩=>hl) λA i s H vs Q E hr h=>?_
 obtain ⟨B,ds,hl,r,q⟩:=h;refine ⟨_,hb f j A i s H E hr,?_⟩;have J:=Zx (N:=N) r;rcases q with ⟨d,e,q⟩| ⟨c,e,q⟩
 . rcases ZU e with ⟨DL,z,hf⟩| ⟨rfl,env',z⟩
   . exact ⟨_,H,_,J,.inl ⟨_,z,λv n s r nt=>q v n s r λhh=>nt (hf hh)⟩⟩
   . exact ⟨_,H,_,J,.inl ⟨_,z,λfR n k' f'=>q .aU n k'.af .aU λ_ a e=>by cases e⟩⟩
 . refine ⟨_,H,_,J,.inr ⟨c,Ka e,λo σ H1 s1 h e C vs L l I hx=>Z7 I hx (q C H1 l L),λσ H1 L o H2 s1 e s' O I cx=>KA I cx λC n z=>?_⟩⟩;obtain ⟨C',e',l,s3⟩:=z;cases e'
   exact q C n l (L.trans (O.trans s3)))
end
def i4 (K:aC) (C:Addr) (m q:Str) (st:Stmt) (i:Int):Prop:= ∃(p T:Addr) (j l:Value) (o r d:Option Addr) (e a:Array (Option Value)) (kV h u c v:Value) (t:Tok) (n:Nat),
 lb K (.ref C) m=some (some (.ref p))/\tW K (.ref p)=true/\K.lookup p=some ⟨j,o,.func (gK m q (qW st) (jQ st) (jg st) (.ref T) kV h u r c v),e⟩/\nT K c q=true/\gj K (.ref p)=true/\
 K.lookup T=some ⟨l,d,.seq #[.int i t] n,a⟩
abbrev Ll (x q:Str) (st:Stmt) (i:Int) (j:List Value) (l:List Str) (m:Tok->List Value):Prop:= ∀(T:Addr) (kV a d:Value) (e:Option Addr) (c h:Value) (t:Tok),∃k:Option (Array Value)->Sem (List (Str×Value)),
 bindArgs (gK x q (qW st) (jQ st) (jg st) (.ref T) kV a d e c h) ⟨j,[]⟩=(seqItems? (gK x q (qW st) (jQ st) (jg st) (.ref T) kV a d e c h).defaults>>=k)/\k (some #[.int i t])=pure (l.zip (m t))
section
variable {K:aC} {C:Addr} {m q:Str} {st:Stmt} {i:Int} {p1 p2 p3:Str}
def i4.d2 (d:i4 K C m q st i) (w: ∀a b,Ll m q st i [a,b] [p1,p2,p3] (λt=>[a,b,.int i t]):=by intro _ _ _ _ _ _ _ _ _ _;exact ⟨_,rfl,rfl⟩):tm K C m q st [p1,p2,p3] [.int i]:=by
 obtain ⟨p,T,y,J,z,o,B,h,r,kV,c,u,e,ct,t,n,E,H,lk,j,kp,lt⟩:=d;refine ⟨p,y,z,o,h,_,kV,c,u,e,ct,[.int i],[.int i t],lk,j,⟨E,H,kp⟩,λs v I hl=>?_,.cons ⟨t,rfl⟩ .nil,λ_ _=> .cons (.int i) .nil⟩;have l:v.length=2:=by simpa using hl
 match v,l with
 | [a,b],_=>
  obtain ⟨k,h1,h2⟩:=w a b T kV c u o e ct t;exact .of_defaults rfl (I _ _ lt) rfl h1 h2
def i4.d3 (d:i4 K C m q st i) (v: ∀a b c,Ll m q st i [a,b,c] [p1,p2,p3] (λ_=>[a,b,c]):=by intro _ _ _ _ _ _ _ _ _ _ _;exact ⟨_,rfl,rfl⟩):tm K C m q st [p1,p2,p3] []:=by
 obtain ⟨p,T,w,J,y,o,z,j,r,kV,e,u,h,ct,t,n,B,E,lk,l,kp,lt⟩:=d;refine ⟨p,w,y,o,j,_,kV,e,u,h,ct,[],[],lk,l,⟨B,E,kp⟩,λs H I hl=>?_,.nil,λ_ _=> .nil⟩
 match H,hl with
 | [a,b,c],_=>
  obtain ⟨k,h1,h2⟩:=v a b c T kV e u o h ct t;exact .of_defaults rfl (I _ _ lt) rfl h1 h2
end
def jh3 (p: ∀r v,gn (Cx.lv X r v) c g):DS X (.Try c (d::w) [] [] y) g:=by
 with_unfolding_all exact (by
  rintro a s z H E I ⟨G,B,n,o,k,J,q⟩
  refine wpAny_Try_except (lM ((p (λe i=>wpAny (model X.prog X.w) X.A (noteFrame e X.env) (λ_ j=>wpAny (model X.prog X.w) X.A (setFlight e none) (λ_ l=>
   wpAny (model X.prog X.w) X.A (handleBy e X.env (d::w)) (SP X a E) X.xe l) X.xe j) X.xe i) a) [] s z H E (IU I) ⟨G,B,n,o,k,J,q⟩) (λf L m=>?_) λe L h=>h)
  cases f with
  |next=>exact sw (xI m)
  |brk=>exact xI m
  |cont=>exact xI m
  |ret u=>exact xI m)
abbrev FJ:=Sl->ao (D×Sl)
end M
namespace M
open PySem
end M
namespace M
open PySem PySem.Spec L2
open PyProof.Rows hiding St
section
variable {X:Cx} {c:Expr} {rest Y:List Stmt} {Q:Pos} {U g2:T2} {t:T3}
def jfj:iX X [] bo:=by
 with_unfolding_all exact (dk.imp Xf λE d H=>by
  rintro ⟨G,h,e,k,q⟩;rcases q with ⟨o,a,q⟩| ⟨c,a,i⟩
  . cases a;exact q d H k (be.refl (aq.refl H))
  . cases a)
def i5 (t:T3) (U g2:T2):Sl->ao aW:=λa=>match t a with
 | .ok true=>U a>>=λo=>match o with
  | .nx d=>nz (g2 d)
  |o=> .ok o
 | .ok false=>g2 a
 |_=> .aj
def ve (w:DT X c t) (y:iX X Y U) (B:iX X rest g2):iX X (.If c Y [] Q::rest) (i5 t U g2):=by
 with_unfolding_all exact (dk.imp (Q8 (Vy w y Xf) B) λE σ H=>by
  rintro ⟨G,j,a,k,q⟩;have r: ∃b,t a= .ok b/\i5 t U g2 a=if b=true then (U a>>=λo=>match o with
   | .nx l=>nz (g2 l)
   |o=> .ok o) else g2 a:=by
   cases e1:t a with
   |ok b=>exact ⟨b,rfl,by unfold i5;rw [e1];cases b<;>rfl⟩
   |_=>
     have z:i5 t U g2 a= .aj:=by unfold i5;rw [e1]
     rcases q with ⟨o,e,_⟩| ⟨c,e,_⟩<;>(rw [z] at e;cases e)
  obtain ⟨b,e1,e2⟩:=r;rw [e2] at q;refine ⟨G,j,a,b,k,e1,λH' s=>?_⟩
  cases b with
  |true=>
   rw [if_pos rfl] at q ⊢;rcases q with ⟨o,e,q⟩| ⟨c,e,u⟩
   . obtain ⟨m,n,h⟩:=jd e;have p:=zZ (be.refl s) q;refine ⟨G,j,a,k.am s,.inl ⟨m,n,?_⟩⟩
     cases m with
     |nx i=>exact λI J L N=>⟨G,j,i,L,.inl ⟨o,VW h,zZ N p⟩⟩
     |rt O d=>cases h;exact p
     |bk v=>cases h;exact p
     |ct v=>cases h;exact p
   . rcases wC e with n| ⟨m,n,h⟩
     . exact ⟨G,j,a,k.am s,.inr ⟨c,n,u.am s⟩⟩
     . cases m with
       |nx i=>exact (Ku h).elim
       |rt O d=>cases h
       |bk v=>cases h
       |ct v=>cases h
  |false=>
   rw [if_neg eh] at q ⊢;rcases q with ⟨o,e,q⟩| ⟨c,e,u⟩
   . exact ⟨G,j,a,k.am s,.inl ⟨o,e,zZ (be.refl s) q⟩⟩
   . exact ⟨G,j,a,k.am s,.inr ⟨c,e,u.am s⟩⟩)
end
def nE:D->D->ao D
 | .ai a,.int k=>aV (-(2^63)<=k/\k<2^63/\a.length*k.toNat<=aS) (.ok (.ai (eP k.toNat a).flatten))
 |_,_=> .aj
def Lm {K:aC}:A4 K vn nE:=by
 intro A x y H a b d Q j m e q;unfold nE at e
 split at e
 . obtain ⟨⟨n,o,r⟩,e2⟩:=ju e;cases e2;cases m.cM;obtain ⟨l,u,rfl,v,_,i⟩:=j.cC;refine ⟨l,_,u,rfl,rfl,v,n,o,by rw [i.length];exact r,λp h=>q _ _ (aq.aR h) ?_ (qH (aq.refl H) h)⟩;exact .ai jD (.inl h) (((i.low.rep _).laid h).aH λc z=>⟨.inr z.1,z.2⟩)
 . cases e
theorem Ln {st:Stmt} (h: ∀a b c d e f,Tk x q st [a,b,c,d,e,f] [p,i,j,l,m,n]:=by intro _ _ _ _ _ _ _ _ _ _ _ _;rfl): ∀o:List Value,o.length=[p,i,j,l,m,n].length->Tk x q st o [p,i,j,l,m,n]
 | [a,b,c,d,e,f],_=>h a b c d e f
end M
namespace M
open PySem PySem.Spec L2
open PyProof.Rows hiding St
open PySem.SeqAt
section
variable {X:Cx}
def g4 (t u w z:TZ):D->Sl->ao Sl:=λd h=>match d with
 | .ak [a,b,c,e]=>t a h>>=λh=>u b h>>=λh=>w c h>>=λh=>z e h
 |_=> .aj
def jia {a b c d:Expr} (hc:X.bT=true) (h1:DG X a t) (h2:DG X b u) (h3:DG X c w) (h4:DG X d z)
   (hs:(eD [a,b,c,d] X.env).map (·.2)=iK a X.env::(eD [b,c,d] X.env).map (·.2):=by rfl) (p:(eD [b,c,d] X.env).map (·.2)=iK b X.env::(eD [c,d] X.env).map (·.2):=by rfl)
   (y:(eD [c,d] X.env).map (·.2)=iK c X.env::(eD [d] X.env).map (·.2):=by rfl) (B:(eD [d] X.env).map (·.2)=iK d X.env::(eD [] X.env).map (·.2):=by rfl)
   (hn:(eD [a,b,c,d] X.env).length=4:=by rfl) (E:(eD [a,b,c,d] X.env).findIdx? (·.1)=none:=by rfl):DG X (.Tuple [a,b,c,d] k pos) (g4 t u w z):=by
 with_unfolding_all exact (
  PG.imp (Cy hc (xK h1 (xK h2 (xK h3 (xK h4 kq B) y) p) hs) hn E) λv σ H Q=>by
   rintro ⟨G,m,I,d,l,k,r,e,q⟩;unfold g4 at e
   split at e
   . obtain ⟨h,e1,e2⟩:=jd e;obtain ⟨i,e3,e4⟩:=jd e2;obtain ⟨j,e5,e6⟩:=jd e4;obtain ⟨a,xs,rfl,ha,J⟩:=r.dR;obtain ⟨v1,_,rfl,r1,J⟩:=J.eM;obtain ⟨U,L,n,rfl,r2,r3,r4⟩:=J.three;exact ⟨a,_,rfl,.of ha,rfl,v1,[U,L,n],rfl,G,m,I,_,h,k,r1,e1,λoD k1 o=>⟨U,[L,n],rfl,G,m,h,_,i,k1,o.rep k r2,e3,λσ2 k2 N=>⟨L,[n],rfl,G,m,i,_,j,k2,(o.trans N).rep k r3,e5,λσ3 k3 Y=>⟨n,[],rfl,G,m,j,_,l,k3,((o.trans N).trans Y).rep k r4,e6,λO k4 f4=>⟨rfl,q O k4 (((o.trans N).trans Y).trans f4)⟩⟩⟩⟩⟩
   . cases e)
def Ag (i:Nat) (c e:T4):Sl->ao bL:=λa=>lq i a>>=λq=>e a>>=λd=>c a>>=λh=>match eX h with
 |some k=>aV (q.1.length<aS) (.ok (.nx (a.set i (.aw (.aP (QE q.1 k) (QF q.1 q.2 k d))))))
 |none=> .aj
def jh1 (i:Nat) (Y:X.A.units+1<cLine) (hk:DE X l1 e1 fk) (hv:DE X .s e2 fv) (hN:X.N[i]?=some x:=by rfl) (w:fL X.env.scope x:=by exact du rfl)
   (hd:Y6 x:=by decide) (z:Y5 x:=by decide)
   (hs:g8 e2 (some (.Subscript (.Name x p) e1 e)) B.line X.env=pure false:=by rfl):
   pz X i (.Assign [.Subscript (.Name x p) e1 e] e2 B) (Ag i fk fv):=by
 with_unfolding_all exact (
  PS.imp (kn Y (wE hN w hd z) hk hv hs) λE σ H=>by
   rintro ⟨G,L,h,o,aa,k,I,j,q⟩;obtain ⟨ks,c1,j⟩:=jd j;obtain ⟨d,c2,j⟩:=jd j;obtain ⟨N,c3,u⟩:=jd j;have O:=Ze c1;obtain ⟨a,J,Q,hx,l,rs⟩:=WK k O
   cases c:eX N with
   |none=>rw [c] at u;cases u
   |some kk=>
    rw [c] at u;obtain ⟨U,c5⟩:=ju u;cases c5;refine ⟨G,L,h,d,k,c2,λv H1 m r1 _=>⟨.ref a,Q,G,L,h,N,k.am m,c3,λy H2 n r2 _=>?_⟩⟩;have r:=n _ _ (m _ _ hx);have hy:=Jv (r2.aH Lv.aZ) c;subst hy;have hl:J.length<aS:=by rw [<-l,dc] at U;exact U
    refine ⟨a,_,rfl,hX.k r hl,?_⟩;have W:=((k.am m).am n).putD (kk:=kk) O Q r l ((rs.am m).am n) (r1.am n)
    exact q σ _ W.1 I ((W.2.am n).am m))
def oO (c:Sl->ao (Bool×Sl)) (d g2:T2):Sl->ao aW:=λa=>c a>>=λr=>if r.1=true then d r.2 else g2 r.2
def jkd {p g2:T2} (h:rV X i e c) (y:gn X l p) (z:gn X d g2)
   (B: ∀whole,mH e X.env whole=(do let v<-whole;iJ e.pos;gq [v] (truthy v)):=by intro _;rfl):DS X (.If e l d I) (oO c p g2):=by
 with_unfolding_all exact (
  PS.imp (Vy (vM (show PE X e (BE X.K i c) from h) B) y z) λE L H=>by
   rintro ⟨G,m,n,o,k,j,q⟩;obtain ⟨r,J,j⟩:=jd j;obtain ⟨b,a⟩:=r;refine ⟨G,m,n,b,a,k,J,λN u w=>⟨b,rfl,?_⟩⟩
   cases b with
   |true=>rw [if_pos rfl] at j ⊢;exact ⟨G,m,a,o,u,j,zZ w q⟩
   |false=>rw [if_neg eh] at j ⊢;exact ⟨G,m,a,o,u,j,zZ w q⟩)
def r8 (a:List D) (d:D):Int:=(a.countP λy=>bG y d:Nat)
def E2 (K:aC):V->List V->Hp->VK->Prop:=λx e H Q=> ∃p c a y d,x= .ref p/\e=[y]/\da K H p c/\au K Any H c a/\aL K Any H y d/\(D.bS a=true/\D.cm d=true/\D.cE a<=190)/\Q (.int (r8 a d)) H
def jeM (hu:X.A.units+200<cLine):mJ X "list.count" (E2 X.K):=by
 rintro pins s σ H x xs v us Q I rx rv ⟨p,ys,E,y,d,ex,exs,hq,rs,r,N,q⟩;subst ex exs;obtain rfl:v=di p:=rx;obtain ⟨u,rfl,ru⟩:=ZK rv;obtain ⟨l,rvi,pl,_⟩:=I.list hq;have m:=km rs rvi
 obtain ⟨e,w,o⟩: ∃e:Value->Bool,(∀y,y∈l.toArray->EqAt X.A.in1 s y u (e y))/\l.countP e=E.countP λy=>bG y d:=by
  classical
  have key: ∀(i:Nat) (y:Value) (c:D),l[i]?=some y->E[i]?=some c->EqAt X.A.in1 s y u (bG c d):=λi y c w o=>by
    obtain ⟨x1,d2,B,O,h5⟩:=m.2 i y w;rw [o] at B;cases B;have hm:=gu o;have SJ:=yP hm
    exact WT I c X.A.in1 x1 _ y u d (by
     show X.A.units+1+c.dE<cLine
     omega) h5 O r ru (yM N.1 hm) N.2.1
  have one: ∀(i j:Nat) (y:Value) (c d2:D),l[i]?=some y->l[j]?=some y->E[i]?=some c->E[j]?=some d2->c=d2:=λi j y c d2 w o B O=>by
    obtain ⟨x1,e1,J,g2,U⟩:=m.2 i y w;obtain ⟨x2,e2,g4,g5,g6⟩:=m.2 j y o;rw [B] at J;cases J;rw [O] at g4;cases g4;cases L2.aK.inj g2 g5;exact aL.inj _ Any Any _ _ (yM N.1 (gu B)) (yM N.1 (gu O)) U g6
  let e:Value->Bool:=λy=>decide (∃(i:Nat) (c:D),l[i]?=some y/\E[i]?=some c/\bG c d=true)
  have he: ∀(i:Nat) (y:Value) (c:D),l[i]?=some y->E[i]?=some c->e y=bG c d:=λi y c w o=>by
    cases z:bG c d with
    |true=>exact decide_eq_true ⟨i,c,w,o,z⟩
    |false=>
     refine decide_eq_false ?_;rintro ⟨j,d2,J,g2,U⟩;rw [one j i y d2 c J w g2 o,z] at U;cases U
  refine ⟨e,λy hy=>?_,?_⟩
  . obtain ⟨i,hi⟩:=Eo.mp (show y∈l by simpa using hy);obtain ⟨x1,d2,B,_⟩:=m.2 i y hi;rw [he i y d2 hi B];exact key i y d2 hi B
  . have: ∀(a:List Value) (b:List D),a.length=b.length->(∀(i:Nat) (y:Value) (c:D),a[i]?=some y->b[i]?=some c->e y=bG c d)->a.countP e=b.countP λy=>bG y d:=by
     intro a
     induction a with
     |nil=>intro b Y _;cases b with|nil=>rfl|cons _ _=>cases Y
     |cons y a ih=>
      intro b Y h
      cases b with
      |nil=>cases Y
      |cons c b=>
       rw [List.countP_cons,List.countP_cons,ih b (BP Y) λi y c J g2=>h (i+1) y c J g2,h 0 y c rfl rfl]
    exact this l E m.1 he
 obtain ⟨⟨cls,dd,data,sl⟩,ho,L,n,hd⟩:=pl.isList;simp only at L hd;subst L hd;refine sD PySem.F.slot_list_count ⟨_,ho,rfl⟩ PySem.F.entry_list_count (PySem.F.args_list_count_2 _ _) (list_countAt p l.toArray n dd sl u e) ⟨ho,w,?_⟩;refine ⟨.int _,H,I.tok _,⟨_,rfl⟩,?_⟩;rw [show l.toArray.toList=l from rfl,o];exact q
def gC:D->D->ao D
 | .ai a,d=>aV (D.bS a=true/\D.cm d=true/\D.cE a<=190) (.ok (.int (r8 a d)))
 |_,_=> .aj
def uG (J:X.A.units+200<cLine) (L:DE X l1 o f) (N:DE X l2 e O)
   (i:l7 o "count" X.env (eval o X.env)=eval o X.env:=by rfl)
   (l:((dA c (bg [e] X.env)).all (λx=>!x.1)&&(fV c (fW [] X.env)).all (λx=>x.1.isSome)
    &&decide ([e].length+([]:List fO).length+(if ([]:List fO).isEmpty then 0 else 1)<30))=true:=by exact xt rfl rfl)
   (j:(m.endLine==c.line)=true:=by rfl) (v:bg [e] X.env=(false,eval e X.env)::bg [] X.env:=by exact jm rfl) (h:(dA c (bg [] X.env)).any (·.1)=false:=by exact jF rfl):
   DE X l' (.Call (.Attribute o "count" m) [e] [] c) (al f O gC):=by
 with_unfolding_all exact (
  PE.imp (kr Ba PySem.F.slot_list_count PySem.F.type_list_count (jeM J) L (j8 N wF v) i l j v h) λσ H Q=>by
   rintro ⟨G,w,n,d,k,r,q⟩;obtain ⟨a,e1,r⟩:=jd r;obtain ⟨b,e2,z⟩:=jd r
   cases a with
   |ai U=>
    obtain ⟨Y,e4⟩:=ju z;cases e4;refine ⟨G,w,n,_,k,e1,λx H1 B r1 _=>?_⟩;obtain ⟨p,E,rfl,I,_,ry⟩:=r1.cC;refine ⟨.inl ⟨rfl,E,.of I⟩,G,w,n,b,k.am B,e2,λy H2 u r2 _=>?_⟩;exact ⟨p,E,U,y,b,rfl,rfl,.of (u _ _ I),(ry.am u).aH λ_ _=>trivial,r2.aH Lv.aZ,Y,q _ H2 (B.trans u) (.int _) (j5 (K:=X.K) _).T⟩
   |_=>cases z)
end
end M
namespace M
open PySem PySem.Spec L2
open PyProof.Rows hiding St
inductive HB (X:Cx) (c:Str) (gs:T2):List ExceptHandler->Prop
 |hit:X.mg T=some (.ref CT)->(∀C,mv X.K c C->pE X.K (.ref C) (.ref CT)=some true)->(∀e,gn (Cx.held X e) (E3::Ah) gs)->Gl X T->Y6 T->HB X c gs (.ExceptHandler (some (.Name T np)) none (E3::Ah) E4::hs)
 |miss:X.mg T=some (.ref CT)->(∀C,mv X.K c C->pE X.K (.ref C) (.ref CT)=some false)->HB X c gs hs->Gl X T->Y6 T->HB X c gs (.ExceptHandler (some (.Name T np)) nm bd E4::hs)
def mB (d:List (Str×(Sl->ao aW))) (g:T2):Sl->ao aW:=λa=>match g a with
 | .ok o=> .ok o
 | .exc c=>match d.lookup c with
  |some e=>e a
  |none=> .aj
 | .aj=> .aj
def jh2 {X:Cx} (cs:List (Str×(Sl->ao aW))) (r: ∀E' ps,iX (Cx.lv X E' ps) Y g) (hh: ∀c gs,cs.lookup c=some gs->HB X c gs (i::hs))
    (BR:X.stack=X.env::X.outer:=by rfl) (nj:X.env.frame=some X.env.locals:=by rfl):DS X (.Try Y (i::hs) [] [] pos) (mB cs g):=by
 with_unfolding_all exact (by
  rintro j s σ H E I ⟨G,H0,w,o,k,m,q⟩;refine wpAny_Try_except (lM ((r (Ey X j E (i::hs)) j) [] s σ H E (IU I) ⟨G,H0,w,k,?_⟩) (λf s1 hq=>?_) λe s1 h=>h)
  . unfold mB at m
    cases eg:g w with
    |ok o'=>rw [eg] at m;cases m;exact .inl ⟨_,rfl,q⟩
    |aj=>rw [eg] at m;cases m
    |exc c=>
     rw [eg] at m;dsimp only at m
     cases hc:cs.lookup c with
     |none=>rw [hc] at m;cases m
     |some gs=>
      rw [hc] at m;have hB:=hh c gs hc;refine .inr ⟨c,rfl,λLo H1 s2 e s' sm I' cx=>?_⟩;have I1:=Jw I';obtain ⟨a,C,H',B,a0,rfl,os,bare,un,y,ha,fl,Lp,C',eC,hC,rT⟩:=cx;cases eC;have J:=I1.iI os un y bare λb r=>absurd r (by simp)
      refine wpAny_looks_onW (by rw [<-BR];exact I.ok.frames) nj (by rw [<-BR];exact fl) λh2 held Lq=>?_
      refine wpAny_landsW held λh3 E5 Lr=>?_
      obtain ⟨f1,f2,f3,f4⟩:=E5;obtain ⟨U3,O3⟩:=IV un y J.eI Lp J.stack f1 (Lq.trans Lr);have I3:=I1.iI (s':={s' with heap:=h3}) os U3 O3 bare λb r=>absurd r (by simp)
      obtain ⟨ob3,p,Ls⟩:=Heap.TracedAtW.there (Heap.TracedW.at f4);have wW:aq H H':=sm.trans rT;generalize i::hs=l at hB
      induction hB with
      |miss hT hx _ hg L ih=>
       refine wpAny_handleBy_cons (codeAny_handlers_test ?_) (by intro q;cases q);refine Jt (KD I3) hg hT ?_ L;refine (PySem.W.exm_one I3.dP (by rw [<-Ls];exact (PySem.W.Looks.ld p).andThen .now) (hx C hC)).here ?_;exact ih
      |hit hT hx hs hg L=>
       refine wpAny_handleBy_cons (codeAny_handlers_test ?_) (by intro q;cases q);refine Jt (KD I3) hg hT ?_ L;refine (PySem.W.exm_one I3.dP (by rw [<-Ls];exact (PySem.W.Looks.ld p).andThen .now) (hx C hC)).here ?_;refine codeAny_handlers_suite ?_;refine wpAny_setFlight_noneW f1 f3 (Heap.TracedW.at f4) λh4 st4 FF4 tr4 N=>?_
       obtain ⟨U4,O4⟩:=IV un y J.eI Lp J.stack st4 (Lq.trans (Lr.trans λb o e n=>⟨o.slots,N b o e n⟩));have I5:=I1.iI (s':={s' with heap:=h4}) os U4 O4 bare λb r=>absurd r (by simp)
       refine lM ((hs a) j _ σ _ E (KD I5) ⟨G,H0,w,o,k.am wW,m,zZ (be.refl wW) q⟩) (λf s7 h7=>?_) λ_ _ z=>fU z
       cases f with
       |next=>obtain ⟨d,O,Q,U⟩:=h7;exact ⟨d,O,Qd I.ok Q,U⟩
       |brk=>obtain ⟨d,O,Q,U⟩:=h7;exact ⟨d,O,Qd I.ok Q,U⟩
       |cont=>obtain ⟨d,O,Q,U⟩:=h7;exact ⟨d,O,Qd I.ok Q,U⟩
       |ret u=>obtain ⟨v,d,O,Q,r7,U⟩:=h7;exact ⟨v,d,O,Qd I.ok Q,r7,U⟩
  . cases f with
    |next=>exact sw (xI hq)
    |brk=>exact xI hq
    |cont=>exact xI hq
    |ret u=>exact xI hq)
abbrev Lu (K:aC) (i:lc) (e h:List Str) (a:List Value):Prop:= ∀(s:aM) (d c:List Value),K.In s.heap->c.length=h.length->(d++(c++a)).length=e.length->BindsTo s i ⟨d,h.zip c⟩ (e.zip (d++(c++a)))
structure eZ (P:bH) (w:World) (K:aC) (mg:W0) (af:Heap) (k:Nat) (x:Str) (ps kw:List Str) (pC:List D) (fr:Bool) (F:T0):Prop where
 ex: ∃f fd Af pD,bR P w K mg af (fx P w) k f fd ps (Bw K fr ps.length F)/\mg x=some (.ref f)/\gj K (.ref f)=true/\Lu K fd ps kw pD/\aI Af pD/\ ∀A H,au K A H Af pC
def eZ.mono {K:aC} (h:eZ P w K mg af j x i l c m F) (n:j<=k):eZ P w K mg af k x i l c m F:=
 let ⟨f,o,d,e,a,b⟩:=h.ex
 ⟨f,o,d,e,a.mono n,b⟩
def cr (n:Nat) (a:List D) (F:T0) (g h:T1):Sl->ao D:=λc=>match g c with
 | .ok d=>match h c with
  | .ok e=>aV (d.length+(e.length+a.length)=n) (F (d++(e++a)))
  |_=> .aj
 |_=> .aj
section
variable {X:Cx}
def Lw:PK X [] (tA X.K .s ag):=λc a s d H Q I ⟨_,_,_,_,k,e,q⟩=>G1 c a s d H Q I (by cases e;exact q [] H (aq.refl H) .nil)
def jke (h:DE X .s e f):PK X [⟨w,e,j⟩] (tA X.K .s (jb f ag)):=λc a s l H Q I ⟨G,m,i,y,k,n,q⟩=>by
 obtain ⟨d,e1,e2⟩:=jd n;cases e2;have o:PE X e (tE X.K .s f):=by with_unfolding_all exact h
 exact Ot o G1 c a s l H Q I ⟨G,m,i,d,k,e1,λv p r u _=>q [v] p r (.cons u .nil)⟩
def eZ.call (A:eZ X.prog X.w X.K X.mg X.af k x O kw a true F) (hr:aE k X.A) (ha:DA X .s (e::h) g) (hk:PK X J (tA X.K .s gk)) (hkl: ∀env j,gk env= .ok j->j.length=kw.length) (hn:O.length=n:=by rfl) (hg:Gl X x:=by rfl) (hdb:Y6 x:=by decide)
   (he:Vs X e h:=by rfl) (pb:((dA l (bg (e::h) X.env)).any (·.1)|| (fV l (fW J X.env)).any (·.1.isNone))=false:=by rfl)
   (E6:(fV l (fW J X.env)).all (·.1.isSome)=true:=by rfl) (hks:(fV l (fW J X.env)).filterMap (·.1)=kw:=by rfl):fK X .t (.Call (.Name x p) (e::h) J l) (cr n a F g gk):=by
 subst hn;obtain ⟨f,fd,L,pD,h1,h2,h3,h4,h5,h6⟩:=A.ex
 with_unfolding_all exact (by
 rintro i s σ H Q I ⟨G,H0,env,kk,q⟩
 have key: ∃j h,g env= .ok j/\gk env= .ok h/\j.length+(h.length+a.length)=O.length/\cr O.length a F g gk env=F (j++(h++a)):=by
   have ns:cr O.length a F g gk env≠ .aj:=by
     intro z;rcases q with ⟨o,U,_⟩| ⟨c,U,_⟩<;>(rw [z] at U;cases U)
   unfold cr at ns ⊢
   cases e1:g env with
   |ok j=>
     cases e2:gk env with
     |ok h=>
      rw [e1,e2] at ns;dsimp only at ns
      by_cases hl:j.length+(h.length+a.length)=O.length
      . exact ⟨j,h,rfl,rfl,hl,jl hl⟩
      . exact (ns (by unfold aV;rw [if_neg hl])).elim
     |_=>rw [e1,e2] at ns;exact (ns rfl).elim
   |_=>rw [e1] at ns;exact (ns rfl).elim
 obtain ⟨j,h,e1,e2,hl,e3⟩:=key;rw [e3] at q;refine o9 (Jt I hg h2 ?_ hdb);refine PySem.W.callWith_KW I.ok.mod.oa h3 E6 (bc ((show PA X (_::_) (tA X.K .s g) from ha) l i s σ H (λY H1=>aq H H1/\au X.K (Sf G env σ) H1 Y j) I ⟨G,H0,env,j,kk,e1,λY H' m r'=>⟨m,r'⟩⟩) λus s1 h9=>?_) pb he;obtain ⟨Y,H1,I1,r,sm,rs⟩:=h9;refine bc (hk l i s1 σ H1 (λzs N=>aq H1 N/\au X.K (Sf G env σ) N zs h) I1 ⟨G,H0,env,h,kk.am sm,e2,λv H' m r'=>⟨m,r'⟩⟩) λws s2 ⟨zs,N,I2,rz,w,Lx⟩=>⟨I2.dP,?_⟩
 rw [hks];have y:au X.K (Sf G env σ) N (Y++(zs++L)) (j++(h++a)):=(rs.am w).append (Lx.append (h6 _ _));have B:(Y++(zs++L)).length=O.length:=by rw [y.length,cP,cP];exact hl
 have rv:=r.append (rz.append h5);have hw:ws.length=kw.length:=by rw [<-rz.length,Lx.length];exact hkl env h e2
 have fin: ∀(E:XK),Bw X.K true O.length F (Y++(zs++L)) N Q E->(∀e m,fx X.prog X.w X.stack N s2 E e m->X.xe e m)->wpAny (model X.prog X.w) X.A (PySem.call (.ref f) ([]++us) (kw.zip ws)) (EP X i σ Q) X.xe s2:=λE sB hx=>by
   refine wpAny_call (o8 (h1.run X.A X.stack s2 N ⟨us,kw.zip ws⟩ (us++(ws++pD)) (Y++(zs++L)) Q E hr I2.m4 (h4 s2 us ws I2.dP hw (by rw [<-rv.length];exact B)) rv sB) λr m hq=>?_)
   cases r with
   |error e=>exact hx e m hq
   |ok fl=>
     cases fl with
     |ret u=>exact I2.after hq
     |next=>exact fU hq
     |brk=>exact fU hq
     |cont=>exact fU hq
 rcases q with ⟨d,U,q⟩| ⟨c',U,th⟩
 . refine fin (λ_ _ _=>False) ⟨_,_,B,y,.inl ⟨d,U,λv H4 s4 r4 nt=>?_⟩⟩ λe m cx=>?_
   . exact q v H4 (sm.trans (w.trans s4)) (r4.aH λc z=>z.elim (λz=>kk.new c (aq.free sm (aq.free w z))) λz=>z) (((nt rfl).am w).am sm)
   . obtain ⟨_,_,_,_,_,_,_,_,_,_,_,_,_,z⟩:=cx;exact z.elim
 . refine fin (XE X.K c' N) ⟨_,_,B,y,.inr ⟨c',U,λC H' hC m=>⟨C,rfl,hC,m⟩⟩⟩ λe m cx=>?_
   exact th i N s2 e m (sm.trans w) I2 cx)
end
def E7 (K:aC) (n:W0) (x:Str) (st:Stmt) (o p:List Str) (e:List D):Prop:= ∃(f:Addr) (q:Value) (r i:Option Addr) (h:Array (Option Value)) (j kV c l a m:Value) (dX:List V) (d:List Value),
 K.lookup f=some ⟨q,r,.func (gK x x (qW st) (jQ st) (jg st) j kV c l i a m),h⟩/\nT K a x=true/\n x=some (.ref f)/\gj K (.ref f)=true/\Lu K (gK x x (qW st) (jQ st) (jg st) j kV c l i a m) o p d/\aI dX d/\ ∀A H,au K A H dX e
def jiq {K:aC} {st:Stmt} (d:E7 K U x st Y kw o) (S:ar N Y (jg st))
   (hb: ∀(f:Addr) (j:Value) (A:bQ) (i:List Env) (s:aM) (H:Hp) (E:XK),aE k (A.deeper (fF x (jg st) s.heap.objs.size f j))->eY (bA (fx P w) P w K U l N x (jg st) f j A i s H E) (jQ st) g):
   eZ P w K U l (k+1) x Y kw o fr (cv fr N.length g):=by
 obtain ⟨f,oc,od,an,sA,dV,kV,doc,pm,j,ct,dX,p,lk,u,hm,kp,B,r1,r2⟩:=d;refine ⟨f,_,dX,p,?_,hm,kp,B,r1,r2⟩
 with_unfolding_all exact (by
 refine AT lk u S (λvs H Q E ⟨B,ds,hl,_⟩=>hl) λA i s H vs Q E hr h=>?_
 obtain ⟨B,ds,hl,r,q⟩:=h;refine ⟨_,hb f j A i s H E hr,?_⟩;have y:=Zx (N:=N) r;rcases q with ⟨d,e,q⟩| ⟨c,e,q⟩
 . rcases ZU e with ⟨DL,z,hf⟩| ⟨rfl,env',z⟩
   . exact ⟨_,H,_,y,.inl ⟨_,z,λv m s r nt=>q v m s r λhh=>nt (hf hh)⟩⟩
   . exact ⟨_,H,_,y,.inl ⟨_,z,λfR m k' f'=>q .aU m k'.af .aU λ_ a e=>by cases e⟩⟩
 . refine ⟨_,H,_,y,.inr ⟨c,Ka e,λn σ H1 s1 h e C vs J L I hx=>Z7 I hx (q C H1 L J),λσ H1 J n H2 s1 e s' O I cx=>KA I cx λC m z=>?_⟩⟩;obtain ⟨C',e',L,s3⟩:=z;cases e'
   exact q C m L (J.trans (O.trans s3)))
def gT (K:aC) (x:Str) (st:Stmt) (i:Int):Prop:= ∃(p T:Addr) (j l:Value) (m o d:Option Addr) (e a:Array (Option Value)) (kV h q c r:Value) (t:Tok) (n:Nat),
 cg K bM x=some (some (.ref p))/\K.lookup p=some ⟨j,m,.func (gK x x (qW st) (jQ st) (jg st) (.ref T) kV h q o c r),e⟩/\nT K c x=true/\gj K (.ref p)=true/\
 K.lookup T=some ⟨l,d,.seq #[.int i t] n,a⟩
abbrev nF (x:Str) (st:Stmt) (i:Int) (d:List Value) (m:List Str) (e:List Value) (n:List Str) (b:Bool):Prop:= ∀(T:Addr) (kV a h:Value) (j:Option Addr) (c l:Value) (t:Tok),∃k:Option (Array Value)->Sem (List (Str×Value)),
 bindArgs (gK x x (qW st) (jQ st) (jg st) (.ref T) kV a h j c l) ⟨d,m.zip e⟩=(seqItems? (gK x x (qW st) (jQ st) (jg st) (.ref T) kV a h j c l).defaults>>=k)/\k (some #[.int i t])=pure (n.zip (d++(e++if b then [.int i t] else [])))
section
variable {K:aC} {st:Stmt}
def gT.g (b:Bool) (d:gT K x st i) (l:K.In h) (G:h.Ns bM mg) (y: ∀j a,a.length=q.length->j.length+(a.length+if b then 1 else 0)=r.length->nF x st i j q a r b):E7 K mg x st r q (if b then [.int i] else []):=by
 obtain ⟨p,T,z,I,B,u,E,m,v,kV,c,w,e,ct,t,n,H,lk,o,kp,lt⟩:=d;refine ⟨p,z,B,u,m,_,kV,c,w,e,ct,if b then [.int i] else [],if b then [.int i t] else [],lk,o,lS l G H,kp,λs j a l hw hl=>?_,?_,λ_ _=>?_⟩
 . obtain ⟨k,h1,h2⟩:=y j a hw (by rw [<-hl,cP,cP];cases b<;>rfl) T kV c w u e ct t;exact .of_defaults rfl (l _ _ lt) rfl h1 h2
 . cases b
   . exact .nil
   . exact .cons ⟨t,rfl⟩ .nil
 . cases b
   . exact .nil
   . exact .cons (.int i) .nil
def tg4 (h: ∀a b c d,nF x st i [a,b,c,d] [] [] [l,m,o,p] false:=by intro _ _ _ _ _ _ _ _ _ _ _ _;exact ⟨_,rfl,rfl⟩): ∀e j:List Value,j.length=([]:List Str).length->e.length+(j.length+if false then 1 else 0)=[l,m,o,p].length->nF x st i e [] j [l,m,o,p] false:=λe j hw=>by
 cases Ly hw;exact wG (n:=3) (P:=λe=>nF x st i e [] [] [l,m,o,p] false) (λa=>wG λb=>wG λc=>wG λd=>Kz (h a b c d)) e
def tg3 (h: ∀a b c,nF x st i [a,b,c] [] [] [l,m,o,p] true:=by intro _ _ _ _ _ _ _ _ _ _ _;exact ⟨_,rfl,rfl⟩): ∀d j:List Value,j.length=([]:List Str).length->d.length+(j.length+if true then 1 else 0)=[l,m,o,p].length->nF x st i d [] j [l,m,o,p] true:=λd j hw e=>by
 cases Ly hw;exact wG (n:=2) (P:=λd=>nF x st i d [] [] [l,m,o,p] true) (λa=>wG λb=>wG λc=>Kz (h a b c)) d (BP e)
def tgk (h: ∀a b c d,nF x st i [a,b,c] [j] [d] [o,p,q,j] false:=by intro _ _ _ _ _ _ _ _ _ _ _ _;exact ⟨_,rfl,rfl⟩): ∀l m:List Value,m.length=[j].length->l.length+(m.length+if false then 1 else 0)=[o,p,q,j].length->nF x st i l [j] m [o,p,q,j] false:=λl m hw e=>by
 refine wG (n:=0) (P:=λm=>nF x st i l [j] m [o,p,q,j] false) (λd=>Kz ?_) m hw;rw [hw] at e;exact wG (n:=2) (P:=λl=>nF x st i l [j] [d] [o,p,q,j] false) (λa=>wG λb=>wG λc=>Kz (h a b c d)) l (BP e)
end
section
variable {f O N:T4} {fa:T1} {t t1 t2:T3} {g Q U:T2} {env Y:Sl} {d x y z:D} {ds:List D} {b:Bool} {i:Nat}
def Lz (h:env[i]?=some (.ah d)):ae i env= .ok d:=by unfold ae;rw [h]
def jkP (h:env[i]?=some (.ah d)):cy i env= .ok d:=by unfold cy;rw [h]
def jkQ (h:env[i]?=some (.aw d)):cy i env= .ok d:=by unfold cy;rw [h]
def jlj {j:Int}:cI j env= .ok (.int j):=rfl
def jlk:cB b env= .ok (.bl b):=rfl
def jli:cN env= .ok .aU:=rfl
def jjw:ag env= .ok []:=rfl
def jkZ:bo env= .ok (.nx env):=rfl
def jjQ {T:String} (h:f env= .ok x) (a:fI T x= .ok d):a7 T f env= .ok d:=by rw [wn,h];exact a
def jk5 {o:aW} (h:t env= .ok b) (a:(if b=true then Q env else U env)= .ok o):bu t Q U env= .ok o:=by rw [YL,h];exact a
def LA (h:env[i]?=some (.aw (.ai ds))):dw i env= .ok ds:=by unfold dw;rw [h]
def jiZ (h:env[i]?=some (.aw d)):lm i env= .ok d:=by unfold lm;rw [h]
def jj1 {a:TZ} {c:T1} {o:aW} (h:c env= .ok ds) (e:a5 (qG a g) ds env= .ok o):ca c a g env= .ok o:=(wH h).trans e
def jgI {a:TZ} {o:aW} (h:a d env= .ok Y) (c:g Y= .ok o):qG a g d env= .ok o:=(qU h).trans c
def jla:gN i d env= .ok (env.set i (.ah d)):=rfl
def jlc {j:Nat}:g2 (gN i) (gN j) (.ak [x,y]) env= .ok ((env.set i (.ah x)).set j (.ah y)):=rfl
def jh6 (h:f env= .ok d):A6 f env= .ok (.nx env):=by unfold A6;rw [h];rfl
def jkv (a:env[i]?=some (.aw (.ai ds))) (c:f env= .ok d) (e:ds.length<aS):jY i f env= .ok (.nx (env.set i (.aw (.ai (ds++[d]))))):=ZE (LA a) c e
def jgQ {o a:aW} (h:Q env= .ok o) (c:iV U o= .ok a):ap Q U env= .ok a:=by rw [yn,h];exact c
def jhc {o:aW} (h:g env= .ok o):iV g (.nx env)= .ok o:=h
def LB {e:Type} {c:Bool} {a b r:e} (j:c=true) (h:a=r):(if c=true then a else b)=r:=(if_pos j).trans h
def jk3 {e:Type} {c:Bool} {a b r:e} (j:c=false) (h:b=r):(if c=true then a else b)=r:=(if_neg (by rw [j];decide)).trans h
def E8 (x:D) (r:List D):aG (.ai (x::r)) (.int 0)= .ok x:=by
 simp only [aG];rw [show ((0:Int))=((0:Nat):Int) from rfl,M.cc];rfl
def dg (x y:D) (r:List D):aG (.ak (x::y::r)) (.int 1)= .ok y:=by
 simp only [aG];rw [show ((1:Int))=((1:Nat):Int) from rfl,M.cc];rfl
def Ai (x y z:D) (r:List D):aG (.ak (x::y::z::r)) (.int 2)= .ok z:=by
 simp only [aG];rw [show ((2:Int))=((2:Nat):Int) from rfl,M.cc];rfl
def vY {a b:Int}:de (.int a) (.int b)= .ok (.bl (!(a==b))):=by
 unfold de;rw [jl (show ph (.int a) (.int b) from .inl ⟨rfl,rfl,by simp [D.dE]⟩)];simp [bG]
def Aj:20000<=aS:=by decide
def sml {k:Nat} (h:k<=20000):k<=aS:=cY h Aj
def E9 {k:Nat} (h:k<20000):k<aS:=fS h Aj
def LC {c n:Str} {a:T4} (h:a env= .ok x) (e:iZ c n x= .ok d):gz c n a env= .ok d:=by unfold gz;rw [h];exact e
def jhW (h:f env= .ok (.ai ds)):k9 f env= .ok (jS 0 ds):=by unfold k9;rw [h];rfl
def jgE {a:List D} (c:O env= .ok (.ai ds)) (e:N env= .ok (.ai a)):Ye O N env= .ok (q9 ds a):=by unfold Ye;rw [c,He,e];rfl
def ub {c m:Str} {n:Nat} {F:T0} {a:T4} {g:T1} {env:Sl} {fs:List Str} {e ds:List D} {d:D} (h:a env= .ok (.obj c fs e)) (j:fs.contains m=false) (l:g env= .ok ds) (o:ds.length+1=n) (p:F (.obj c fs e::ds)= .ok d):Qk c m n F a g env= .ok d:=by
 unfold Qk;rw [h];refine (jl (c:=c=c/\fs.contains m=false) ⟨rfl,j⟩).trans ?_;rw [l];exact (jl (c:=ds.length+1=n) o).trans p
def LD {c:Str} {n:Nat} {F:FO} {g:T1} (a:g env= .ok ds) (e:ds.length=n) (h:F (.obj c [] []) ds= .ok (.aU,d)):kQ c n F g env= .ok d:=by
 unfold kQ;rw [a];refine (jl (c:=ds.length=n) e).trans ?_;rw [h];rfl
def jbs {a:List aQ} {c:List D}:Qs (.aP a c)= .aw (.aP a c):=rfl
def jbp:Qs (.ai ds)= .aw (.ai ds):=rfl
def jbr {a:List (List aQ)} {c:List D}:Qs (.bV a c)= .aw (.bV a c):=rfl
def jbo:Qs .aU= .ah .aU:=rfl
def jee:Qs (.bl b)= .ah (.bl b):=rfl
def jbq {j:Int}:Qs (.int j)= .ah (.int j):=rfl
def jbn {j:Str}:Qs (.str j)= .ah (.str j):=rfl
def jbm:Qs (.ak ds)= .ah (.ak ds):=rfl
def jjy {j:Int} (h:f env= .ok (.int j)):iT f env= .ok (.int (-j)):=by unfold iT;rw [h];rfl
end
section
variable {f f1 f2:T4} {J:T1} {t t1 t2:T3} {g I H:T2} {env L:Sl} {d x y z:D} {ds:List D} {b:Bool} {i:Nat} {c:Str}
def WW {o:aW} (h:g env= .ok o):wt g env= .ok o:=by unfold wt;rw [h];rfl
def K3 (h:f env= .ok d):K4 f env= .ok d:=by unfold K4;rw [h];rfl
def Uk {r:ao aW} (h:t env= .ok b) (a:(if b=true then I env else H env)=r):gR t I H env=r:=by unfold gR;rw [h];exact a
def jjT {o:aW} (h:t env= .ok b) (a:(if b=true then I env else H env)= .ok o):gR t I H env= .ok o:=Uk h a
def kS {a:TZ} {e:T1} (h:e env= .ok ds):f7 e a g env=a5 (xH a g) ds env:=by unfold f7;rw [h]
def YY {a:TZ} (h:a d env= .ok L):xH a g d env=g L:=by unfold xH;rw [h]
def jd9 {a:TZ} {o:aW} (h:a d env= .ok L) (e:g L= .ok o):xH a g d env= .ok o:=(YY h).trans e
def K5 {n:Nat} {F:T0} (a:J env= .ok ds) (e:ds.length=n):QT n F J env=F ds:=by unfold QT;rw [a];exact jl e
def jfF {n:Nat} {F:T0} (a:J env= .ok ds) (e:ds.length=n) (h:F ds= .ok d):QT n F J env= .ok d:=(K5 a e).trans h
def WO {m:Str} {n:Nat} {a:List D} {F:T0} {fs:List Str} {vs:List D} (e:f env= .ok (.obj c fs vs)) (h:fs.contains m=false) (j:J env= .ok ds) (l:ds.length+a.length+1=n):Jd c m n a F f J env=F (.obj c fs vs::(ds++a)):=by
 unfold Jd;rw [e];refine (if_pos ⟨rfl,h⟩).trans ?_;rw [j];exact jl l
def Qu (h:I env= .exc c):ap I H env= .exc c:=by rw [yn,h];rfl
def yi (h:f env= .exc c):jr i f env= .exc c:=by rw [yJ,h];rfl
def um {a:D->Sl->ao aW} (h:a d env= .exc c):a5 a (d::ds) env= .exc c:=by
 show (a d env>>=_)=_;rw [h];rfl
def jfA (h:f env= .exc c):jb f J env= .exc c:=by rw [yK,h];rfl
def UI (h:f env= .ok d) (a:J env= .exc c):jb f J env= .exc c:=by rw [yK,h,qy,a];rfl
def jgJ (h:J env= .exc c):aN J env= .exc c:=by rw [HV,h];rfl
def jiv (h:env[i]?=some (.aw (.ai ds))) (a:f env= .exc c):jY i f env= .exc c:=by unfold jY;rw [LA h,He,a];rfl
def jen (h:f env= .exc c):retS f env= .exc c:=by rw [HR,h];rfl
def Fa {a:Bool} {n:Nat} {g:T2} {ds:List D} {d:D} (h:g (j4 n ds)= .ok (.rt true d)):cv a n g ds= .ok d:=by unfold cv;rw [h];simp
def LF {n:Nat} {g:T2} {ds:List D} {d:D} (h:g (j4 n ds)= .ok (.rt false d)):cv false n g ds= .ok d:=by unfold cv;rw [h];simp
def Xb {a:Bool} {n:Nat} {g:T2} {ds:List D} (h:g (j4 n ds)= .exc c):cv a n g ds= .exc c:=by unfold cv;rw [h]
def uU {n:Nat} (h:t env= .ok false):qX (n+1) t g env= .ok (.nx env):=by
 show (match t env with| .ok b=>_|_=>_)=_;rw [h];rfl
def ja7 {n:Nat} (h:t env= .ok true) (a:g env= .ok (.nx L)):qX (n+1) t g env=qX n t g L:=by
 show (match t env with| .ok b=>_|_=>_)=_;rw [h];show (g env>>=_)=_;rw [a];rfl
def Ym {n:Nat} (h:t env= .ok true) (a:g env= .exc c):qX (n+1) t g env= .exc c:=by
 show (match t env with| .ok b=>_|_=>_)=_;rw [h];show (g env>>=_)=_;rw [a];rfl
def LG (h:f env= .ok d) (a:Dn d= .ok b):ck f env= .ok b:=by unfold ck;rw [h];exact a
end
end M
namespace G
open PySem PySem.Spec L2 M
open PyProof.Rows hiding St
def top (i:Nat):Stmt:=PySem.Challenge.pw_endwise_k64_chains.main.body.getD i (.Pass ⟨0,0,0,0⟩)
abbrev Jp:Stmt:=top 50
abbrev Jk:Stmt:=top 51
abbrev Y7:Stmt:=top 22
abbrev kh:Stmt:=top 24
abbrev Fb:Stmt:=top 23
abbrev Qz:Stmt:=top 26
abbrev yu:Stmt:=top 21
abbrev ZS:Stmt:=top 20
abbrev ZQ:Stmt:=top 15
abbrev ZT:Stmt:=top 17
abbrev W6:Stmt:=top 16
abbrev ZR:Stmt:=top 18
abbrev W4:Stmt:=top 19
abbrev Y9:Stmt:=top 25
abbrev W5:Stmt:=top 44
abbrev Qy:Stmt:=top 43
abbrev zK:Stmt:=QL (top 42) 0
abbrev x9:Stmt:=top 48
abbrev QB:Stmt:=top 52
abbrev QD:Stmt:=top 54
abbrev Jj:Stmt:=top 53
abbrev Jo:Stmt:=top 55
abbrev QC:Stmt:=top 56
abbrev Jl:Stmt:=top 57
abbrev QA:Stmt:=top 58
abbrev Ji:Stmt:=top 59
abbrev xl:Stmt:=top 63
abbrev xk:Stmt:=top 64
abbrev wN:Stmt:=top 65
abbrev ya:Stmt:=QL (top 42) 1
abbrev kg:Stmt:=top 27
abbrev W8:Stmt:=top 35
abbrev W7:Stmt:=top 34
abbrev W9:Stmt:=top 28
abbrev Qw:Stmt:=top 31
abbrev Qx:Stmt:=top 32
abbrev W3:Stmt:=top 45
abbrev xm:Stmt:=QL (top 42) 3
abbrev yy:Stmt:=QL (top 42) 7
abbrev we:Stmt:=QL (top 42) 6
abbrev yt:Stmt:=top 30
abbrev Jf:Stmt:=top 29
abbrev wc:Stmt:=top 46
abbrev zw:Stmt:=QL (top 42) 5
abbrev yw:Stmt:=top 38
abbrev wO:Stmt:=QL (top 42) 4
abbrev Jg:Stmt:=top 39
abbrev ki:Stmt:=top 37
abbrev yx:Stmt:=top 60
abbrev Jh:Stmt:=top 49
abbrev Jn:Stmt:=top 61
abbrev Jm:Stmt:=top 62
abbrev Jq:Stmt:=top 66
abbrev Y8:Stmt:=top 67
def Wu:Sl->ao aW:=
 (aJ (al (al (al (al (al (ae 0) (cI 43) aX) (al (cI 7) (cI 61) fJ) f6) (al (cI 11) (cI 63) fJ) f6) (al (cI 13) (cI 9) fJ) f6) (al (al (cI 10) (cI 60) fJ) (al (cI 10) (cI 60) fJ) f6) bf))
def zH:List D->ao D:=aD true 1 (Wu)
def Wr:Sl->ao aW:=
 (ap (jr 1 (cS "abcdefghijklmnopqrstuvwxyz")) (ap (jr 2 (al (cI 1) (al (ae 0) (cI 8) bf) aX)) (ap (jr 3 (cS "")) (ap (ca (iO (jb (ae 2) ag)) (gN 4) (ap (jr 0 (al (ae 0) (cI 26) iU)) (jr 3 (al (ae 3) (al (ae 1) (al (ae 0) (cI 26) bf) aG) aX)))) (ap (jr 5 (al (al (ae 0) (cI 26) iU) (ae 2) bf)) (ap (b8 6 (ci ag)) (ap (ca (iO (jb (cI 4) ag)) (gN 4) (ap (jr 7 (al (ae 1) (al (al (Bi (ae 1) (jb (al (ae 3) (ae 5) aG) ag) Bj) (al (cI 7) (ae 4) f6) aX) (cI 26) bf) aG)) (jY 6 (al (al (qp (ae 3) wP (zI (ae 5)) eW) (ae 7) aX) (qp (ae 3) (zI (al (ae 5) (cI 1) aX)) wP eW) aX)))) (aJ (lm 6)))))))))
def J2:List D->ao D:=aD true 8 (Wr)
def ul:Sl->ao aW:=
 (aJ (Dp (aO (a7 "tuple" (ae 0))) (qp (ae 0) (zI (cI 1)) wP eW) (aN ag)))
def jR:List D->ao D:=aD true 1 (ul)
def XD (a:T0) (c:T0):Sl->ao aW:=
 (ap (b8 1 (ci (jb (ae 0) ag))) (ap (ca (b9 (jk 1 a (jb (ae 0) ag))) (gN 2) (wm 1 (jk 1 c (jb (ae 2) ag)))) (aJ (lm 1))))
def qh:Nat->List D->ao D
 |0=>λ_=> .aj
 |n+1=>aD true 3 (XD jR (qh n))
def LH:Sl->ao aW:=
 (aJ (Dp (aO (a7 "tuple" (ae 0))) (aN (jb (al (ae 0) (cI 0) aG) (jb (al (app (jb (ae 0) ag) aT) (cI 1) ii) ag))) cN))
def wY:List D->ao D:=aD true 1 (LH)
def XJ (a:T0) (c:T0):Sl->ao aW:=
 (ap (b8 1 Em) (ap (ca (b9 (ae 0)) (gN 2) (ca (b9 (jk 1 a (jb (ae 2) ag))) (gN 3) (bu (aO (a7 "tuple" (ae 3))) (sW 1 (jk 1 c (jb (ae 3) ag)) (cB true)) bo))) (eN 1 (aJ (app (jb (ae 1) ag) Y2)))))
def y6:List D->ao D:=aD true 4 (XJ (qh 64) wY)
def w5 (a:T0):Sl->ao aW:=
 (ap (b8 1 (ci ag)) (ap (ca (b9 (ae 0)) (gN 2) (wm 1 (jk 1 a (jb (ae 2) ag)))) (aJ (lm 1))))
def qN:List D->ao D:=aD true 3 (w5 jR)
def Qe (a:T0):Sl->ao aW:=
 (ap (jr 1 (ci (jb (ae 0) ag))) (ap (jr 2 (cI 0)) (ap (jr 3 (cI 0)) (ap (wV 2000 (ck (ae 1)) (ap (jr 2 (al (ae 2) (cI 1) (mi λi j=>i+j))) (ap (jr 3 (al (ae 3) (app (jb (ae 1) ag) aT) (mi λi j=>i+j))) (ap (bu (fq (aO (al (ae 2) (cI 60) gw)) (aO (al (ae 3) (cI 1000) gw))) (aJ (cB true)) bo) (jr 1 (jk 1 a (jb (ae 1) ag))))))) (aJ (cB false))))))
def xg:List D->ao D:=aD true 4 (Qe qN)
def YK:Sl->ao aW:=
 (aJ (mK (a7 "int" (ae 0)) (oC (a7 "bool" (ae 0))) true))
def qT:List D->ao D:=aD true 1 (YK)
def Qf (a:T0):Sl->ao aW:=
 (aJ (mK (jk 1 a (jb (ae 0) ag)) (WE (cI 0) (ae 0) (cI 999) mr mr) true))
def xh:List D->ao D:=aD true 1 (Qf qT)
def Jy:Sl->ao aW:=
 (ap (bu (fq (a6 (aO (a7 "str" (ae 0)))) (a6 (aO (WE (cI 1) (app (jb (ae 0) ag) aT) (cI 8) mr mr)))) (aJ (cB false)) bo) (aJ (app (jb (qv false 1 [] (b9 (ae 0)) (gN 0) qi (al (ae 0) (cS "abcdefghijklmnopqrstuvwxyz") inD)) ag) iS)))
def JZ:List D->ao D:=aD true 1 (Jy)
def yk (a:T0) (c:T0):Sl->ao aW:=
 (ap (bu (aO (a7 "tuple" (ae 0))) (aJ (mK (WE (cI 1) (app (jb (ae 0) ag) aT) (al (cI 9) (cI 1) aX) mr mr) (jk 1 c (jb (al (ae 0) (cI 0) aG) ag)) true)) bo) (aJ (jk 1 a (jb (ae 0) ag))))
def yq:List D->ao D:=aD true 1 (yk xh JZ)
def XF (a:T0) (c:T0) (d:T0):Sl->ao aW:=
 (aJ (mK (oC (jk 1 a (jb (ae 0) ag))) (app (jb (qv false 1 [] (b9 (jk 1 d (jb (ae 0) ag))) (gN 0) qi (jk 1 c (jb (ae 0) ag))) ag) iS) true))
def ZI:List D->ao D:=aD true 1 (XF xg yq (qh 64))
def KN (a:T0):Sl->ao aW:=
 (ap (b8 1 cD) (ap (ca (b9 (jk 1 a (jb (ae 0) ag))) (gN 2) (bu (a6 (aO (a7 "tuple" (ae 2)))) (yH 1 (ae 2) (cB true)) bo)) (eN 1 (aJ (app (jb (ae 1) ag) Bm)))))
def Vd:List D->ao D:=aD true 3 (KN (qh 64))
def XG (a:T0) (c:T0):Sl->ao aW:=
 (ap (bu (fq (a6 (aO (a7 "tuple" (ae 0)))) (aO (al (app (jb (ae 0) ag) aT) (cI 2) de))) (aJ (cB false)) bo) (ap (bu (fq (a6 (aO (jk 1 a (jb (al (ae 0) (cI 0) aG) ag)))) (fq (a6 (aO (jk 1 a (jb (al (ae 0) (cI 1) aG) ag)))) (a6 (aO (a7 "tuple" (al (ae 0) (cI 0) aG)))))) (aJ (cB false)) bo) (aJ (al (al (jk 1 c (jb (al (ae 0) (cI 1) aG) ag)) (jk 1 c (jb (al (ae 0) (cI 0) aG) ag)) mz) (cI 0) ce))))
def ZJ:List D->ao D:=aD true 1 (XG ZI Vd)
def XI (a:T0):Sl->ao aW:=
 (ap (bu (fq (a6 (aO (a7 "list" (ae 0)))) (aO (al (app (jb (ae 0) ag) aT) (cI 40) gw))) (aJ (cB false)) bo) (aJ (app (jb (qv false 1 [] (b9 (ae 0)) (gN 0) qi (jk 1 a (jb (ae 0) ag))) ag) iS)))
def xE:List D->ao D:=aD true 1 (XI ZJ)
def qZ (a:T0) (c:T0):Sl->ao dU:=
 (oN (EW (a6 (aO (jk 1 c (jb (ae 1) ag)))) J4 J3) (oN (BM 0 "Rules" "listed" (app (jb (ae 1) ag) Yj)) (BM 0 "Rules" "named" (jk 1 a (jb (al (qv false 2 [] (b9 (ae 1)) (g2 (gN 0) (gN 1)) qi (ae 0)) (qv false 2 [] (b9 (ae 1)) (g2 (gN 0) (gN 1)) qi (ae 1)) aX) ag)))))
def qt:FO:=nD 2 1 (qZ y6 xE)
def Qn:Sl->ao aW:=
 (ap (bu (aO (al (ae 1) (app (jb (ae 0) ag) aT) ltI)) (retS (al (ae 0) (ae 1) aG)) bo) (aJ (cI 0)))
def wD:List D->ao D:=aD false 2 (Qn)
def XL (a:T0):Sl->ao aW:=
 (ap (jr 3 (al (ae 0) (cI 6) bf)) (ap (jr 0 (al (ae 0) (cI 6) iU)) (ap (bu (aO (al (ae 2) (cI 1) ce)) (jr 3 (al (ae 3) (cI 4) bf)) bo) (ap (bu (aO (al (ae 3) (cI 2) ltI)) (aJ (aN (jb (al (ae 0) (cI 3) bf) (jb (al (ae 0) (cI 3) iU) ag)))) bo) (ap (bu (aO (al (ae 3) (cI 4) ltI)) (aJ (aN (jb (aN (jb (al (ae 1) (al (ae 3) (cI 2) ii) aG) ag)) (jb (ae 0) ag)))) bo) (ap (fZ (jk 3 a (jb (ae 0) (jb (ae 1) (jb (al (ae 2) (cI 1) ii) ag)))) (g2 (gN 4) (gN 0))) (ap (bu (aO (al (ae 3) (cI 4) ce)) (aJ (aN (jb (aN (jb (al (ae 1) (cI 2) aG) (jb (ae 4) ag))) (jb (ae 0) ag)))) bo) (ap (fZ (jk 3 a (jb (ae 0) (jb (ae 1) (jb (al (ae 2) (cI 1) ii) ag)))) (g2 (gN 5) (gN 0))) (aJ (aN (jb (aN (jb (al (ae 1) (cI 3) aG) (jb (ae 4) (jb (ae 5) ag)))) (jb (ae 0) ag))))))))))))
def jV:Nat->List D->ao D
 |0=>λ_=> .aj
 |n+1=>aD true 6 (XL (jV n))
def XN (a:T0):Sl->ao aW:=
 (ap (bu (a6 (aO (a7 "tuple" (ae 0)))) (ap (bu (aO (al (ae 0) (ae 1) (sR false))) (retS (al (ae 1) (ae 0) ij)) bo) (retS (ae 0))) bo) (aJ (app (jb (al (ci (jb (al (ae 0) (cI 0) aG) ag)) (qv false 1 [1] (b9 (qp (ae 0) (zI (cI 1)) wP eW)) (gN 0) qi (jk 2 a (jb (ae 0) (jb (ae 1) ag)))) aX) ag) Yq)))
def qO:Nat->List D->ao D
 |0=>λ_=> .aj
 |n+1=>aD false 2 (XN (qO n))
def xO (a:T0):Sl->ao aW:=
 (ap (b8 1 (ci (jb (aN (jb (aN ag) (jb (ae 0) ag))) ag))) (ap (bu (aO (a7 "tuple" (ae 0))) (ca (kl (jb (cI 1) (jb (app (jb (ae 0) ag) aT) ag))) (gN 2) (ca (b9 (jk 1 a (jb (al (ae 0) (ae 2) aG) ag))) (g2 (gN 3) (gN 4)) (jY 1 (aN (jb (al (aN (jb (al (ae 2) (cI 1) ii) ag)) (ae 3) aX) (jb (ae 4) ag)))))) bo) (aJ (lm 1))))
def jH:Nat->List D->ao D
 |0=>λ_=> .aj
 |n+1=>aD true 5 (xO (jH n))
def Wt (a:T0):Sl->ao aW:=
 (ap (b8 2 (qv false 2 [] (b9 (jk 1 a (jb (ae 0) ag))) (g2 (gN 0) (gN 1)) qi (ae 1))) (ap (b8 3 (qv false 2 [] (b9 (jk 1 a (jb (ae 1) ag))) (g2 (gN 0) (gN 1)) qi (ae 1))) (ap (bu (aO (al (app (jb (cy 3) ag) aT) (app (jb (cy 2) ag) aT) gw)) (aJ (cB true)) bo) (ap (eN 3 (ca (b9 (ae 3)) (gN 4) (bu (ek (a6 (aO (a7 "tuple" (ae 4)))) (aO (al (al (ae 3) (ae 4) gC) (al (cy 2) (ae 4) gC) gw))) (aJ (cB true)) bo))) (aJ (cB false))))))
def wL:List D->ao D:=aD true 5 (Wt (jH 64))
def XM (a:T0) (c:T0) (d:T0) (e:T0):Sl->ao aW:=
 (ap (fZ (jk 3 a (jb (ae 0) (jb (ae 1) (jb (ae 2) ag)))) (g2 (gN 7) (gN 0))) (ap (jr 3 (aN (jb (al (ae 1) (cI 2) aG) (jb (ae 7) ag)))) (ap (bu (aO (al (al (ae 0) (cI 3) bf) (cI 0) gw)) (ap (fZ (jk 3 a (jb (al (ae 0) (cI 3) bZ) (jb (ae 1) (jb (ae 2) ag)))) (g2 (gN 8) (gN 0))) (jr 3 (aN (jb (al (ae 1) (cI 3) aG) (jb (ae 7) (jb (ae 8) ag)))))) bo) (ap (jr 0 (al (ae 0) (cI 3) bZ)) (ap (jr 4 (qp (qv false 2 [] (b9 (jk 1 e (jb (ae 3) ag))) (g2 (gN 0) (gN 1)) qi (ae 1)) (zI (cI 1)) wP eW)) (ap (jr 5 (al (qv false 1 [] (b9 (ae 4)) (gN 0) (a6 (aO (a7 "tuple" (ae 0)))) (ae 0)) (ci (jb (aN (jb (al (ae 1) (cI 0) aG) ag)) ag)) aX)) (ap (jr 6 (al (ae 4) (al (al (ae 0) (cI 4) bZ) (app (jb (ae 4) ag) aT) bf) aG)) (ap (bu (aO (al (al (ae 0) (cI 4) bf) (cI 1) ce)) (jr 6 (aN (jb (al (ae 1) (cI 2) aG) (jb (ae 6) ag)))) bo) (ap (bu (aO (al (al (ae 0) (cI 4) bf) (cI 1) gw)) (ap (jr 6 (al (jk 3 a (jb (al (ae 0) (cI 4) bZ) (jb (ae 1) (jb (al (ae 2) (cI 1) aX) ag)))) (cI 0) aG)) (jr 6 (jk 2 c (jb (ae 6) (jb (By [(0,(al (ae 5) (cI 0) aG)),(1,(al (ae 5) (iT (cI 1)) aG)),(2,(al (ae 5) (al (app (jb (ae 5) ag) aT) (cI 2) bZ) aG))]) ag))))) bo) (ap (bu (fq (aO (jk 2 d (jb (ae 3) (jb (ae 6) ag)))) (aO (al (ae 6) (ae 3) ce))) (jr 6 (al (ae 4) (al (al (ae 0) (cI 4) bZ) (app (jb (ae 4) ag) aT) bf) aG)) bo) (aJ (aN (jb (ae 3) (jb (ae 6) ag))))))))))))))
def y7:List D->ao D:=aD true 9 (XM (jV 6) (qO 64) wL (jH 64))
def xP (a:FI):Sl->ao bL:=
 (gb (pA (a6 (aO (a7 "tuple" (ae 0)))) (gb (pA (aO (al (ae 0) (cy 2) (sR true))) (Ag 2 (ae 0) (ae 1)) nZ) (gc (al (al (cy 2) (ae 0) ij) (ae 1) ce))) nZ) (gb (pA (fq (a6 (aO (a7 "tuple" (ae 1)))) (fq (aO (al (app (jb (ae 0) ag) aT) (app (jb (ae 1) ag) aT) de)) (aO (al (al (ae 0) (cI 0) aG) (al (ae 1) (cI 0) aG) de)))) (gc (cB false)) nZ) (gb (lx (kl (jb (cI 1) (jb (app (jb (ae 0) ag) aT) ag))) (gN 3) (lz (yR a 2 (al (ae 0) (ae 3) aG) (al (ae 1) (ae 3) aG)) (gc (cB false)) nZ)) (gc (cB true)))))
def jI:Nat->FI
 |0=>λ_ _ _=> .aj
 |n+1=>gy 4 2 (xP (jI n))
def wf (a:T0):Sl->ao aW:=
 (ap (bu (aO (al (ae 1) (aN ag) ce)) (retS (ae 2)) bo) (ap (b8 3 (app (jb (ae 0) ag) Yj)) (ap (Bz 3 (al (al (ae 1) (cI 0) aG) (cI 1) aX) (jk 3 a (jb (al (cy 3) (al (al (ae 1) (cI 0) aG) (cI 1) aX) aG) (jb (qp (ae 1) (zI (cI 1)) wP eW) (jb (ae 2) ag))))) (aJ (v3 (app (jb (cy 3) ag) Yq))))))
def qu:Nat->List D->ao D
 |0=>λ_=> .aj
 |n+1=>aD false 4 (wf (qu n))
def Wq (a:T0) (c:FI) (d:T0) (e:T0):Sl->ao aW:=
 (ap (b8 2 (ci ag)) (ap (ca (b9 (jk 1 a (jb (ae 1) ag))) (g2 (gN 3) (gN 4)) (ca (iO (jb (app (jb (ae 0) ag) aT) ag)) (gN 5) (ap (b8 6 cD) (oO (yR c 6 (al (al (ae 0) (ae 5) aG) (cI 0) aG) (ae 4)) (eN 6 (jY 2 (aN (jb (ae 3) (jb (ae 5) (jb (jk 3 d (jb (ae 1) (jb (ae 3) (jb (jk 2 e (jb (al (al (ae 0) (ae 5) aG) (cI 1) aG) (jb (ae 6) ag))) ag)))) ag)))))) bo)))) (aJ (lm 2))))
def qF:List D->ao D:=aD true 7 (Wq (jH 64) (jI 64) (qu 64) (qO 64))
def JB:Sl->ao aW:=
 (ap (ca (iO (jb (ae 1) ag)) (gN 3) (jr 2 (aN (jb (ae 0) (jb (ae 2) ag))))) (retS (ae 2)))
def zV:List D->ao D:=aD false 4 (JB)
def JA (a:T0):Sl->ao aW:=
 (ap (jr 1 (aN (jb (aN (jb (al (ae 0) (cI 3) aG) (jb (cI 4) (jb (aN (jb (al (ae 0) (cI 2) aG) (jb (cI 9) ag))) ag)))) (jb (aN (jb (al (ae 0) (cI 3) aG) (jb (cI 4) (jb (cI 9) ag)))) ag)))) (ap (jr 2 (aN (jb (al (ae 0) (cI 3) aG) (jb (cI 9) (jb (jk 3 a (jb (al (ae 0) (cI 2) aG) (jb (cI 19) (jb (aN (jb (al (ae 0) (cI 0) aG) ag)) ag)))) ag))))) (aJ (ci (jb (ae 1) (jb (aN (jb (aN (jb (al (ae 0) (cI 3) aG) (jb (aN (jb (al (ae 0) (cI 2) aG) (jb (cI 9) ag))) (jb (aN (jb (al (ae 0) (cI 0) aG) ag)) ag)))) (jb (ae 2) ag))) ag))))))
def xF:List D->ao D:=aD true 3 (JA zV)
def Ja (a:T0):Sl->ao aW:=
 (ap (jr 2 (jk 3 a (jb (al (ae 0) (cI 2) aG) (jb (al (ae 1) (cI 20) iU) (jb (aN (jb (al (ae 0) (cI 0) aG) ag)) ag))))) (aJ (aN (jb (al (ae 0) (cI 3) aG) (jb (ae 2) (jb (jk 3 a (jb (al (ae 0) (cI 2) aG) (jb (al (ae 1) (cI 20) bf) (jb (aN (jb (al (ae 0) (cI 0) aG) ag)) ag)))) ag))))))
def zt:List D->ao D:=aD true 3 (Ja zV)
def Qo:Sl->ao aW:=
 (aJ (app (jb (gz "Rules" "listed" (cy 0)) ag) Yj))
def yg:List D->ao D:=aD true 1 (Qo)
def LI (a:T0) (c:T0):Sl->ao aW:=
 (ap (b8 1 (ci (jb (aN ag) ag))) (ap (ca (BB (jk 1 a (jb (ae 0) ag))) (g2 (gN 2) (gN 3)) (wm 1 (qv false 1 [2] (b9 (jk 1 c (jb (ae 3) ag))) (gN 0) qi (al (aN (jb (ae 1) ag)) (ae 0) aX)))) (aJ (lm 1))))
def wU:Nat->List D->ao D
 |0=>λ_=> .aj
 |n+1=>aD true 4 (LI jR (wU n))
def yl (a:T0) (c:T0) (d:FI):Sl->ao bL:=
 (gb (pA (a6 (aO (a7 "tuple" (ae 0)))) (BD 2 (ae 0) (ae 1) (ae 1)) nZ) (gb (pA (aO (al (jk 1 a (jb (ae 0) ag)) (jk 1 a (jb (ae 1) ag)) de)) (gc (cB false)) nZ) (gb (lx (lB (jk 1 c (jb (ae 0) ag)) (jk 1 c (jb (ae 1) ag))) (g2 (gN 3) (gN 4)) (lz (yR d 2 (ae 3) (ae 4)) (gc (cB false)) nZ)) (gc (cB true)))))
def jM:Nat->FI
 |0=>λ_ _ _=> .aj
 |n+1=>gy 5 2 (yl wY jR (jM n))
def XH (a:FI):Sl->ao aW:=
 (ap (b8 2 cD) (JD 2 (yR a 2 (ae 0) (ae 1))))
def zh:List D->ao D:=aD true 3 (XH (jM 64))
def Zp (a:T0):Sl->ao aW:=
 (ap (gR (aO (jk 1 a (jb (ae 0) ag))) (Vx "TooGreat") (wt bo)) (wt (retS (ae 0))))
def qD:List D->ao D:=cv false 1 (Zp xg)
def XC (a:T0):Sl->ao aW:=
 (ap (bu (aO (al (ae 1) (aN ag) ce)) (retS (ae 2)) bo) (ap (jr 3 (al (al (ae 1) (cI 0) aG) (cI 1) aX)) (aJ (al (al (qp (ae 0) wP (zI (ae 3)) eW) (aN (jb (jk 3 a (jb (al (ae 0) (ae 3) aG) (jb (qp (ae 1) (zI (cI 1)) wP eW) (jb (ae 2) ag)))) ag)) aX) (qp (ae 0) (zI (al (ae 3) (cI 1) aX)) wP eW) aX))))
def wx:Nat->List D->ao D
 |0=>λ_=> .aj
 |n+1=>aD false 4 (XC (wx n))
def QM (a:T0) (c:T0):Sl->ao aW:=
 (ap (bu (a6 (aO (a7 "tuple" (ae 0)))) (retS (Ik (ae 1) (ae 0) (ae 0))) bo) (aJ (al (qp (ae 0) wP (zI (cI 1)) eW) (app (jb (qv false 1 [1] (b9 (jk 1 c (jb (ae 0) ag))) (gN 0) qi (jk 2 a (jb (ae 0) (jb (ae 1) ag)))) ag) Yq) aX)))
def zC:Nat->List D->ao D
 |0=>λ_=> .aj
 |n+1=>aD false 2 (QM (zC n) jR)
def Uu (a:T0) (c:T0) (d:T0):Sl->ao aW:=
 (retS (QT 1 a (jb (jk 3 c (jb (ae 0) (jb (ae 1) (jb (jk 2 d (jb (al (ae 2) (cI 1) aG) (jb (ae 3) ag))) ag)))) ag)))
def qR:List D->ao D:=cv false 4 (Uu qD (wx 64) (zC 64))
def zL (a:T0) (c:T0) (d:T0) (e:T0):Sl->ao aW:=
 (ap (wt (b8 2 (ci ag))) (ap (f7 (Ye (jk 1 a (jb (ae 1) ag)) (jk 1 c (jb (ae 1) ag))) (g2 (gN 3) (gN 4)) (f7 (k9 (gz "Rules" "listed" (cy 0))) (g2 (gN 5) (gN 6)) (ap (wt (jr 7 (jk 2 d (jb (al (ae 6) (cI 0) aG) (jb (ae 4) ag))))) (gR (aO (al (ae 7) cN nB)) (jY 2 (aN (jb (K4 (ae 3)) (jb (K4 (ae 5)) (jb (QT 4 e (jb (ae 1) (jb (ae 3) (jb (ae 6) (jb (ae 7) ag))))) ag))))) (wt bo))))) (wt (aJ (lm 2)))))
def jw:List D->ao D:=cv true 8 (zL (wU 64) (qh 64) zh qR)
def zj (a:T0) (c:T0):Sl->ao aW:=
 (ap (wt (b8 3 (ci ag))) (ap (wt (jr 4 (ae 1))) (ap (jr 5 (Jd "Rules" "steps" 2 [] a (ae 0) (jb (ae 4) ag))) (ap (qX 1100 (ck (ae 5)) (ap (gR (aO (al (app (jb (cy 3) ag) aT) (ae 2) DX)) (Vx "TooLong") (wt bo)) (ap (wt (jY 3 (qp (al (ae 5) (cI 0) aG) wP (zI (cI 2)) eW))) (ap (wt (jr 4 (al (al (ae 5) (cI 0) aG) (cI 2) aG))) (jr 5 (Jd "Rules" "steps" 2 [] a (ae 0) (jb (ae 4) ag))))))) (eN 3 (aJ (aN (jb (K4 (ae 3)) (jb (QT 1 c (jb (ae 4) ag)) ag)))))))))
def jo:List D->ao D:=cv true 6 (zj jw qD)
def zi (a:T0):Sl->ao aW:=
 (ap (bu (fq (a6 (aO (a7 "tuple" (ae 1)))) (aO (al (app (jb (ae 1) ag) aT) (cI 2) de))) (aJ (cB false)) bo) (aJ (mK (jk 1 a (jb (al (ae 1) (cI 1) aG) ag)) (WE (cI 0) (al (ae 1) (cI 1) aG) (app (jb (gz "Rules" "listed" (cy 0)) ag) aT) mr ltI) true)))
def zp:List D->ao D:=aD true 2 (zi qT)
def wZ (a:T0) (c:T0):Sl->ao aW:=
 (ap (jr 2 (jk 1 a (jb (ae 0) ag))) (ap (bu (fq (a6 (aO (jk 1 c (jb (ae 1) ag)))) (a6 (aO (WE (cI 0) (ae 1) (app (jb (ae 2) ag) aT) mr ltI)))) VZ bo) (retS (al (ae 2) (ae 1) aG))))
def zT:List D->ao D:=aD false 3 (wZ jR qT)
def xM (a:T0):Sl->ao aW:=
 (ap (bu (a6 (aO (a7 "tuple" (ae 1)))) VZ bo) (ap (jr 2 (ae 0)) (ap (ca (b9 (ae 1)) (gN 3) (jr 2 (jk 2 a (jb (ae 2) (jb (ae 3) ag))))) (retS (ae 2)))))
def xV:List D->ao D:=aD false 4 (xM zT)
def yj (a:T0):Sl->ao aW:=
 (retS (jk 2 a (jb (ae 0) (jb (ae 1) ag))))
def zn:List D->ao D:=aD false 2 (yj xV)
def qK (a:T0) (c:T0) (d:T0) (e:T0):Sl->ao aW:=
 (ap (bu (a6 (aO (Qk "Rules" "is_step" 2 d (ae 0) (jb (ae 2) ag)))) VZ bo) (ap (jr 3 (al (ae 2) (cI 0) aG)) (ap (jr 4 (al (gz "Rules" "listed" (cy 0)) (al (ae 2) (cI 1) aG) aG)) (ap (jr 5 (jk 2 a (jb (al (ae 4) (cI 0) aG) (jb (jk 2 e (jb (ae 1) (jb (ae 3) ag))) ag)))) (ap (bu (aO (al (ae 5) cN Bg)) VZ bo) (retS (jk 4 (λh=>nz (c h)) (jb (ae 1) (jb (ae 3) (jb (ae 4) (jb (ae 5) ag)))))))))))
def jN:List D->ao D:=aD false 6 (qK zh qR zp zn)
def w6 (a:T0):Sl->ao aW:=
 (ap (b8 3 (ci ag)) (ap (jr 4 (ae 1)) (ap (ca (b9 (ae 2)) (gN 5) (ap (jr 4 (Qk "Rules" "walked_on" 3 a (ae 0) (jb (ae 4) (jb (ae 5) ag)))) (jY 3 (al (al (aN (jb (cB true) ag)) (ae 5) aX) (aN (jb (ae 4) ag)) aX)))) (aJ (lm 3)))))
def y0:List D->ao D:=aD true 6 (w6 jN)
def zq (a:T0) (c:T0):Sl->ao aW:=
 (ap (b8 3 (ci (jb (ae 1) ag))) (ap (ca (b9 (ae 2)) (gN 4) (jY 3 (Qk "Rules" "walked_on" 3 c (ae 0) (jb (al (cy 3) (iT (cI 1)) aG) (jb (ae 4) ag))))) (ap (A6 (jk 1 (λd=>nz (a d)) (jb (ae 1) ag))) (aJ (lm 3)))))
def qo:List D->ao D:=aD true 5 (zq qD jN)
def xN (a:T0):Sl->ao aW:=
 (ap (jr 3 (qv false 2 [] (Ye (ae 2) (Qk "Rules" "walked" 3 a (ae 0) (jb (ae 1) (jb (ae 2) ag)))) (g2 (gN 0) (gN 1)) qi (al (al (aN (jb (cB false) ag)) (ae 0) aX) (aN (jb (ae 1) ag)) aX))) (aJ (rL (ae 3))))
def J0:List D->ao D:=aD true 4 (xN qo)
def LJ (a:T0) (c:T0) (d:T0):Sl->ao aW:=
 (ap (jr 4 (Jd "Rules" "end" 3 [] a (ae 0) (jb (ae 1) (jb (ae 3) ag)))) (ap (jr 5 (Jd "Rules" "end" 3 [] a (ae 0) (jb (ae 2) (jb (ae 3) ag)))) (ap (wt (bu (aO (al (al (ae 4) (cI 1) aG) (al (ae 5) (cI 1) aG) de)) (aJ cN) bo)) (wt (aJ (al (jk 3 c (jb (ae 0) (jb (ae 1) (jb (al (ae 4) (cI 0) aG) ag)))) (jk 3 d (jb (ae 0) (jb (ae 2) (jb (al (ae 5) (cI 0) aG) ag)))) aX))))))
def zU:List D->ao D:=cv true 6 (LJ jo y0 J0)
def Zq (c:T0) (a:T0):Sl->ao aW:=
 (ap (jr 5 cN) (ap (jr 6 (cS "")) (ap (mB [("TooGreat",(jr 6 (cS "great"))),("TooLong",(jr 6 (cS "long")))] (i5 (aO (al (ae 4) (cI 0) ce)) (jr 5 (Jd "Rules" "end" 3 [] c (ae 0) (jb (ae 1) (jb (ae 3) ag)))) (i5 (aO (al (ae 4) (cI 1) ce)) (jr 5 (cr 4 [] a (jb (ae 0) (jb (ae 1) (jb (ae 2) (jb (ae 3) ag)))) ag)) (i5 (aO (al (ae 4) (cI 2) ce)) (jr 5 (cr 4 [.int 200] a (jb (ae 0) (jb (ae 1) (jb (ae 2) ag))) ag)) (gR (aO (al (ae 4) (cI 3) ce)) (jr 5 (cr 4 [] a (jb (ae 0) (jb (ae 1) (jb (ae 2) ag))) (jb (ae 3) ag))) bo))))) (aJ (aN (jb (ae 6) (jb (ae 5) ag)))))))
def zo:List D->ao D:=aD true 7 (Zq jo zU)
def Wp:Sl->ao aW:=
 (aJ (mK (a7 "int" (ae 0)) (oC (a7 "bool" (ae 0))) true))
def J1:List D->ao D:=aD true 1 (Wp)
def Ws (a:T0):Sl->ao aW:=
 (ap (bu (a6 (aO (a7 "list" (ae 0)))) (aJ (cB false)) bo) (ap (ca (b9 (ae 0)) (gN 1) (ap (bu (fq (a6 (aO (a7 "tuple" (ae 1)))) (fq (aO (al (app (jb (ae 1) ag) aT) (cI 4) de)) (a6 (aO (a7 "bool" (al (ae 1) (cI 0) aG)))))) (aJ (cB false)) bo) (bu (fq (a6 (aO (a7 "tuple" (al (ae 1) (cI 1) aG)))) (a6 (aO (jk 1 a (jb (al (ae 1) (cI 2) aG) ag))))) (aJ (cB false)) bo))) (aJ (cB true))))
def xX:List D->ao D:=aD true 2 (Ws J1)
def Jz (c:T0) (a:T0):Sl->ao aW:=
 (ap (bu (fq (a6 (aO (jk 1 c (jb (ae 1) ag)))) (aO (al (qv false 1 [] (b9 (ae 1)) (gN 0) qi (al (ae 0) (cI 0) aG)) (al (al (ci (jb (cB true) ag)) (app (jb (ae 4) ag) aT) nE) (al (ci (jb (cB false) ag)) (app (jb (ae 5) ag) aT) nE) aX) de))) (aJ (cB false)) bo) (ap (bu (aO (al (qv false 1 [] (b9 (ae 1)) (gN 0) qi (aN (jb (al (ae 0) (cI 1) aG) (jb (al (ae 0) (cI 2) aG) ag)))) (al (ae 4) (rL (ae 5)) aX) de)) (aJ (cB false)) bo) (ap (jr 6 (ae 2)) (ap (ca (b9 (ae 1)) (g4 (gN 7) (gN 8) (gN 9) (gN 10)) (ap (bu (ek (ck (ae 7)) (aO (al (aN (jb (ae 8) (jb (ae 9) (jb (ae 10) ag)))) (jk 2 a (jb (ae 0) (jb (ae 6) ag))) (io true)))) (aJ (cB false)) bo) (ap (bu (ek (a6 (ck (ae 7))) (aO (al (aN (jb (ae 8) (jb (ae 9) (jb (ae 6) ag)))) (jk 2 a (jb (ae 0) (jb (ae 10) ag))) (io true)))) (aJ (cB false)) bo) (jr 6 (ae 10))))) (aJ (al (ae 6) (ae 3) ce))))))
def xW:List D->ao D:=aD true 11 (Jz xX qF)
def Wv (a:T0) (c:T0):Sl->ao aW:=
 (ap (jr 6 (cI 1)) (ap (bu (ck (ae 5)) (ap (jr 4 (cI 200)) (jr 6 (cI 2))) bo) (ap (jr 7 (jk 5 a (jb (ae 1) (jb (ae 2) (jb (ae 3) (jb (ae 4) (jb (ae 6) ag))))))) (ap (bu (ek (aO (al (al (ae 4) (cI 3) bf) (cI 1) ce)) (aO (al (jk 5 a (jb (ae 1) (jb (ae 2) (jb (ae 3) (jb (ae 4) (jb (cI 3) ag)))))) (ae 7) de))) (aJ (cB false)) bo) (ap (jr 8 (jk 5 a (jb (ae 1) (jb (ae 2) (jb cN (jb (ae 4) (jb (cI 0) ag))))))) (ap (bu (aO (al (al (ae 8) (cI 0) aG) (cS "") de)) (aJ (al (ae 7) (aN (jb (al (ae 8) (cI 0) aG) (jb cN ag))) ce)) bo) (ap (jr 9 (jk 5 a (jb (ae 1) (jb (ae 3) (jb cN (jb (ae 4) (jb (cI 0) ag))))))) (ap (bu (aO (al (al (ae 9) (cI 0) aG) (cS "") de)) (aJ (al (ae 7) (aN (jb (al (ae 9) (cI 0) aG) (jb cN ag))) ce)) bo) (ap (bu (aO (al (al (al (ae 8) (cI 1) aG) (cI 1) aG) (al (al (ae 9) (cI 1) aG) (cI 1) aG) de)) (aJ (al (ae 7) (aN (jb (cS "") (jb cN ag))) ce)) bo) (aJ (mK (al (al (ae 7) (cI 0) aG) (cS "") ce) (jk 6 c (jb (ae 0) (jb (al (ae 7) (cI 1) aG) (jb (ae 2) (jb (ae 3) (jb (al (al (ae 8) (cI 1) aG) (cI 0) aG) (jb (al (al (ae 9) (cI 1) aG) (cI 0) aG) ag))))))) true)))))))))))
def wM:List D->ao D:=aD true 10 (Wv zo xW)
def LK (a:T0) (l:T0) (c:FO) (d:T0) (e:T0) (m:T0) (n:T0) (h:T0) (o:T0) (i:T0) (j:T0) (p:T0):Sl->ao aW:=
 (ap (jr 1 (jk 1 a (jb (jk 2 d (jb (ae 0) (jb (cI 0) ag))) ag))) (ap (jr 2 (jk 1 l (jb (ae 1) ag))) (ap (b8 3 (ci (jb (jk 3 e (jb (al (ae 1) (cI 1000) bZ) (jb (ae 2) (jb (cI 2) ag)))) ag))) (ap (bu (aO (al (al (ae 1) (cI 4) bf) (cI 0) gw)) (jY 3 (jk 3 e (jb (jk 1 a (jb (jk 2 d (jb (ae 0) (jb (cI 1) ag))) ag)) (jb (ae 2) (jb (cI 2) ag))))) bo) (ap (eN 3 (jr 4 (qv false 2 [] (b9 (ae 3)) (g2 (gN 0) (gN 1)) (aO (al (ae 1) (qv false 2 [] (b9 (jk 1 p (jb (ae 0) ag))) (g2 (gN 0) (gN 1)) qi (ae 1)) (io false))) (ae 1)))) (ap (eN 3 (jr 5 (kQ "Rules" 1 c (jb (app (jb (ae 3) ag) Yj) ag)))) (ap (ca (b9 (qp (ae 0) (zI (cI 2)) (zI (cI 12)) EU)) (gN 6) (ap (jr 7 (jk 1 a (jb (ae 6) ag))) (ap (jr 8 (al (jk 3 i (jb (al (ae 7) (cI 1000) bZ) (jb (ae 2) (jb (cI 3) ag)))) (cI 0) aG)) (ap (jr 9 (al (jk 3 i (jb (jk 1 a (jb (al (ae 6) (cI 1) aX) ag)) (jb (ae 2) (jb (cI 3) ag)))) (cI 0) aG)) (ap (eN 3 (jr 10 (jk 2 m (jb (ae 3) (jb (ae 8) ag))))) (ap (bu (ek (aO (al (al (ae 7) (cI 2) bf) (cI 0) ce)) (aO (al (ae 10) (ci ag) de))) (jr 9 (al (al (ae 10) (al (al (ae 7) (cI 2) bZ) (app (jb (ae 10) ag) aT) bf) aG) (cI 2) aG)) bo) (ap (jr 11 (mK (al (al (al (ae 7) (cI 4) bZ) (cI 4) bf) (cI 0) ce) (al (app (jb (ae 4) ag) aT) (app (jb (cy 3) ag) aT) ce) true)) (bu (a6 (aO (jk 6 j (jb (cy 3) (jb (ae 5) (jb (ae 8) (jb (ae 9) (jb (al (al (ae 7) (cI 16) bZ) (cI 11) bf) (jb (ae 11) ag))))))))) (aJ (cB false)) bo)))))))) (ap (bu (aO (al (al (al (ae 1) (cI 7) bZ) (cI 4) bf) (cI 1) ce)) (ap (jr 12 (jk 1 n (jb (ae 2) ag))) (ap (jr 8 (jk 2 h (jb (ae 2) (jb (al (cI 190) (al (al (ae 1) (cI 28) bZ) (cI 14) bf) aX) ag)))) (bu (a6 (aO (jk 6 j (jb (ae 12) (jb (kQ "Rules" 1 c (jb (app (jb (ae 12) ag) Yj) ag)) (jb (ae 8) (jb (jk 2 h (jb (ae 2) (jb (cI 0) ag))) (jb (cI 200) (jb (cB true) ag))))))))) (aJ (cB false)) bo))) bo) (aJ (al (Qk "Rules" "told" 1 o (ae 5) oq) (cy 3) ce))))))))))
def nG:List D->ao D:=aD true 13 (LK zH J2 qt wD y7 qF xF zt yg (jV 6) wM (jH 64))
structure Gm (K:aC) (T7 T6:Addr) (mg:W0):Prop where
 ax:mg "isinstance" =none
 lE:mg "bool" =none
 pF:mg "int" =none
 nH:mg "all" =none
 bq:mg "len" =none
 a4:mg "tuple" =none
 cO:mg "list" =none
 nI:mg "sorted" =none
 gd:mg "reversed" =none
 Ak:mg "set" =none
 dM:mg "range" =none
 Al:mg "str" =none
 fB:mg "enumerate" =none
 nJ:mg "zip" =none
 mC: ∃t,mg "LETTERS" =some (.str "abcdefghijklmnopqrstuvwxyz" t)
 ge: ∃t,mg "MOST_LETTERS" =some (.int 8 t)
 gD: ∃t,mg "MOST_PLACES" =some (.int 9 t)
 iu: ∃t,mg "MOST_BLANK" =some (.int 999 t)
 gE: ∃t,mg "MOST_LEVELS" =some (.int 60 t)
 iw: ∃t,mg "MOST_PARTS" =some (.int 1000 t)
 ix: ∃t,mg "MOST_RULES" =some (.int 40 t)
 bC:mx K "Rules" "listed"
 gF:mx K "Rules" "named"
 gf:mg "TooGreat" =some (.ref T7)
 e9:mg "TooLong" =some (.ref T6)
 lF:mv K "TooGreat" T7
 cz:rS K T7 [.type "ValueError",.type "Exception",.type "BaseException",.type "object"] "ValueError.__new__" =true
 mD:mv K "TooLong" T6
 fb:rS K T6 [.type "ValueError",.type "Exception",.type "BaseException",.type "object"] "ValueError.__new__" =true
 bb: ∀C,mv K "TooGreat" C->pE K (.ref C) (.ref T6)=some false
 bD: ∀C,mv K "TooGreat" C->pE K (.ref C) (.ref T7)=some true
 bN: ∀C,mv K "TooLong" C->pE K (.ref C) (.ref T6)=some true
def jlB:ar ["_law_cell"] ["_law_cell"] (jg Jp):=cf
def nK:ar ["_law_number", "_law_letters", "_law_size", "_law_first", "_law_k", "_law_at", "_law_names_here", "_law_sign"] ["_law_number"] (jg Jk):=cf
def jmg:ar ["term"] ["term"] (jg Y7):=cf
def Fc:ar ["term", "found", "place"] ["term"] (jg kh):=cf
def jlZ:ar ["term"] ["term"] (jg Fb):=cf
def BS:ar ["terms", "met", "term", "found"] ["terms"] (jg Qz):=cf
def Fd:ar ["row", "below", "thing"] ["row"] (jg yu):=cf
def r9:ar ["thing", "row", "depth", "counted"] ["thing"] (jg ZS):=cf
def jl7:ar ["thing"] ["thing"] (jg ZQ):=cf
def jl1:ar ["thing"] ["thing"] (jg ZT):=cf
def jl3:ar ["thing"] ["thing"] (jg W6):=cf
def jl4:ar ["thing"] ["thing"] (jg ZR):=cf
def jl6:ar ["thing"] ["thing"] (jg W4):=cf
def Fe:ar ["term", "met", "found"] ["term"] (jg Y9):=cf
def jl5:ar ["thing"] ["thing"] (jg W5):=cf
def jlP:ar ["thing"] ["thing"] (jg Qy):=cf
def jlo:ar ["self", "rules"] ["self", "rules"] (jg zK):=cf
def jlx:ar ["_law_script", "_law_k"] ["_law_script", "_law_k"] (jg x9):=cf
def pG:ar ["_law_number", "_law_names_here", "_law_room", "_law_kind", "_law_one", "_law_other"] ["_law_number", "_law_names_here", "_law_room"] (jg QB):=cf
def jlA:ar ["_law_term_here", "_law_filling"] ["_law_term_here", "_law_filling"] (jg QD):=cf
def Am:ar ["_law_term_here", "_law_found", "_law_k", "_law_path", "_law_some"] ["_law_term_here"] (jg Jj):=cf
def BU:ar ["_law_left", "_law_right", "_law_before", "_law_after", "_law_some"] ["_law_left", "_law_right"] (jg Jo):=cf
def lG:ar ["_law_number", "_law_names_here", "_law_room", "_law_left", "_law_some", "_law_leaves", "_law_right", "_law_one", "_law_other"] ["_law_number", "_law_names_here", "_law_room"] (jg QC):=cf
def LL:ar ["_law_left", "_law_term_here", "_law_filling", "_law_k"] ["_law_left", "_law_term_here", "_law_filling"] (jg Jl):=cf
def LM:ar ["_law_term_here", "_law_path", "_law_other", "_law_row"] ["_law_term_here", "_law_path", "_law_other"] (jg QA):=cf
def tp:ar ["_law_rules", "_law_term_here", "_law_found", "_law_path", "_law_some", "_law_number", "_law_filling"] ["_law_rules", "_law_term_here"] (jg Ji):=cf
def Ff:ar ["_law_name", "_law_many", "_law_end", "_law_k"] ["_law_name", "_law_many", "_law_end"] (jg xl):=cf
def Fg:ar ["_law_names_here", "_law_down", "_law_refilled"] ["_law_names_here"] (jg xk):=cf
def LN:ar ["_law_names_here", "_law_many", "_law_high"] ["_law_names_here", "_law_many"] (jg wN):=cf
def jls:ar ["self"] ["self"] (jg ya):=cf
def BV:ar ["term", "found", "number", "place"] ["term"] (jg kg):=cf
def Fh:ar ["pattern", "term", "filling", "place", "there"] ["pattern", "term", "filling"] (jg W8):=cf
def LO:ar ["pattern", "term", "filling"] ["pattern", "term"] (jg W7):=cf
def jlS:ar ["term"] ["term"] (jg W9):=cf
def LP:ar ["term", "path", "other", "at"] ["term", "path", "other"] (jg Qw):=cf
def jlW:ar ["term", "filling"] ["term", "filling"] (jg Qx):=cf
def jmi:ar ["term", "path", "rule", "filling"] ["term", "path", "rule", "filling"] (jg W3):=cf
def sd:ar ["self", "term", "found", "path", "there", "number", "rule", "filling"] ["self", "term"] (jg xm):=cf
def tq:ar ["self", "term", "most", "row", "last", "found"] ["self", "term", "most"] (jg yy):=cf
def jlq:ar ["self", "thing"] ["self", "thing"] (jg we):=cf
def LQ:ar ["term", "number", "below"] ["term", "number"] (jg yt):=cf
def BW:ar ["term", "path", "found", "number"] ["term", "path"] (jg Jf):=cf
def jmb:ar ["term", "path"] ["term", "path"] (jg wc):=cf
def BX:ar ["self", "term", "step", "path", "rule", "filling"] ["self", "term", "step"] (jg zw):=cf
def An:ar ["rules", "one", "row", "made", "term", "step"] ["rules", "one", "row"] (jg yw):=cf
def Fi:ar ["self", "term", "row", "reached", "step"] ["self", "term", "row"] (jg wO):=cf
def LR:ar ["rules", "other", "row", "made"] ["rules", "other", "row"] (jg Jg):=cf
def Fj:ar ["rules", "one", "other", "most", "end_of_one", "end_of_other"] ["rules", "one", "other", "most"] (jg ki):=cf
def oP:ar ["_law_rules", "_law_one", "_law_other", "_law_limit", "_law_deed", "_law_found", "_law_word"] ["_law_rules", "_law_one", "_law_other", "_law_limit", "_law_deed"] (jg yx):=cf
def jlM:ar ["_law_thing"] ["_law_thing"] (jg Jh):=cf
def LS:ar ["_law_found", "_law_one"] ["_law_found"] (jg Jn):=cf
def se:ar ["_law_some", "_law_found", "_law_one", "_law_other", "_law_forth", "_law_back", "_law_term_here", "_law_way", "_law_path", "_law_number", "_law_behind"] ["_law_some", "_law_found", "_law_one", "_law_other", "_law_forth", "_law_back"] (jg Jm):=cf
def sg:ar ["_law_some", "_law_rules", "_law_one", "_law_other", "_law_limit", "_law_left_out", "_law_deed", "_law_found", "_law_first", "_law_last"] ["_law_some", "_law_rules", "_law_one", "_law_other", "_law_limit", "_law_left_out"] (jg Jq):=cf
def lH:ar ["_law_script", "_law_first", "_law_names_here", "_law_some", "_law_falling", "_law_rules", "_law_cell", "_law_number", "_law_one", "_law_other", "_law_behind", "_law_left_out", "_law_counting_here"] ["_law_script"] (jg Y8):=cf
section
variable (P:bH) (w:World) (K:aC) (mg:W0) (af:Heap) (k:Nat)
abbrev JW (f:T0):Prop:=Av P w K mg af k "_law_great" ["_law_cell"] true f
abbrev JS (f:T0):Prop:=Av P w K mg af k "_law_names" ["_law_number"] true f
abbrev xS (f:T0):Prop:=Av P w K mg af k "places" ["term"] true f
abbrev QW (f:T0):Prop:=Av P w K mg af k "parts" ["term"] true f
abbrev uR (f:T0):Prop:=Av P w K mg af k "head" ["term"] true f
abbrev QY (f:T0):Prop:=Av P w K mg af k "all_heads" ["terms"] true f
abbrev yU (f:T0):Prop:=Av P w K mg af k "level_below" ["row"] true f
abbrev Qi (f:T0):Prop:=Av P w K mg af k "is_great" ["thing"] true f
abbrev yp (f:T0):Prop:=Av P w K mg af k "is_whole" ["thing"] true f
abbrev Wg (f:T0):Prop:=Av P w K mg af k "is_blank" ["thing"] true f
abbrev X7 (f:T0):Prop:=Av P w K mg af k "is_name" ["thing"] true f
abbrev Wf (f:T0):Prop:=Av P w K mg af k "is_piece" ["thing"] true f
abbrev X5 (f:T0):Prop:=Av P w K mg af k "is_term" ["thing"] true f
abbrev Vc (f:T0):Prop:=Av P w K mg af k "blanks" ["term"] true f
abbrev X6 (f:T0):Prop:=Av P w K mg af k "is_rule" ["thing"] true f
abbrev QX (f:T0):Prop:=Av P w K mg af k "are_rules" ["thing"] true f
abbrev zS (f:FO):Prop:=rZ P w K mg af k "Rules" 1 f
abbrev ye (f:T0):Prop:=Av P w K mg af k "_law_cell_at" ["_law_script", "_law_k"] false f
abbrev xB (f:T0):Prop:=Av P w K mg af k "_law_term" ["_law_number", "_law_names_here", "_law_room"] true f
abbrev xC (f:T0):Prop:=Av P w K mg af k "_law_fill" ["_law_term_here", "_law_filling"] false f
abbrev zg (f:T0):Prop:=Av P w K mg af k "_law_parts" ["_law_term_here"] true f
abbrev JV (f:T0):Prop:=Av P w K mg af k "_law_grows" ["_law_left", "_law_right"] true f
abbrev QZ (f:T0):Prop:=Av P w K mg af k "_law_rule" ["_law_number", "_law_names_here", "_law_room"] true f
abbrev xU (f:FI):Prop:=ly P w K mg af k "_law_match" ["_law_left", "_law_term_here", "_law_filling"] 2 f
abbrev yX (f:T0):Prop:=Av P w K mg af k "_law_with" ["_law_term_here", "_law_path", "_law_other"] false f
abbrev xT (f:T0):Prop:=Av P w K mg af k "_law_steps" ["_law_rules", "_law_term_here"] true f
abbrev zR (f:T0):Prop:=Av P w K mg af k "_law_chain_of" ["_law_name", "_law_many", "_law_end"] false f
abbrev xD (f:T0):Prop:=Av P w K mg af k "_law_counting" ["_law_names_here"] true f
abbrev wS (f:T0):Prop:=Av P w K mg af k "_law_number_of" ["_law_names_here", "_law_many"] true f
abbrev yf (f:T0):Prop:=gS P w K mg af k "Rules" "told" ["self"] true f
abbrev Vb (f:T0):Prop:=Av P w K mg af k "paths" ["term"] true f
abbrev ZH (f:FI):Prop:=ly P w K mg af k "fits_on" ["pattern", "term", "filling"] 2 f
abbrev ZG (f:T0):Prop:=Av P w K mg af k "fitting" ["pattern", "term"] true f
abbrev JQ (f:T0):Prop:=ip P w K mg af k "bounded" ["term"] false f
abbrev yS (f:T0):Prop:=Av P w K mg af k "put_there" ["term", "path", "other"] false f
abbrev yV (f:T0):Prop:=Av P w K mg af k "exchanged" ["term", "filling"] false f
abbrev ZF (f:T0):Prop:=ip P w K mg af k "stepped" ["term", "path", "rule", "filling"] false f
abbrev JY (f:T0):Prop:=dW P w K mg af k "Rules" "steps" ["self", "term"] [] true f
abbrev yZ (f:T0):Prop:=dW P w K mg af k "Rules" "end" ["self", "term", "most"] [] true f
abbrev yd (f:T0):Prop:=dW P w K mg af k "Rules" "end" ["self", "term", "most"] [.int 200] true f
abbrev wv (f:T0):Prop:=gS P w K mg af k "Rules" "is_step" ["self", "thing"] true f
abbrev yT (f:T0):Prop:=Av P w K mg af k "place_there" ["term", "number"] false f
abbrev JO (f:T0):Prop:=Av P w K mg af k "part_there" ["term", "path"] false f
abbrev wu (f:T0):Prop:=Av P w K mg af k "part_stepped_on" ["term", "path"] false f
abbrev qM (f:T0):Prop:=gS P w K mg af k "Rules" "walked_on" ["self", "term", "step"] false f
abbrev yW (f:T0):Prop:=Av P w K mg af k "chain_forth" ["rules", "one", "row"] true f
abbrev wT (f:T0):Prop:=gS P w K mg af k "Rules" "walked" ["self", "term", "row"] true f
abbrev JP (f:T0):Prop:=Av P w K mg af k "chain_back" ["rules", "other", "row"] true f
abbrev LU (f:T0):Prop:=eZ P w K mg af k "chain" ["rules", "one", "other", "most"] [] [] true f
abbrev uQ (f:T0):Prop:=eZ P w K mg af k "chain" ["rules", "one", "other", "most"] [] [.int 200] true f
abbrev uP (f:T0):Prop:=eZ P w K mg af k "chain" ["rules", "one", "other", "most"] ["most"] [] true f
abbrev yY (f:T0):Prop:=Av P w K mg af k "_law_caught" ["_law_rules", "_law_one", "_law_other", "_law_limit", "_law_deed"] true f
abbrev JR (f:T0):Prop:=Av P w K mg af k "_law_whole" ["_law_thing"] true f
abbrev JU (f:T0):Prop:=Av P w K mg af k "_law_kinds" ["_law_found"] true f
abbrev JT (f:T0):Prop:=Av P w K mg af k "_law_leads" ["_law_some", "_law_found", "_law_one", "_law_other", "_law_forth", "_law_back"] true f
abbrev JX (f:T0):Prop:=Av P w K mg af k "_law_asked" ["_law_some", "_law_rules", "_law_one", "_law_other", "_law_limit", "_law_left_out"] true f
end
section
variable {P:bH} {w:World} {K:aC} {mg:W0} {af:Heap} {k:Nat} {C:Addr} {Y U:Addr}
variable (T:Gm K Y U mg)
include T
theorem Ks (d:Dx K mg "_law_great" Jp ["_law_cell"]):
  JW P w K mg af (k+1) (aD true 1 (Wu)):=
 qB true d jlB λf c A a s H E e=>
  (ji (jB (sL (l:= .t) Zf Zj (ob Xm VR (ob Xm VR (ob Xm VR (DE.b (qa jX qj (dv 0) dL)) (Ae ib ib)) (Ae ib ib)) (Ae ib ib)) (ob Xm VR (Ae ib ib) (Ae ib ib)))))
theorem Kn (d:Dx K mg "_law_names" Jk ["_law_number"]):
  JS P w K mg af (k+1) (aD true 8 (Wr)):=
 qB true d nK λf c A a s H E e=>
  (jf (jp 1 nK.nd (JM (l:= .s))) (jf (jp 2 nK.nd (DE.s (qa jX qj dL (gA Zf Zj (vb 0) ib)))) (jf (jp 3 nK.nd (JM (l:= .s))) (jf (zF gg rfl (ZA rfl T.dM (ja (vb 2) je)) (jq 4 nK.nd) (jf (jp 0 nK.nd (gA Xn Xq (vb 0) ib)) (ji (jp 3 nK.nd (DE.s (qa jX qj (dv 3) (jz (dv 1) (Zk (vb 0) ib)))))))) (jf (jp 5 nK.nd (gA Zf Zj (ob Xn Xq (vb 0) ib) (vb 2))) (jf (wX 6 nK.nd (wa je)) (jf (zF gg rfl (ZA rfl T.dM (ja ib je)) (jq 4 nK.nd) (jf (jp 7 nK.nd (jz (dv 1) (Zk (DE.b (qa jX qj (Rg (l':= .s) PySem.F.slot_str_find PySem.F.type_str_find Rh Ri (vb 1) (ja (DE.b (jz (dv 3) (vb 5))) je)) (gA Xm VR ib (vb 4)))) ib))) (ji (xz 6 (DE.s (qa jX qj (DE.s (qa jX qj (DE.s (zP (dv 3) xA (wp (vb 5)))) (dv 7))) (DE.s (zP (dv 3) (wp (DE.b (qa jX qj (dv 5) dL))) xA)))))))) (ji (yO 6)))))))))
theorem jb7 (d:Dx K mg "places" Y7 ["term"]):
  xS P w K mg af (k+1) (aD true 1 (ul)):=
 qB true d jmg λf c A a s H E e=>
  (ji (jB (Hi (j6 (qz (l':= .b) "tuple" "tuple" jP (vb 0) rfl T.ax rfl T.a4 gp)) (zP (dv 0) (wp ib) xA) (jK je))))
theorem jeH (d:Dx K mg "parts" kh ["term"]) (e:xS P w K mg af k h) (i:QW P w K mg af k j):
  QW P w K mg af (k+1) (aD true 3 (XD h j)):=
 qB true d Fc λf l A a s H E c=>
  (jf (wX 1 Fc.nd (wa (ja (dv 0) je))) (jf (zF gg rfl (ql (DE.s (Av.aB e c (ja (dv 0) je)))) (jq 2 Fc.nd) (ji (XW 1 (DE.s (Av.aB i c (ja (dv 2) je)))))) (ji (yO 1))))
theorem jhj (d:Dx K mg "head" Fb ["term"]):
  uR P w K mg af (k+1) (aD true 1 (LH)):=
 qB true d jlZ λf c A a s H E e=>
  (ji (jB (Hi (j6 (qz (l':= .b) "tuple" "tuple" jP (vb 0) rfl T.ax rfl T.a4 gp)) (jK (ja (jz (dv 0) ib) (ja (gA VE VQ (jG (l':= .b) jE qA rfl T.bq ff (ja (vb 0) je)) ib) je))) (Qp (l:= .t)))))
theorem VL (d:Dx K mg "all_heads" Qz ["terms"]) (e:QW P w K mg af k h) (i:uR P w K mg af k j):
  QY P w K mg af (k+1) (aD true 4 (XJ h j)):=
 qB true d BS λf m A a s H E c=>
  (jf (wX 1 BS.nd SE) (jf (zF gg rfl (ql (dv 0)) (jq 2 BS.nd) (ji (zF gg rfl (ql (DE.s (Av.aB e c (ja (dv 2) je)))) (jq 3 BS.nd) (ji (qd (j6 (qz (l':= .b) "tuple" "tuple" jP (vb 3) rfl T.ax rfl T.a4 gp)) (ji (SF 1 (Ul c) (DE.b (Av.aB i c (ja (dv 3) je))) (zm (l:= .s)))) jv))))) (ji (XV 1 (jB (SM (UL rfl) SH rfl T.nI UP (ja (dv 1) je)))))))
theorem Yg (d:Dx K mg "level_below" yu ["row"]) (c:xS P w K mg af k e):
  yU P w K mg af (k+1) (aD true 3 (w5 e)):=
 qB true d Fd λf h A a s H E i=>
  (jf (wX 1 Fd.nd (wa je)) (jf (zF gg rfl (ql (dv 0)) (jq 2 Fd.nd) (ji (XW 1 (DE.s (Av.aB c i (ja (dv 2) je)))))) (ji (yO 1))))
theorem kF (d:Dx K mg "is_great" ZS ["thing"]) (c:yU P w K mg af k e):
  Qi P w K mg af (k+1) (aD true 4 (Qe e)):=
 qB true d r9 λf h A a s H E i=>
  (jf (jp 1 r9.nd (DE.s (wa (ja (dv 0) je)))) (jf (jp 2 r9.nd dL) (jf (jp 3 r9.nd dL) (jf (Py 2000 gg (UD (vb 1)) (jf (Hm 2 r9.nd ib GS) (jf (Hm 3 r9.nd (jG (l':= .b) jE qA rfl T.bq ff (ja (vb 1) je)) GS) (jf (qd (DW.dt (QR (jO VG VT (vb 2) (gi rfl T.gE)) (Jb (jO VG VT (vb 3) (gi rfl T.iw))))) (ji (jB (zm (l:= .t)))) jv) (ji (jp 1 r9.nd (DE.s (Av.aB c i (ja (dv 1) je))))))))) (ji (jB (zm (l:= .t))))))))
theorem kB (d:Dx K mg "is_whole" ZQ ["thing"]):
  yp P w K mg af (k+1) (aD true 1 (YK)):=
 qB true d jl7 λf c A a s H E e=>
  (ji (jB (Wz (qz (l':= .b) "int" "int" ue (vb 0) rfl T.ax rfl T.pF LV) (Wy (Do (l:= .t) (qz (l':= .b) "bool" "bool" Xy (vb 0) rfl T.ax rfl T.lE Fk))))))
theorem kG (d:Dx K mg "is_blank" ZT ["thing"]) (c:yp P w K mg af k e):
  Wg P w K mg af (k+1) (aD true 1 (Qf e)):=
 qB true d jl1 λf h A a s H E i=>
  (ji (jB (Wz (DE.b (Av.aB c i (ja (dv 0) je))) (Wy (KY (l:= .t) VF VS VF VS ib (vb 0) (gi rfl T.iu))))))
theorem jar (d:Dx K mg "is_name" W6 ["thing"]):
  X7 P w K mg af (k+1) (aD true 1 (Jy)):=
 qB true d jl3 λf i A c s H E j=>
  (jf (qd (DW.dt (QR (qk (j6 (qz (l':= .b) "str" "str" Qr (vb 0) rfl T.ax rfl T.Al PyProof.Rows.boot_str))) (Jb (qk (uy VF VS VF VS ib (jG (l':= .b) jE qA rfl T.bq ff (ja (vb 0) je)) (gi rfl T.ge)))))) (ji (jB (zm (l:= .t)))) jv) (ji (jB (jG (l':= .t) (X2 rfl) DP rfl T.nH Fl (ja (DE.b (wq false ["sign", "."] 1 [] (zf none rfl rfl (by decide+kernel) trivial rfl) rfl (ql (dv 0)) (λC e h m a=>⟨(jq 0 a),zB,(JN (l:= .s) NY P6 (vb 0) (gst rfl T.mC))⟩))) je)))))
theorem kE (d:Dx K mg "is_piece" ZR ["thing"]) (a:Wg P w K mg af k i) (c:X7 P w K mg af k j):
  Wf P w K mg af (k+1) (aD true 1 (yk i j)):=
 qB true d jl4 λf m A e s H E h=>
  (jf (qd (j6 (qz (l':= .b) "tuple" "tuple" jP (vb 0) rfl T.ax rfl T.a4 gp)) (ji (jB (Wz (KY (l:= .b) VF VS VF VS ib (jG (l':= .b) jE qA rfl T.bq ff (ja (vb 0) je)) (DE.b (qa jX qj (gis rfl T.gD) dL))) (Wy (Av.aB c h (ja (jz (dv 0) ib) je)))))) jv) (ji (jB (Av.aB a h (ja (dv 0) je)))))
theorem jap (d:Dx K mg "is_term" W4 ["thing"]) (m:Qi P w K mg af k n) (c:Wf P w K mg af k o) (p:QW P w K mg af k q):
  X5 P w K mg af (k+1) (aD true 1 (XF n o q)):=
 qB true d jl6 λf r A e s H E h=>
  (ji (jB (Wz (Do (l:= .b) (DE.b (Av.aB m h (ja (dv 0) je)))) (Wy (jG (l':= .t) (X2 rfl) DP rfl T.nH Fl (ja (DE.b (wq false ["found", "."] 1 [] (zf none rfl rfl (by decide+kernel) trivial rfl) rfl (ql (DE.s (Av.aB p h (ja (dv 0) je)))) (λC i j u a=>⟨(jq 0 a),zB,(DE.s (Av.aB c h (ja (dv 0) je)))⟩))) je))))))
theorem jb8 (d:Dx K mg "blanks" Y9 ["term"]) (e:QW P w K mg af k h):
  Vc P w K mg af (k+1) (aD true 3 (KN h)):=
 qB true d Fe λf i A a s H E c=>
  (jf (wX 1 Fe.nd KW) (jf (zF gg rfl (ql (DE.s (Av.aB e c (ja (dv 0) je)))) (jq 2 Fe.nd) (ji (qd (qk (j6 (qz (l':= .b) "tuple" "tuple" jP (vb 2) rfl T.ax rfl T.a4 gp))) (ji (RW 1 (Ul c) (vb 2) (zm (l:= .s)))) jv))) (ji (XV 1 (jB (wJ (RZ rfl) R0 rfl T.cO zG (ja (dv 1) je)))))))
theorem jaq (d:Dx K mg "is_rule" W5 ["thing"]) (e:X5 P w K mg af k i) (h:Vc P w K mg af k j):
  X6 P w K mg af (k+1) (aD true 1 (XG i j)):=
 qB true d jl5 λf m A c s H E a=>
  (jf (qd (DW.dt (QR (qk (j6 (qz (l':= .b) "tuple" "tuple" jP (vb 0) rfl T.ax rfl T.a4 gp))) (Jb (jO (xL (aE.bp a)) Zi (jG (l':= .b) jE qA rfl T.bq ff (ja (vb 0) je)) ib)))) (ji (jB (zm (l:= .t)))) jv) (jf (qd (DW.dt (QR (qk (j6 (DE.b (Av.aB e a (ja (jz (dv 0) ib) je))))) (QR (qk (j6 (DE.b (Av.aB e a (ja (jz (dv 0) ib) je))))) (Jb (qk (j6 (qz (l':= .b) "tuple" "tuple" jP (DE.b (jz (dv 0) ib)) rfl T.ax rfl T.a4 gp))))))) (ji (jB (zm (l:= .t)))) jv) (ji (jB (JN (l:= .t) (qY (aE.bp a)) xo (jdA rfl (DE.b (Av.aB h a (ja (jz (dv 0) ib) je))) (DE.b (Av.aB h a (ja (jz (dv 0) ib) je))) rfl T.bq rfl T.Ak) ib)))))
theorem VJ (d:Dx K mg "are_rules" Qy ["thing"]) (c:X6 P w K mg af k j):
  QX P w K mg af (k+1) (aD true 1 (XI j)):=
 qB true d jlP λf m A e s H E n=>
  (jf (qd (DW.dt (QR (qk (j6 (qz (l':= .b) "list" "list" Uh (vb 0) rfl T.ax rfl T.cO zG))) (Jb (jO VG VT (jG (l':= .b) jE qA rfl T.bq ff (ja (vb 0) je)) (gi rfl T.ix))))) (ji (jB (zm (l:= .t)))) jv) (ji (jB (jG (l':= .t) (X2 rfl) DP rfl T.nH Fl (ja (DE.b (wq false ["rule", "."] 1 [] (zf none rfl rfl (by decide+kernel) trivial rfl) rfl (ql (dv 0)) (λC h i o a=>⟨(jq 0 a),zB,(DE.s (Av.aB c n (ja (dv 0) je)))⟩))) je)))))
theorem QJ (d:Dm K C "__init__" "Rules.__init__" zK ["self", "rules"]) (m:cg K bM "Rules" =some (some (.ref C))/\fm K C) (h:mg "Rules" =some (.ref C)) (mk:tX K C=true/\gj K (.ref C)=true) (n:QY P w K mg af k o) (p:QX P w K mg af k q):
  zS P w K mg af (k+1) (nD 2 1 (qZ o q)):=
 jkq d m h mk jlo rfl (by decide) λf r A j s H E l=>
  (UF (XR (qk (j6 (DE.b (Av.aB p l (ja (dv 1) je))))) (uz XS) WS) (UF (uA (i:=0) T.bC (DE.s (wJ wK X1 rfl T.cO zG (ja (dv 1) je)))) (uz (uA (i:=0) T.gF (DE.s (Av.aB n l (ja (DE.s (qa jX qj (DE.s (wq false ["left", "right", "."] 2 [] (zf none rfl rfl (by decide+kernel) trivial rfl) rfl (ql (dv 1)) (λC c e u a=>⟨(wI rfl (jq 0 a) (jq 1 a)),zB,(dv 0)⟩))) (DE.s (wq false ["left", "right", "."] 2 [] (zf none rfl rfl (by decide+kernel) trivial rfl) rfl (ql (dv 1)) (λC c e u a=>⟨(wI rfl (jq 0 a) (jq 1 a)),zB,(dv 1)⟩))))) je)))))))
theorem Xo (d:Dx K mg "_law_cell_at" x9 ["_law_script", "_law_k"]):
  ye P w K mg af (k+1) (aD false 2 (Qn)):=
 qB false d jlx λf c A a s H E e=>
  (jf (qd (jO tU xr (vb 1) (jG (l':= .b) jE qA rfl T.bq ff (ja (vb 0) je))) (ji (wR (jz (dv 0) (vb 1)))) jv) (ji (jB (Dk (l:= .t)))))
theorem VN (d:Dx K mg "_law_term" QB ["_law_number", "_law_names_here", "_law_room"]) (e:xB P w K mg af k h):
  xB P w K mg af (k+1) (aD true 6 (XL h)):=
 qB true d pG λf i A c s H E a=>
  (jf (jp 3 pG.nd (gA Zf Zj (vb 0) ib)) (jf (jp 0 pG.nd (gA Xn Xq (vb 0) ib)) (jf (qd (jO (qY (aE.bp a)) xo (vb 2) ib) (ji (jp 3 pG.nd (gA Zf Zj (vb 3) ib))) jv) (jf (qd (jO tU xr (vb 3) ib) (ji (jB (jK (ja (gA Zf Zj (vb 0) ib) (ja (gA Xn Xq (vb 0) ib) je))))) jv) (jf (qd (jO tU xr (vb 3) ib) (ji (jB (jK (ja (DE.s (jK (ja (jz (dv 1) (ob VE VQ (vb 3) ib)) je))) (ja (dv 0) je))))) jv) (jf (uD (DE.s (Av.aB e a (ja (dv 0) (ja (dv 1) (ja (gA VE VQ (vb 2) ib) je))))) (wI rfl (jq 4 pG.nd) (jq 0 pG.nd))) (jf (qd (jO (qY (aE.bp a)) xo (vb 3) ib) (ji (jB (jK (ja (DE.s (jK (ja (jz (dv 1) ib) (ja (dv 4) je)))) (ja (dv 0) je))))) jv) (jf (uD (DE.s (Av.aB e a (ja (dv 0) (ja (dv 1) (ja (gA VE VQ (vb 2) ib) je))))) (wI rfl (jq 5 pG.nd) (jq 0 pG.nd))) (ji (jB (jK (ja (DE.s (jK (ja (jz (dv 1) ib) (ja (dv 4) (ja (dv 5) je))))) (ja (dv 0) je)))))))))))))
theorem VP (d:Dx K mg "_law_fill" QD ["_law_term_here", "_law_filling"]) (j:xC P w K mg af k l):
  xC P w K mg af (k+1) (aD false 2 (XN l)):=
 qB false d jlA λf m A c s H E e=>
  (jf (qd (qk (j6 (qz (l':= .b) "tuple" "tuple" jP (vb 0) rfl T.ax rfl T.a4 gp))) (jf (qd (jO (RQ (Ul e)) (Ij false) (vb 0) (vb 1)) (ji (wR (RO (Ul e) (dv 1) (vb 0)))) jv) (ji (wR (dv 0)))) jv) (ji (jB (wJ yQ K1 rfl T.a4 gp (ja (DE.s (qa jX qj (DE.s (wa (ja (jz (dv 0) ib) je))) (DE.s (wq false ["_law_place", "_law_filling", "."] 1 [1] (zf none rfl rfl (by decide+kernel) ⟨rfl,trivial⟩ rfl) rfl (ql (DE.s (zP (dv 0) (wp ib) xA))) (λC h i n a=>⟨(jq 0 a),zB,(Av.call j e (ja (dv 0) (ja (dv 1) je)))⟩))))) je)))))
theorem Km (d:Dx K mg "_law_parts" Jj ["_law_term_here"]) (c:zg P w K mg af k e):
  zg P w K mg af (k+1) (aD true 5 (xO e)):=
 qB true d Am λf h A a s H E i=>
  (jf (wX 1 Am.nd (wa (ja (DE.s (jK (ja (DE.s (jK je)) (ja (dv 0) je)))) je))) (jf (qd (j6 (qz (l':= .b) "tuple" "tuple" jP (vb 0) rfl T.ax rfl T.a4 gp)) (ji (zF gg rfl (UH rfl T.dM (ja ib (ja (jG (l':= .b) jE qA rfl T.bq ff (ja (vb 0) je)) je))) (jq 2 Am.nd) (ji (zF gg rfl (ql (DE.s (Av.aB c i (ja (jz (dv 0) (vb 2)) je)))) (wI rfl (jq 3 Am.nd) (jq 4 Am.nd)) (ji (xz 1 (DE.s (jK (ja (DE.s (qa jX qj (DE.s (jK (ja (gA VE VQ (vb 2) ib) je))) (dv 3))) (ja (dv 4) je)))))))))) jv) (ji (yO 1))))
theorem Kr (d:Dx K mg "_law_grows" Jo ["_law_left", "_law_right"]) (j:zg P w K mg af k m):
  JV P w K mg af (k+1) (aD true 5 (Wt m)):=
 qB true d BU λf n A i s H E h=>
  (jf (HH 2 BU.nd false ["_law_path", "_law_some", "."] 2 [] (zf none rfl rfl (by decide+kernel) trivial rfl) rfl (ql (DE.s (Av.aB j h (ja (dv 0) je)))) (λC c e o a=>⟨(wI rfl (jq 0 a) (jq 1 a)),zB,(dv 1)⟩)) (jf (HH 3 BU.nd false ["_law_path", "_law_some", "."] 2 [] (zf none rfl rfl (by decide+kernel) trivial rfl) rfl (ql (DE.s (Av.aB j h (ja (dv 1) je)))) (λC c e o a=>⟨(wI rfl (jq 0 a) (jq 1 a)),zB,(dv 1)⟩)) (jf (qd (jO VG VT (jG (l':= .b) jE qA rfl T.bq ff (ja (db 3) je)) (jG (l':= .b) jE qA rfl T.bq ff (ja (db 2) je))) (ji (jB (zm (l:= .t)))) jv) (jf (XV 3 (zF gg rfl (ql (dv 3)) (jq 4 BU.nd) (ji (qd (DW.dt (UC (qk (j6 (qz (l':= .b) "tuple" "tuple" jP (vb 4) rfl T.ax rfl T.a4 gp))) (XU (jO VG VT (uG (l':= .b) (aE.bp h) (vb 3) (vb 4)) (uG (l':= .b) (aE.bp h) (db 2) (vb 4)))))) (ji (jB (zm (l:= .t)))) jv)))) (ji (jB (zm (l:= .t))))))))
theorem VO (d:Dx K mg "_law_rule" QC ["_law_number", "_law_names_here", "_law_room"]) (i:xB P w K mg af k l) (m:xC P w K mg af k n) (o:JV P w K mg af k p) (q:zg P w K mg af k r):
  QZ P w K mg af (k+1) (aD true 9 (XM l n p r)):=
 qB true d lG λf u A j s H E c=>
  (jf (uD (DE.s (Av.aB i c (ja (dv 0) (ja (dv 1) (ja (dv 2) je))))) (wI rfl (jq 7 lG.nd) (jq 0 lG.nd))) (jf (jp 3 lG.nd (DE.s (jK (ja (jz (dv 1) ib) (ja (dv 7) je))))) (jf (qd (jO VG VT (Zk (vb 0) ib) ib) (jf (uD (DE.s (Av.aB i c (ja (gA Qa Qb (vb 0) ib) (ja (dv 1) (ja (dv 2) je))))) (wI rfl (jq 8 lG.nd) (jq 0 lG.nd))) (ji (jp 3 lG.nd (DE.s (jK (ja (jz (dv 1) ib) (ja (dv 7) (ja (dv 8) je)))))))) jv) (jf (jp 0 lG.nd (gA Qa Qb (vb 0) ib)) (jf (jp 4 lG.nd (DE.s (zP (DE.s (wq false ["_law_path", "_law_part_of", "."] 2 [] (zf none rfl rfl (by decide+kernel) trivial rfl) rfl (ql (DE.s (Av.aB q c (ja (dv 3) je)))) (λC e h v a=>⟨(wI rfl (jq 0 a) (jq 1 a)),zB,(dv 1)⟩))) (wp ib) xA))) (jf (jp 5 lG.nd (DE.s (qa jX qj (DE.s (wq false ["_law_part_of", "."] 1 [] (zf none rfl rfl (by decide+kernel) trivial rfl) rfl (ql (dv 4)) (λC e h v a=>⟨(jq 0 a),(Hq (qk (j6 (qz (l':= .b) "tuple" "tuple" jP (vb 0) rfl T.ax rfl T.a4 gp)))),(dv 0)⟩))) (DE.s (wa (ja (DE.s (jK (ja (jz (dv 1) ib) je))) je)))))) (jf (jp 6 lG.nd (jz (dv 4) (Zk (VU (vb 0) ib) (jG (l':= .b) jE qA rfl T.bq ff (ja (vb 4) je))))) (jf (qd (jO (qY (aE.bp c)) xo (Zk (vb 0) ib) ib) (ji (jp 6 lG.nd (DE.s (jK (ja (jz (dv 1) ib) (ja (dv 6) je)))))) jv) (jf (qd (jO VG VT (Zk (vb 0) ib) ib) (jf (jp 6 lG.nd (jz (DE.s (Av.aB i c (ja (gA Qa Qb (vb 0) ib) (ja (dv 1) (ja (DE.s (qa jX qj (dv 2) dL)) je))))) ib)) (ji (jp 6 lG.nd (Av.call m c (ja (dv 6) (ja (DE.s (To (KR vR (jz (dv 5) ib) (KR vR (jz (dv 5) (HM (l':= .b) ib)) (KR vR (jz (dv 5) (VU (jG (l':= .b) jE qA rfl T.bq ff (ja (vb 5) je)) ib)) Tn))))) je)))))) jv) (jf (qd (DW.dt (QR (j6 (DE.b (Av.aB o c (ja (dv 3) (ja (dv 6) je))))) (Jb (jO (qY (aE.bp c)) xo (vb 6) (vb 3))))) (ji (jp 6 lG.nd (jz (dv 4) (Zk (VU (vb 0) ib) (jG (l':= .b) jE qA rfl T.bq ff (ja (vb 4) je)))))) jv) (ji (jB (jK (ja (dv 3) (ja (dv 6) je)))))))))))))))
theorem Ko (d:Dx K mg "_law_match" Jl ["_law_left", "_law_term_here", "_law_filling"]) (e:xU P w K mg af k h):
  xU P w K mg af (k+1) (gy 4 2 (xP h)):=
 Lf d LL rfl (by decide) λf i A c s H E a=>
  (xy (UG (qk (j6 (qz (l':= .b) "tuple" "tuple" jP (vb 0) rfl T.ax rfl T.a4 gp))) (xy (UG (jO (RR (Ul a)) (Ij true) (vb 0) (db 2)) (zO (jh1 2 (Ul a) (vb 0) (dv 1))) yN) (zO (QS (JN (l:= .b) (qY (aE.bp a)) xo (DE.b (RP (Ul a) 2 (vb 0))) (vb 1))))) yN) (xy (UG (DW.dt (QR (qk (j6 (qz (l':= .b) "tuple" "tuple" jP (vb 1) rfl T.ax rfl T.a4 gp))) (QR (jO (xL (aE.bp a)) Zi (jG (l':= .b) jE qA rfl T.bq ff (ja (vb 0) je)) (jG (l':= .b) jE qA rfl T.bq ff (ja (vb 1) je))) (Jb (jO (xL (aE.bp a)) Zi (DE.b (jz (dv 0) ib)) (DE.b (jz (dv 1) ib))))))) (zO (QS (zm (l:= .b)))) yN) (xy (I0 gg rfl (UH rfl T.dM (ja ib (ja (jG (l':= .b) jE qA rfl T.bq ff (ja (vb 0) je)) je))) (KS 3 (by decide) LL.nd) (zO (JC (ly.call 2 e a (jz (dv 0) (vb 3)) (jz (dv 1) (vb 3))) (zO (QS (zm (l:= .b)))) yN))) (zO (QS (zm (l:= .b)))))))
theorem VM (d:Dx K mg "_law_with" QA ["_law_term_here", "_law_path", "_law_other"]) (e:yX P w K mg af k h):
  yX P w K mg af (k+1) (aD false 4 (wf h)):=
 qB false d LM λf i A a s H E c=>
  (jf (qd (jO (qY (aE.bp c)) xo (vb 1) (DE.b (jK je))) (ji (wR (dv 2))) jv) (jf (wX 3 LM.nd (wJ wK X1 rfl T.cO zG (ja (dv 0) je))) (jf (Tp 3 (DE.b (qa jX qj (jz (dv 1) ib) dL)) (Av.call e c (ja (HN 3 (DE.b (qa jX qj (jz (dv 1) ib) dL))) (ja (DE.s (zP (dv 1) (wp ib) xA)) (ja (dv 2) je))))) (ji (jB (DE.v3 (l':= .t) (Pn yQ K1 rfl T.a4 gp (ja (db 3) je))))))))
theorem Kl (d:Dx K mg "_law_steps" Ji ["_law_rules", "_law_term_here"]) (e:zg P w K mg af k h) (i:xU P w K mg af k j) (l:yX P w K mg af k m) (n:xC P w K mg af k o):
  xT P w K mg af (k+1) (aD true 7 (Wq h j m o)):=
 qB true d tp λf p A c s H E a=>
  (jf (wX 2 tp.nd (wa je)) (jf (zF gg rfl (ql (DE.s (Av.aB e a (ja (dv 1) je)))) (wI rfl (jq 3 tp.nd) (jq 4 tp.nd)) (ji (zF gg rfl (ZA rfl T.dM (ja (jG (l':= .b) jE qA rfl T.bq ff (ja (vb 0) je)) je)) (jq 5 tp.nd) (jf (wX 6 tp.nd KW) (ji (jkd (ly.call 6 i a (jz (jz (dv 0) (vb 5)) ib) (dv 4)) (ji (XV 6 (xz 2 (DE.s (jK (ja (dv 3) (ja (dv 5) (ja (by exact Av.call l a (ja (dv 1) (ja (dv 3) (ja (by exact Av.call n a (ja (jz (jz (dv 0) (vb 5)) ib) (ja (dv 6) je))) je)))) je)))))))) jv)))))) (ji (yO 2))))
theorem WC (d:Dx K mg "_law_chain_of" xl ["_law_name", "_law_many", "_law_end"]):
  zR P w K mg af (k+1) (aD false 4 (JB)):=
 qB false d Ff λf c A a s H E e=>
  (jf (zF gg rfl (ZA rfl T.dM (ja (vb 1) je)) (jq 3 Ff.nd) (ji (jp 2 Ff.nd (DE.s (jK (ja (dv 0) (ja (dv 2) je))))))) (ji (wR (dv 2))))
theorem WB (d:Dx K mg "_law_counting" xk ["_law_names_here"]) (c:zR P w K mg af k e):
  xD P w K mg af (k+1) (aD true 3 (JA e)):=
 qB true d Fg λf h A a s H E i=>
  (jf (jp 1 Fg.nd (DE.s (jK (ja (DE.s (jK (ja (jz (dv 0) ib) (ja dL (ja (DE.s (jK (ja (jz (dv 0) ib) (ja dL je)))) je))))) (ja (DE.s (jK (ja (jz (dv 0) ib) (ja dL (ja dL je))))) je))))) (jf (jp 2 Fg.nd (DE.s (jK (ja (jz (dv 0) ib) (ja dL (ja (by exact Av.call c i (ja (jz (dv 0) ib) (ja dL (ja (DE.s (jK (ja (jz (dv 0) ib) je))) je)))) je)))))) (ji (jB (wa (ja (dv 1) (ja (DE.s (jK (ja (DE.s (jK (ja (jz (dv 0) ib) (ja (DE.s (jK (ja (jz (dv 0) ib) (ja dL je)))) (ja (DE.s (jK (ja (jz (dv 0) ib) je))) je))))) (ja (dv 2) je)))) je)))))))
theorem Z3 (d:Dx K mg "_law_number_of" wN ["_law_names_here", "_law_many"]) (c:zR P w K mg af k h):
  wS P w K mg af (k+1) (aD true 3 (Ja h)):=
 qB true d LN λf i A a s H E e=>
  (jf (jp 2 LN.nd (Av.call c e (ja (jz (dv 0) ib) (ja (gA Xn Xq (vb 1) ib) (ja (DE.s (jK (ja (jz (dv 0) ib) je))) je))))) (ji (jB (jK (ja (jz (dv 0) ib) (ja (dv 2) (ja (by exact Av.call c e (ja (jz (dv 0) ib) (ja (gA Zf Zj (vb 1) ib) (ja (DE.s (jK (ja (jz (dv 0) ib) je))) je)))) je)))))))
theorem Xp (d:Dm K C "told" "Rules.told" ya ["self"]) (c:cg K bM "Rules" =some (some (.ref C))/\fm K C):
  yf P w K mg af (k+1) (aD true 1 (Qo)):=
 uN true d c jls λf e A a s H E h=>
  (ji (jB (wJ wK X1 rfl T.cO zG (ja (KU 0 T.bC) je))))
theorem jeG (d:Dx K mg "paths" kg ["term"]) (j:xS P w K mg af k l) (m:Vb P w K mg af k n):
  Vb P w K mg af (k+1) (aD true 4 (LI l n)):=
 qB true d BV λf o A c s H E e=>
  (jf (wX 1 BV.nd (wa (ja (DE.s (jK je)) je))) (jf (zF gg rfl (TB rfl T.fB (DE.s (Av.aB j e (ja (dv 0) je)))) (wI rfl (jq 2 BV.nd) (jq 3 BV.nd)) (ji (XW 1 (DE.s (wq false ["rest", "number", "."] 1 [2] (zf none rfl rfl (by decide+kernel) ⟨rfl,trivial⟩ rfl) rfl (ql (DE.s (Av.aB m e (ja (dv 3) je)))) (λC h i p a=>⟨(jq 0 a),zB,(DE.s (qa jX qj (DE.s (jK (ja (dv 1) je))) (dv 0)))⟩)))))) (ji (yO 1))))
theorem jat (d:Dx K mg "fits_on" W8 ["pattern", "term", "filling"]) (e:uR P w K mg af k i) (h:xS P w K mg af k j) (m:ZH P w K mg af k n):
  ZH P w K mg af (k+1) (gy 5 2 (yl i j n)):=
 Lf d Fh rfl (by decide) λf o A c s H E a=>
  (xy (UG (qk (j6 (qz (l':= .b) "tuple" "tuple" jP (vb 0) rfl T.ax rfl T.a4 gp))) (zO (TJ (aE.bp a) 2 (vb 0) (dv 1) (vb 1))) yN) (xy (UG (jO (xL (aE.bp a)) Zi (DE.b (Av.aB e a (ja (dv 0) je))) (DE.b (Av.aB e a (ja (dv 1) je)))) (zO (QS (zm (l:= .b)))) yN) (xy (I0 gg rfl (Wc rfl T.nJ (DE.s (Av.aB h a (ja (dv 0) je))) (DE.s (Av.aB h a (ja (dv 1) je)))) (TF rfl (KS 3 (by decide) Fh.nd) (KS 4 (by decide) Fh.nd)) (zO (JC (ly.call 2 m a (dv 3) (dv 4)) (zO (QS (zm (l:= .b)))) yN))) (zO (QS (zm (l:= .b)))))))
theorem jas (d:Dx K mg "fitting" W7 ["pattern", "term"]) (c:ZH P w K mg af k e):
  ZG P w K mg af (k+1) (aD true 3 (XH e)):=
 qB true d LO λf h A a s H E i=>
  (jf (wX 2 LO.nd KW) (ji (TQ (ly.call 2 c i (dv 0) (dv 1)) (hn:=GK))))
theorem jau (d:Dx K mg "bounded" W9 ["term"]) (c:Qi P w K mg af k e):
  JQ P w K mg af (k+1) (cv false 1 (Zp e)):=
 Le false d jlS λf h A a s H E i=>
  (qr (Ev (j6 (DE.b (Av.aB c i (ja (dv 0) je)))) (zN (UE T.lF T.gf T.cz LW (JM (l:= .b)) (λ_=>⟨_,rfl⟩))) KQ) (zN (DS.x (wR (dv 0)))))
theorem VH (d:Dx K mg "put_there" Qw ["term", "path", "other"]) (e:yS P w K mg af k h):
  yS P w K mg af (k+1) (aD false 4 (XC h)):=
 qB false d LP λf i A a s H E c=>
  (jf (qd (jO (qY (aE.bp c)) xo (vb 1) (DE.b (jK je))) (ji (wR (dv 2))) jv) (jf (jp 3 LP.nd (DE.s (qa jX qj (jz (dv 1) ib) dL))) (ji (jB (qa jX qj (DE.s (qa jX qj (DE.s (zP (dv 0) xA (wp (vb 3)))) (DE.s (jK (ja (by exact Av.call e c (ja (jz (dv 0) (vb 3)) (ja (DE.s (zP (dv 1) (wp ib) xA)) (ja (dv 2) je)))) je))))) (DE.s (zP (dv 0) (wp (DE.b (qa jX qj (dv 3) dL))) xA)))))))
theorem VI (d:Dx K mg "exchanged" Qx ["term", "filling"]) (j:yV P w K mg af k l) (m:xS P w K mg af k n):
  yV P w K mg af (k+1) (aD false 2 (QM l n)):=
 qB false d jlW λf o A c s H E e=>
  (jf (qd (qk (j6 (qz (l':= .b) "tuple" "tuple" jP (vb 0) rfl T.ax rfl T.a4 gp))) (ji (wR (RU (Ul e) (dv 1) (vb 0) (dv 0)))) jv) (ji (jB (qa jX qj (DE.s (zP (dv 0) xA (wp ib))) (DE.s (wJ yQ K1 rfl T.a4 gp (ja (DE.s (wq false ["place", "filling", "."] 1 [1] (zf none rfl rfl (by decide+kernel) ⟨rfl,trivial⟩ rfl) rfl (ql (DE.s (Av.aB m e (ja (dv 0) je)))) (λC h i p a=>⟨(jq 0 a),zB,(Av.call j e (ja (dv 0) (ja (dv 1) je)))⟩))) je)))))))
theorem jao (d:Dx K mg "stepped" W3 ["term", "path", "rule", "filling"]) (e:JQ P w K mg af k h) (i:yS P w K mg af k j) (l:yV P w K mg af k m):
  ZF P w K mg af (k+1) (cv false 4 (Uu h j m)):=
 Le false d jmi λf n A a s H E c=>
  (zN (Tc (ip.nA e c (ja (by exact Av.call i c (ja (dv 0) (ja (dv 1) (ja (by exact Av.call l c (ja (jz (dv 2) ib) (ja (dv 3) je))) je)))) je))))
theorem WD {a:List D} (d:tm K C "steps" "Rules.steps" xm ["self", "term"] a) (h:cg K bM "Rules" =some (some (.ref C))/\fm K C) (i:Vb P w K mg af k j) (m:QW P w K mg af k n) (o:ZG P w K mg af k p) (q:ZF P w K mg af k r):
  dW P w K mg af (k+1) "Rules" "steps" ["self", "term"] a true (cv true 8 (zL j n p r)):=
 Lk true d h sd λf u A e s H E c=>
  (qr (DS.x (wX 2 sd.nd (wa je))) (qr (IY Fm rfl (Ld rfl T.nJ (DE.s (Av.aB i c (ja (dv 1) je))) (DE.s (Av.aB m c (ja (dv 1) je)))) (wI rfl (jq 3 sd.nd) (jq 4 sd.nd)) (zN (IY Fm rfl (S5 rfl T.fB (KU 0 T.bC)) (wI rfl (jq 5 sd.nd) (jq 6 sd.nd)) (qr (DS.x (jp 7 sd.nd (DE.s (Av.aB o c (ja (jz (dv 6) ib) (ja (dv 4) je)))))) (zN (Ev (jO N0 TC (vb 7) (Qp (l:= .b))) (zN (jaQ 2 (fK.s (Li (ZB (DE.x (dv 3)) (ZB (DE.x (dv 5)) (ZB (by exact ip.nA q c (ja (dv 1) (ja (dv 3) (ja (dv 6) (ja (dv 7) je))))) Lh))))))) KQ)))))) (zN (DS.x (yO 2)))))
theorem Qm {a:List D} (d:tm K C "end" "Rules.end" yy ["self", "term", "most"] a) (j:cg K bM "Rules" =some (some (.ref C))/\fm K C) (i:JY P w K mg af k m) (n:JQ P w K mg af k o):
  dW P w K mg af (k+1) "Rules" "end" ["self", "term", "most"] a true (cv true 6 (zj m o)):=
 Lk true d j tq λf p A c s H E e=>
  (qr (DS.x (wX 3 tq.nd (wa je))) (qr (DS.x (jp 4 tq.nd (dv 1))) (qr (WV 5 tq.nd (fK.s (dW.cr (l:= .t) (λh=>h rfl) i e (dv 0) (ja (dv 4) je)))) (qr (jdl 1100 Fm (UD (vb 5)) (qr (Ev (jO NX P5 (jG (l':= .b) jE qA rfl T.bq ff (ja (db 3) je)) (vb 2)) (zN (UE T.mD T.e9 T.fb LW (JM (l:= .b)) (λ_=>⟨_,rfl⟩))) KQ) (qr (DS.x (xz 3 (DE.s (zP (jz (dv 5) ib) xA (wp ib))))) (qr (DS.x (jp 4 tq.nd (jz (jz (dv 5) ib) ib))) (zN (WV 5 tq.nd (fK.s (dW.cr (l:= .t) (λh=>h rfl) i e (dv 0) (ja (dv 4) je))))))))) (zN (jh0 3 (Tb (Li (ZB (DE.x (dv 3)) (ZB (by exact ip.nA n e (ja (dv 4) je)) Lh))))))))))
theorem Zh (d:Dm K C "is_step" "Rules.is_step" we ["self", "thing"]) (e:cg K bM "Rules" =some (some (.ref C))/\fm K C) (h:yp P w K mg af k i):
  wv P w K mg af (k+1) (aD true 2 (zi i)):=
 uN true d e jlq λf j A a s H E c=>
  (jf (qd (DW.dt (QR (qk (j6 (qz (l':= .b) "tuple" "tuple" jP (vb 1) rfl T.ax rfl T.a4 gp))) (Jb (jO (xL (aE.bp c)) Zi (jG (l':= .b) jE qA rfl T.bq ff (ja (vb 1) je)) ib)))) (ji (jB (zm (l:= .t)))) jv) (ji (jB (Wz (DE.b (Av.aB h c (ja (jz (dv 1) ib) je))) (Wy (KY (l:= .t) VF VS tU xr ib (DE.b (jz (dv 1) ib)) (jG (l':= .b) jE qA rfl T.bq ff (ja (DE.b (KU 0 T.bC)) je))))))))
theorem Yf (d:Dx K mg "place_there" yt ["term", "number"]) (e:xS P w K mg af k h) (i:yp P w K mg af k j):
  yT P w K mg af (k+1) (aD false 3 (wZ h j)):=
 qB false d LQ λf l A a s H E c=>
  (jf (jp 2 LQ.nd (DE.s (Av.aB e c (ja (dv 0) je)))) (jf (qd (DW.dt (QR (qk (j6 (DE.b (Av.aB i c (ja (dv 1) je))))) (Jb (qk (uy VF VS tU xr ib (vb 1) (jG (l':= .b) jE qA rfl T.bq ff (ja (vb 2) je))))))) Zz jv) (ji (wR (jz (dv 2) (vb 1))))))
theorem Kh (d:Dx K mg "part_there" Jf ["term", "path"]) (c:yT P w K mg af k e):
  JO P w K mg af (k+1) (aD false 4 (xM e)):=
 qB false d BW λf h A a s H E i=>
  (jf (qd (qk (j6 (qz (l':= .b) "tuple" "tuple" jP (vb 1) rfl T.ax rfl T.a4 gp))) Zz jv) (jf (jp 2 BW.nd (dv 0)) (jf (zF gg rfl (ql (dv 1)) (jq 3 BW.nd) (ji (jp 2 BW.nd (Av.call c i (ja (dv 2) (ja (dv 3) je)))))) (ji (wR (dv 2))))))
theorem Zg (d:Dx K mg "part_stepped_on" wc ["term", "path"]) (c:JO P w K mg af k e):
  wu P w K mg af (k+1) (aD false 2 (yj e)):=
 qB false d jmb λf h A a s H E i=>
  (ji (jh3 (λj l=>by exact (ji (wR (Av.call c i (ja (dv 0) (ja (dv 1) je))))))))
theorem Qj (d:Dm K C "walked_on" "Rules.walked_on" zw ["self", "term", "step"]) (e:cg K bM "Rules" =some (some (.ref C))/\fm K C) (h:ZG P w K mg af k i) (j:ZF P w K mg af k m) (n:wv P w K mg af k o) (p:wu P w K mg af k q):
  qM P w K mg af (k+1) (aD false 6 (qK i m o q)):=
 uN false d e BX λf r A c s H E a=>
  (jf (qd (qk (j6 (DE.b (gS.aB n a (dv 0) (ja (dv 2) je))))) Zz jv) (jf (jp 3 BX.nd (jz (dv 2) ib)) (jf (jp 4 BX.nd (jz (KU 0 T.bC) (DE.b (jz (dv 2) ib)))) (jf (jp 5 BX.nd (DE.s (Av.aB h a (ja (jz (dv 4) ib) (ja (by exact Av.call p a (ja (dv 1) (ja (dv 3) je))) je))))) (jf (qd (jO NZ P7 (vb 5) (Qp (l:= .b))) Zz jv) (ji (wR (Av.call (ip.av j) a (ja (dv 1) (ja (dv 3) (ja (dv 4) (ja (dv 5) je))))))))))))
theorem Yh (d:Dx K mg "chain_forth" yw ["rules", "one", "row"]) (c:qM P w K mg af k e):
  yW P w K mg af (k+1) (aD true 6 (w6 e)):=
 qB true d An λf h A a s H E i=>
  (jf (wX 3 An.nd (wa je)) (jf (jp 4 An.nd (dv 1)) (jf (zF gg rfl (ql (dv 2)) (jq 5 An.nd) (jf (jp 4 An.nd (gS.call c i (dv 0) (ja (dv 4) (ja (dv 5) je)))) (ji (xz 3 (DE.s (qa jX qj (DE.s (qa jX qj (DE.s (jK (ja (zm (l:= .s)) je))) (dv 5))) (DE.s (jK (ja (dv 4) je))))))))) (ji (yO 3)))))
theorem Z4 (d:Dm K C "walked" "Rules.walked" wO ["self", "term", "row"]) (e:cg K bM "Rules" =some (some (.ref C))/\fm K C) (h:JQ P w K mg af k i) (j:qM P w K mg af k l):
  wT P w K mg af (k+1) (aD true 5 (zq i l)):=
 uN true d e Fi λf m A a s H E c=>
  (jf (wX 3 Fi.nd (wa (ja (dv 1) je))) (jf (zF gg rfl (ql (dv 2)) (jq 4 Fi.nd) (ji (xz 3 (gS.call j c (dv 0) (ja (HN 3 (HM (l':= .b) ib)) (ja (dv 4) je)))))) (jf (Pu (DE.b (Av.call (ip.av h) c (ja (dv 1) je)))) (ji (yO 3)))))
theorem Ki (d:Dx K mg "chain_back" Jg ["rules", "other", "row"]) (i:wT P w K mg af k j):
  JP P w K mg af (k+1) (aD true 4 (xN j)):=
 qB true d LR λf m A c s H E n=>
  (jf (uB 3 LR.nd false ["step", "term", "."] 2 [] (zf none rfl rfl (by decide+kernel) trivial rfl) rfl (Ld rfl T.nJ (dv 2) (DE.s (gS.aB i n (dv 0) (ja (dv 1) (ja (dv 2) je))))) (λC e h o a=>⟨(wI rfl (jq 0 a) (jq 1 a)),zB,(DE.s (qa jX qj (DE.s (qa jX qj (DE.s (jK (ja (zm (l:= .s)) je))) (dv 0))) (DE.s (jK (ja (dv 1) je)))))⟩)) (ji (jB (YO rfl rfl T.cO rfl T.gd (dv 3)))))
theorem Kj {j:List Str} {c:List D} (d:E7 K mg "chain" ki ["rules", "one", "other", "most"] j c) (m:yZ P w K mg af k n) (a:yd P w K mg af k n) (o:yW P w K mg af k p) (q:JP P w K mg af k r):
  eZ P w K mg af (k+1) "chain" ["rules", "one", "other", "most"] j c true (cv true 6 (LJ n p r)):=
 jiq d Fj λf u A i s H E e=>
  (qr (WV 4 Fj.nd (fK.s (dW.cr (l:= .t) (λh=>h rfl) m e (dv 0) (ja (dv 1) (ja (dv 3) je))))) (qr (WV 5 Fj.nd (fK.s (dW.cr (l:= .t) (λh=>h rfl) m e (dv 0) (ja (dv 2) (ja (dv 3) je))))) (qr (DS.x (qd (jO (xL (aE.bp e)) Zi (DE.b (jz (dv 4) ib)) (DE.b (jz (dv 5) ib))) (ji (jB (Qp (l:= .t)))) jv)) (zN (DS.x (jB (qa jX qj (DE.s (Av.aB o e (ja (dv 0) (ja (dv 1) (ja (jz (dv 4) ib) je))))) (DE.s (Av.aB q e (ja (dv 0) (ja (dv 2) (ja (jz (dv 5) ib) je))))))))))))
theorem Yi (d:Dx K mg "_law_caught" yx ["_law_rules", "_law_one", "_law_other", "_law_limit", "_law_deed"]) (I:yZ P w K mg af k z) (n:yd P w K mg af k z) (u:LU P w K mg af k v) (j:uQ P w K mg af k v) (m:uP P w K mg af k v):
  yY P w K mg af (k+1) (aD true 7 (Zq z v)):=
 qB true d oP λf J A y s H E o=>
  (jf (jp 5 oP.nd (Qp (l:= .s))) (jf (jp 6 oP.nd (JM (l:= .s))) (jf (jh2 [("TooGreat",(jr 6 (cS "great"))),("TooLong",(jr 6 (cS "long")))] (λL N=>by exact (ve (jO (qY (aE.bp o)) xo (vb 4) ib) (Zy (WU 5 oP.nd (fK.s (dW.cr (l:= .t) (λh=>h rfl) I o (dv 0) (ja (dv 1) (ja (dv 3) je)))))) (ve (jO (qY (aE.bp o)) xo (vb 4) ib) (Zy (WU 5 oP.nd (fK.s (eZ.call u o (ja (dv 0) (ja (dv 1) (ja (dv 2) (ja (dv 3) je)))) Lw (by intro r B p;cases p;rfl))))) (ve (jO (qY (aE.bp o)) xo (vb 4) ib) (Zy (WU 5 oP.nd (fK.s (eZ.call j o (ja (dv 0) (ja (dv 1) (ja (dv 2) je))) Lw (by intro r B p;cases p;rfl))))) (Zy (Th (jO (qY (aE.bp o)) xo (vb 4) ib) (Zy (WU 5 oP.nd (fK.s (eZ.call m o (ja (dv 0) (ja (dv 1) (ja (dv 2) je))) (jke (dv 3)) (by intro r B p;obtain ⟨_,_,p⟩:=jd p;cases p;rfl))))) jfj)))))) (λc O q=>by
   by_cases a:c= "TooGreat"
   . subst a;rw [Ud] at q;cases q;exact (HB.miss T.e9 T.bb (HB.hit T.gf T.bD (λe=>by exact (ji (jp 6 oP.nd (JM (l:= .s))))) rfl (by decide)) rfl (by decide))
   rw [Uc a] at q
   by_cases i:c= "TooLong"
   . subst i;rw [Ud] at q;cases q;exact (HB.hit T.e9 T.bN (λe=>by exact (ji (jp 6 oP.nd (JM (l:= .s))))) rfl (by decide))
   rw [Uc i] at q
   cases q)) (ji (jB (jK (ja (dv 6) (ja (dv 5) je))))))))
theorem Kk (d:Dx K mg "_law_whole" Jh ["_law_thing"]):
  JR P w K mg af (k+1) (aD true 1 (Wp)):=
 qB true d jlM λf c A a s H E e=>
  (ji (jB (Wz (qz (l':= .b) "int" "int" ue (vb 0) rfl T.ax rfl T.pF LV) (Wy (Do (l:= .t) (qz (l':= .b) "bool" "bool" Xy (vb 0) rfl T.ax rfl T.lE Fk))))))
theorem Kq (d:Dx K mg "_law_kinds" Jn ["_law_found"]) (e:JR P w K mg af k h):
  JU P w K mg af (k+1) (aD true 2 (Ws h)):=
 qB true d LS λf i A a s H E c=>
  (jf (qd (qk (j6 (qz (l':= .b) "list" "list" Uh (vb 0) rfl T.ax rfl T.cO zG))) (ji (jB (zm (l:= .t)))) jv) (jf (zF gg rfl (ql (dv 0)) (jq 1 LS.nd) (jf (qd (DW.dt (QR (qk (j6 (qz (l':= .b) "tuple" "tuple" jP (vb 1) rfl T.ax rfl T.a4 gp))) (QR (jO (xL (aE.bp c)) Zi (jG (l':= .b) jE qA rfl T.bq ff (ja (vb 1) je)) ib) (Jb (qk (j6 (qz (l':= .b) "bool" "bool" Xy (DE.b (jz (dv 1) ib)) rfl T.ax rfl T.lE Fk))))))) (ji (jB (zm (l:= .t)))) jv) (ji (qd (DW.dt (QR (qk (j6 (qz (l':= .b) "tuple" "tuple" jP (DE.b (jz (dv 1) ib)) rfl T.ax rfl T.a4 gp))) (Jb (qk (j6 (DE.b (Av.aB e c (ja (jz (dv 1) ib) je)))))))) (ji (jB (zm (l:= .t)))) jv)))) (ji (jB (zm (l:= .t))))))
theorem Kp (d:Dx K mg "_law_leads" Jm ["_law_some", "_law_found", "_law_one", "_law_other", "_law_forth", "_law_back"]) (m:JU P w K mg af k n) (j:xT P w K mg af k o):
  JT P w K mg af (k+1) (aD true 11 (Jz n o)):=
 qB true d se λf p A i s H E c=>
  (jf (qd (DW.dt (QR (qk (j6 (DE.b (Av.aB m c (ja (dv 1) je))))) (Jb (jO (xL (aE.bp c)) Zi (DE.b (wq false ["_law_step", "."] 1 [] (zf none rfl rfl (by decide+kernel) trivial rfl) rfl (ql (dv 1)) (λC e h q a=>⟨(jq 0 a),zB,(jz (dv 0) ib)⟩))) (DE.b (qa jX qj (DE.s (qa G8 Lm (DE.s (wa (ja (zm (l:= .s)) je))) (jG (l':= .s) jE qA rfl T.bq ff (ja (vb 4) je)))) (DE.s (qa G8 Lm (DE.s (wa (ja (zm (l:= .s)) je))) (jG (l':= .s) jE qA rfl T.bq ff (ja (vb 5) je)))))))))) (ji (jB (zm (l:= .t)))) jv) (jf (qd (jO (xL (aE.bp c)) Zi (DE.b (wq false ["_law_step", "."] 1 [] (zf none rfl rfl (by decide+kernel) trivial rfl) rfl (ql (dv 1)) (λC e h q a=>⟨(jq 0 a),zB,(DE.s (jK (ja (jz (dv 0) ib) (ja (jz (dv 0) ib) je))))⟩))) (DE.b (qa jX qj (dv 4) (DE.s (YO rfl rfl T.cO rfl T.gd (dv 5)))))) (ji (jB (zm (l:= .t)))) jv) (jf (jp 6 se.nd (dv 2)) (jf (zF gg rfl (ql (dv 1)) (jia rfl (jq 7 se.nd) (jq 8 se.nd) (jq 9 se.nd) (jq 10 se.nd)) (jf (qd (DW.dt (UC (UD (vb 7)) (XU (jO (IF (aE.bp c)) (Ep true) (DE.b (jK (ja (dv 8) (ja (dv 9) (ja (dv 10) je))))) (DE.b (Av.aB j c (ja (dv 0) (ja (dv 6) je)))))))) (ji (jB (zm (l:= .t)))) jv) (jf (qd (DW.dt (UC (qk (UD (vb 7))) (XU (jO (IF (aE.bp c)) (Ep true) (DE.b (jK (ja (dv 8) (ja (dv 9) (ja (dv 6) je))))) (DE.b (Av.aB j c (ja (dv 0) (ja (dv 10) je)))))))) (ji (jB (zm (l:= .t)))) jv) (ji (jp 6 se.nd (dv 10)))))) (ji (jB (JN (l:= .t) (qY (aE.bp c)) xo (vb 6) (vb 3))))))))
theorem Kt (d:Dx K mg "_law_asked" Jq ["_law_some", "_law_rules", "_law_one", "_law_other", "_law_limit", "_law_left_out"]) (c:yY P w K mg af k h) (i:JT P w K mg af k j):
  JX P w K mg af (k+1) (aD true 10 (Wv h j)):=
 qB true d sg λf m A e s H E a=>
  (jf (jp 6 sg.nd dL) (jf (qd (UD (vb 5)) (jf (jp 4 sg.nd dL) (ji (jp 6 sg.nd dL))) jv) (jf (jp 7 sg.nd (DE.s (Av.aB c a (ja (dv 1) (ja (dv 2) (ja (dv 3) (ja (dv 4) (ja (dv 6) je)))))))) (jf (qd (DW.dt (UC (jO (qY (aE.bp a)) xo (Zk (vb 4) ib) ib) (XU (jO (xL (aE.bp a)) Zi (DE.b (Av.aB c a (ja (dv 1) (ja (dv 2) (ja (dv 3) (ja (dv 4) (ja dL je))))))) (vb 7))))) (ji (jB (zm (l:= .t)))) jv) (jf (jp 8 sg.nd (DE.s (Av.aB c a (ja (dv 1) (ja (dv 2) (ja (Qp (l:= .s)) (ja (dv 4) (ja dL je)))))))) (jf (qd (jO (xL (aE.bp a)) Zi (DE.b (jz (dv 8) ib)) (JM (l:= .b))) (ji (jB (JN (l:= .t) (qY (aE.bp a)) xo (vb 7) (DE.b (jK (ja (jz (dv 8) ib) (ja (Qp (l:= .s)) je))))))) jv) (jf (jp 9 sg.nd (DE.s (Av.aB c a (ja (dv 1) (ja (dv 3) (ja (Qp (l:= .s)) (ja (dv 4) (ja dL je)))))))) (jf (qd (jO (xL (aE.bp a)) Zi (DE.b (jz (dv 9) ib)) (JM (l:= .b))) (ji (jB (JN (l:= .t) (qY (aE.bp a)) xo (vb 7) (DE.b (jK (ja (jz (dv 9) ib) (ja (Qp (l:= .s)) je))))))) jv) (jf (qd (jO (xL (aE.bp a)) Zi (DE.b (jz (jz (dv 8) ib) ib)) (DE.b (jz (jz (dv 9) ib) ib))) (ji (jB (JN (l:= .t) (qY (aE.bp a)) xo (vb 7) (DE.b (jK (ja (JM (l:= .s)) (ja (Qp (l:= .s)) je))))))) jv) (ji (jB (Wz (JN (l:= .b) (qY (aE.bp a)) xo (DE.b (jz (dv 7) ib)) (JM (l:= .b))) (Wy (Av.aB i a (ja (dv 0) (ja (jz (dv 7) ib) (ja (dv 2) (ja (dv 3) (ja (jz (jz (dv 8) ib) ib) (ja (jz (jz (dv 9) ib) ib) je))))))))))))))))))))
theorem jjo {f:Addr} {j:lc} (y:hZ K "law" "law" Y8 f j) (h:JW P w K mg af k z) (B:JS P w K mg af k I) {m:Nat} (n:zS P w K mg af m J) (o:m+1<=k) (p:ye P w K mg af k L) (q:QZ P w K mg af k N) (O:xT P w K mg af k Q) (Yc:xD P w K mg af k xx) (r:wS P w K mg af k zr) (Yl:yf P w K mg af k yc) (u:xB P w K mg af k jT) (v:JX P w K mg af k xQ) (qc:zg P w K mg af k jy):
  bR P w K mg af fQ (k+1) f j ["_law_script"] (lj K true 1 (aD true 13 (LK z I J L N Q xx zr yc jT xQ jy))):=
 Rl true y lH λvD A i s H E a=>
  (jf (jp 1 lH.nd (DE.s (Av.aB h a (ja (by exact Av.call p a (ja (dv 0) (ja dL je))) je)))) (jf (jp 2 lH.nd (DE.s (Av.aB B a (ja (dv 1) je)))) (jf (wX 3 lH.nd (wa (ja (DE.s (Av.aB q a (ja (gA Qa Qb (vb 1) ib) (ja (dv 2) (ja dL je))))) je))) (jf (qd (jO VG VT (Zk (vb 1) ib) ib) (ji (xz 3 (DE.s (Av.aB q a (ja (DE.s (Av.aB h a (ja (by exact Av.call p a (ja (dv 0) (ja dL je))) je))) (ja (dv 2) (ja dL je))))))) jv) (jf (XV 3 (uB 4 lH.nd false ["_law_left", "_law_right", "."] 2 [] (zf none rfl rfl (by decide+kernel) trivial rfl) rfl (ql (dv 3)) (λC d e fp c=>⟨(wI rfl (jq 0 c) (jq 1 c)),(Hq (jO (SK (aE.bp a)) (Ep false) (vb 1) (DE.b (wq false ["_law_path", "_law_part_of", "."] 2 [] (zf none rfl rfl (by decide+kernel) trivial rfl) rfl (ql (DE.s (Av.aB qc a (ja (dv 0) je)))) (λC d e fp c=>⟨(wI rfl (jq 0 c) (jq 1 c)),zB,(dv 1)⟩))))),(dv 1)⟩))) (jf (XV 3 (jp 5 lH.nd (DE.s (rZ.make n (a.mono o) (ja (DE.s (wJ wK X1 rfl T.cO zG (ja (dv 3) je))) je))))) (jf (zF gg rfl (ql (DE.s (WA (dv 0) (wp ib) (wp ib)))) (jq 6 lH.nd) (jf (jp 7 lH.nd (DE.s (Av.aB h a (ja (dv 6) je)))) (jf (jp 8 lH.nd (jz (DE.s (Av.aB u a (ja (gA Qa Qb (vb 7) ib) (ja (dv 2) (ja dL je))))) ib)) (jf (jp 9 lH.nd (jz (DE.s (Av.aB u a (ja (DE.s (Av.aB h a (ja (DE.s (qa jX qj (dv 6) dL)) je))) (ja (dv 2) (ja dL je))))) ib)) (jf (XV 3 (jp 10 lH.nd (DE.s (Av.aB O a (ja (dv 3) (ja (dv 8) je)))))) (jf (qd (DW.dt (UC (jO (qY (aE.bp a)) xo (Zk (vb 7) ib) ib) (XU (jO (xL (aE.bp a)) Zi (vb 10) (DE.b (wa je)))))) (ji (jp 9 lH.nd (jz (jz (dv 10) (Zk (VU (vb 7) ib) (jG (l':= .b) jE qA rfl T.bq ff (ja (vb 10) je)))) ib))) jv) (jf (jp 11 lH.nd (Wz (JN (l:= .b) (qY (aE.bp a)) xo (Zk (VU (vb 7) ib) ib) ib) (Wy (JN (l:= .s) (qY (aE.bp a)) xo (jG (l':= .b) jE qA rfl T.bq ff (ja (vb 4) je)) (jG (l':= .b) jE qA rfl T.bq ff (ja (db 3) je)))))) (ji (qd (qk (j6 (Av.xG v a (ja (db 3) (ja (vb 5) (ja (vb 8) (ja (vb 9) (ja (Zk (VU (vb 7) ib) ib) (ja (vb 11) je))))))))) (ji (jB (zm (l:= .t)))) jv))))))))) (jf (qd (jO (qY (aE.bp a)) xo (Zk (VU (vb 1) ib) ib) ib) (jf (jp 12 lH.nd (DE.s (Av.aB Yc a (ja (dv 2) je)))) (jf (jp 8 lH.nd (DE.s (Av.aB r a (ja (dv 2) (ja (DE.s (qa jX qj dL (gA Zf Zj (VU (vb 1) ib) ib))) je))))) (ji (qd (qk (j6 (DE.b (Av.aB v a (ja (dv 12) (ja (DE.s (rZ.make n (a.mono o) (ja (DE.s (wJ wK X1 rfl T.cO zG (ja (dv 12) je))) je))) (ja (dv 8) (ja (DE.s (Av.aB r a (ja (dv 2) (ja dL je)))) (ja dL (ja (zm (l:= .s)) je)))))))))) (ji (jB (zm (l:= .t)))) jv)))) jv) (ji (jB (JN (l:= .t) (qY (aE.bp a)) xo (DE.b (gS.rY Yl a (dv 5))) (db 3))))))))))))
end
def all_mk {l:vu} {w:World} {K:aC} {h:Heap} {d:W0} {fa Fn:Addr} (c:K.In h) (G:h.Ns bM d) (hfa:d "law" =some (.ref fa))
  {Fo Q:Option Addr} {Fp:Array (Option Value)} {Fq Y Ao Ap I Aq:Value} {T7 T6:Addr} {B:Addr}
  (d0:bj K "_law_great" Jp)
  (d1:bj K "_law_names" Jk)
  (d2:bj K "places" Y7)
  (d3:bj K "parts" kh)
  (d4:bj K "head" Fb)
  (d5:bj K "all_heads" Qz)
  (d6:bj K "level_below" yu)
  (d7:bj K "is_great" ZS)
  (d8:bj K "is_whole" ZQ)
  (d9:bj K "is_blank" ZT)
  (Fs:bj K "is_name" W6)
  (Ft:bj K "is_piece" ZR)
  (Fv:bj K "is_term" W4)
  (Fw:bj K "blanks" Y9)
  (Fx:bj K "is_rule" W5)
  (Fy:bj K "are_rules" Qy)
  (Fz:i3 K B "__init__" "Rules.__init__" zK)
  (FA:bj K "_law_cell_at" x9)
  (BY:bj K "_law_term" QB)
  (BZ:bj K "_law_fill" QD)
  (B0:bj K "_law_parts" Jj)
  (FC:bj K "_law_grows" Jo)
  (FD:bj K "_law_rule" QC)
  (B1:bj K "_law_match" Jl)
  (B2:bj K "_law_with" QA)
  (FE:bj K "_law_steps" Ji)
  (FG:bj K "_law_chain_of" xl)
  (FH:bj K "_law_counting" xk)
  (FK:bj K "_law_number_of" wN)
  (FL:i3 K B "told" "Rules.told" ya)
  (B3:bj K "paths" kg)
  (B4:bj K "fits_on" W8)
  (FM:bj K "fitting" W7)
  (FN:bj K "bounded" W9)
  (B5:bj K "put_there" Qw)
  (B6:bj K "exchanged" Qx)
  (FP:bj K "stepped" W3)
  (FQ:i3 K B "steps" "Rules.steps" xm)
  (B7:i4 K B "end" "Rules.end" yy 200)
  (FR:i3 K B "is_step" "Rules.is_step" we)
  (FS:bj K "place_there" yt)
  (FT:bj K "part_there" Jf)
  (FU:bj K "part_stepped_on" wc)
  (FV:i3 K B "walked_on" "Rules.walked_on" zw)
  (FW:bj K "chain_forth" yw)
  (FX:i3 K B "walked" "Rules.walked" wO)
  (FY:bj K "chain_back" Jg)
  (Ar:gT K "chain" ki 200)
  (FZ:bj K "_law_caught" yx)
  (F0:bj K "_law_whole" Jh)
  (F1:bj K "_law_kinds" Jn)
  (F3:bj K "_law_leads" Jm)
  (F4:bj K "_law_asked" Jq)
  (F5:cg K bM "law" =some (some (.ref Fn))) (F6:K.lookup Fn=some ⟨Fq,Fo,.func (gK "law" "law" (qW Y8) (jQ Y8) (jg Y8) .none Y Ao Ap Q I Aq),Fp⟩) (F7:nT K I "law" =true) (F8:gj K (.ref Fn)=true)
  (z0:cg K bM "isinstance" =some none)
  (z1:cg K bM "bool" =some none)
  (z2:cg K bM "int" =some none)
  (z3:cg K bM "all" =some none)
  (z4:cg K bM "len" =some none)
  (z5:cg K bM "tuple" =some none)
  (z6:cg K bM "list" =some none)
  (z7:cg K bM "sorted" =some none)
  (z8:cg K bM "reversed" =some none)
  (z9:cg K bM "set" =some none)
  (F9:cg K bM "range" =some none)
  (Ga:cg K bM "str" =some none)
  (Gb:cg K bM "enumerate" =some none)
  (Ge:cg K bM "zip" =some none)
  (fg: ∃t,cg K bM "LETTERS" =some (some (.str "abcdefghijklmnopqrstuvwxyz" t)))
  (p: ∃t,cg K bM "MOST_LETTERS" =some (some (.int 8 t)))
  (q: ∃t,cg K bM "MOST_PLACES" =some (some (.int 9 t)))
  (u: ∃t,cg K bM "MOST_BLANK" =some (some (.int 999 t)))
  (r: ∃t,cg K bM "MOST_LEVELS" =some (some (.int 60 t)))
  (y: ∃t,cg K bM "MOST_PARTS" =some (some (.int 1000 t)))
  (z: ∃t,cg K bM "MOST_RULES" =some (some (.int 40 t)))
  (Qh:cg K bM "Rules" =some (some (.ref B))) (Zc:tV K B Str.empty=true) (Zo:AN K B=true) (Zb:CS K B=true) (Q7:lb K (.ref B) "__setattr__" =some (some (.builtin "object.__setattr__")))
  (xp:lb K (.ref B) "listed" =some none)
  (yb:lb K (.ref B) "named" =some none)
  (Kx:tX K B=true) (KB:gj K (.ref B)=true)
  (i:cg K bM "TooGreat" =some (some (.ref T7)))
  (o:cg K bM "TooLong" =some (some (.ref T6)))
  (cz:rS K T7 [.type "ValueError",.type "Exception",.type "BaseException",.type "object"] "ValueError.__new__" =true)
  (H:rS K T6 [.type "ValueError",.type "Exception",.type "BaseException",.type "object"] "ValueError.__new__" =true)
  (bb:pE K (.ref T7) (.ref T6)=some false)
  (j:pE K (.ref T7) (.ref T7)=some true)
  (m:pE K (.ref T6) (.ref T6)=some true)
  : ∃fd:lc,(∀(s:aM) (v:Value),BindsTo s fd ⟨[v],[]⟩ [("_law_script",v)])/\ ∀a:Heap,K.In a->a.Ns bM d->bR l.prog w K d a fQ 73 fa fd ["_law_script"] (lj K true 1 nG):=by
 have e:=hfa.symm.trans (lS c G F5);cases e;have T:Gm K T7 T6 d:=⟨lU c G z0,lU c G z1,lU c G z2,lU c G z3,lU c G z4,lU c G z5,lU c G z6,lU c G z7,lU c G z8,lU c G z9,lU c G F9,lU c G Ga,lU c G Gb,lU c G Ge,fg.imp λ_ h=>lS c G h,p.imp λ_ h=>lS c G h,q.imp λ_ h=>lS c G h,u.imp λ_ h=>lS c G h,r.imp λ_ h=>lS c G h,y.imp λ_ h=>lS c G h,z.imp λ_ h=>lS c G h,⟨B,Qh,⟨Zc,Zo,Zb,Q7⟩,xp⟩,⟨B,Qh,⟨Zc,Zo,Zb,Q7⟩,yb⟩,lS c G i,lS c G o,i,cz,o,H,(λC hC=>by have e:=hC.symm.trans i;cases e;exact bb),(λC hC=>by have e:=hC.symm.trans i;cases e;exact j),(λC hC=>by have e:=hC.symm.trans o;cases e;exact m)⟩
 have U:=Hc (st:=Y8) F6 F7 F8;have xR:cg K bM "Rules" =some (some (.ref B))/\fm K B:=⟨Qh,Zc,Zo,Zb,Q7⟩
 refine ⟨gK "law" "law" (qW Y8) (jQ Y8) (jg Y8) .none Y Ao Ap Q I Aq,λs v=> .of_eq rfl,λa _ _=>?_⟩;have V0:JW l.prog w K d a 1 zH:=Ks (k:=0) T (d0.dx c G fA);have V1:JS l.prog w K d a 1 J2:=Kn (k:=0) T (d1.dx c G fA);have V2:xS l.prog w K d a 1 jR:=jb7 (k:=0) T (d2.dx c G fA)
 have V3: ∀n,QW l.prog w K d a (1+n) (qh n):=by
  intro n
  induction n with
  |zero=>exact UW true (d3.dx c G fA)
  |succ n E=>exact jeH (k:=1+n) T (d3.dx c G fA) (V2.mono (by omega)) E
 have V4:uR l.prog w K d a 1 wY:=jhj (k:=0) T (d4.dx c G fA);have V5:QY l.prog w K d a 66 y6:=VL (k:=65) T (d5.dx c G fA) ((V3 64).mono (by decide)) (V4.mono (by decide));have V6:yU l.prog w K d a 2 qN:=Yg (k:=1) T (d6.dx c G fA) (V2.mono (by decide));have V7:Qi l.prog w K d a 3 xg:=kF (k:=2) T (d7.dx c G fA) (V6.mono (by decide));have V8:yp l.prog w K d a 1 qT:=kB (k:=0) T (d8.dx c G fA);have V9:Wg l.prog w K d a 2 xh:=kG (k:=1) T (d9.dx c G fA) (V8.mono (by decide));have V10:X7 l.prog w K d a 1 JZ:=jar (k:=0) T (Fs.dx c G fA);have V11:Wf l.prog w K d a 3 yq:=kE (k:=2) T (Ft.dx c G fA) (V9.mono (by decide)) (V10.mono (by decide));have V12:X5 l.prog w K d a 66 ZI:=jap (k:=65) T (Fv.dx c G fA) (V7.mono (by decide)) (V11.mono (by decide)) ((V3 64).mono (by decide));have V13:Vc l.prog w K d a 66 Vd:=jb8 (k:=65) T (Fw.dx c G fA) ((V3 64).mono (by decide));have V14:X6 l.prog w K d a 67 ZJ:=jaq (k:=66) T (Fx.dx c G fA) (V12.mono (by decide)) (V13.mono (by decide));have V15:QX l.prog w K d a 68 xE:=VJ (k:=67) T (Fy.dx c G fA) (V14.mono (by decide));have V16:zS l.prog w K d a 69 qt:=QJ (k:=68) T (Fz.dm lD) xR (lS c G Qh) ⟨Kx,KB⟩ (V5.mono (by decide)) (V15.mono (by decide));have V17:ye l.prog w K d a 1 wD:=Xo (k:=0) T (FA.dx c G lD)
 have LX: ∀n,xB l.prog w K d a (0+n) (jV n):=by
  intro n
  induction n with
  |zero=>exact UW true (BY.dx c G ka)
  |succ n E=>exact VN (k:=0+n) T (BY.dx c G ka) E
 have LY: ∀n,xC l.prog w K d a (0+n) (qO n):=by
  intro n
  induction n with
  |zero=>exact UW false (BZ.dx c G lD)
  |succ n E=>exact VP (k:=0+n) T (BZ.dx c G lD) E
 have J: ∀n,zg l.prog w K d a (0+n) (jH n):=by
  intro n
  induction n with
  |zero=>exact UW true (B0.dx c G fA)
  |succ n E=>exact Km (k:=0+n) T (B0.dx c G fA) E
 have V21:JV l.prog w K d a 65 wL:=Kr (k:=64) T (FC.dx c G lD) ((J 64).mono (by decide));have V22:QZ l.prog w K d a 66 y7:=VO (k:=65) T (FD.dx c G ka) ((LX 6).mono (by decide)) ((LY 64).mono (by decide)) (V21.mono (by decide)) ((J 64).mono (by decide))
 have V23: ∀n,xU l.prog w K d a (0+n) (jI n):=by
  intro n
  induction n with
  |zero=>exact Lg (B1.dx c G ka) rfl
  |succ n E=>exact Ko (k:=0+n) T (B1.dx c G ka) E
 have V24: ∀n,yX l.prog w K d a (0+n) (qu n):=by
  intro n
  induction n with
  |zero=>exact UW false (B2.dx c G ka)
  |succ n E=>exact VM (k:=0+n) T (B2.dx c G ka) E
 have LZ:xT l.prog w K d a 65 qF:=Kl (k:=64) T (FE.dx c G lD) ((J 64).mono (by decide)) ((V23 64).mono (by decide)) ((V24 64).mono (by decide)) ((LY 64).mono (by decide));have L0:zR l.prog w K d a 1 zV:=WC (k:=0) T (FG.dx c G ka);have V27:xD l.prog w K d a 2 xF:=WB (k:=1) T (FH.dx c G fA) (L0.mono (by decide));have V28:wS l.prog w K d a 2 zt:=Z3 (k:=1) T (FK.dx c G lD) (L0.mono (by decide));have V29:yf l.prog w K d a 1 yg:=Xp (k:=0) T (FL.dm fA) xR
 have V30: ∀n,Vb l.prog w K d a (1+n) (wU n):=by
  intro n
  induction n with
  |zero=>exact UW true (B3.dx c G fA)
  |succ n E=>exact jeG (k:=1+n) T (B3.dx c G fA) (V2.mono (by omega)) E
 have V31: ∀n,ZH l.prog w K d a (1+n) (jM n):=by
  intro n
  induction n with
  |zero=>exact Lg (B4.dx c G ka) rfl
  |succ n E=>exact jat (k:=1+n) T (B4.dx c G ka) (V4.mono (by omega)) (V2.mono (by omega)) E
 have L1:ZG l.prog w K d a 66 zh:=jas (k:=65) T (FM.dx c G lD) ((V31 64).mono (by decide));have L:JQ l.prog w K d a 4 qD:=jau (k:=3) T (FN.dx c G fA) (V7.mono (by decide))
 have V34: ∀n,yS l.prog w K d a (0+n) (wx n):=by
  intro n
  induction n with
  |zero=>exact UW false (B5.dx c G ka)
  |succ n E=>exact VH (k:=0+n) T (B5.dx c G ka) E
 have V35: ∀n,yV l.prog w K d a (1+n) (zC n):=by
  intro n
  induction n with
  |zero=>exact UW false (B6.dx c G lD)
  |succ n E=>exact VI (k:=1+n) T (B6.dx c G lD) E (V2.mono (by omega))
 have L3:ZF l.prog w K d a 66 qR:=jao (k:=65) T (FP.dx c G tk4) (L.mono (by decide)) ((V34 64).mono (by decide)) ((V35 64).mono (by decide));have L4:JY l.prog w K d a 67 jw:=WD (k:=66) T (FQ.dm lD).x xR ((V30 64).mono (by decide)) ((V3 64).mono (by decide)) (L1.mono (by decide)) (L3.mono (by decide));have N:yZ l.prog w K d a 68 jo:=Qm (k:=67) T B7.d3 xR (L4.mono (by decide)) (L.mono (by decide));have O:yd l.prog w K d a 68 jo:=Qm (k:=67) T B7.d2 xR (L4.mono (by decide)) (L.mono (by decide));have V39:wv l.prog w K d a 2 zp:=Zh (k:=1) T (FR.dm lD) xR (V8.mono (by decide));have V40:yT l.prog w K d a 2 zT:=Yf (k:=1) T (FS.dx c G lD) (V2.mono (by decide)) (V8.mono (by decide));have V41:JO l.prog w K d a 3 xV:=Kh (k:=2) T (FT.dx c G lD) (V40.mono (by decide));have V42:wu l.prog w K d a 4 zn:=Zg (k:=3) T (FU.dx c G lD) (V41.mono (by decide));have L5:qM l.prog w K d a 67 jN:=Qj (k:=66) T (FV.dm ka) xR (L1.mono (by decide)) (L3.mono (by decide)) (V39.mono (by decide)) (V42.mono (by decide));have Gf:yW l.prog w K d a 68 y0:=Yh (k:=67) T (FW.dx c G ka) (L5.mono (by decide));have V45:wT l.prog w K d a 68 qo:=Z4 (k:=67) T (FX.dm ka) xR (L.mono (by decide)) (L5.mono (by decide));have Gg:JP l.prog w K d a 69 J0:=Ki (k:=68) T (FY.dx c G ka) (V45.mono (by decide));have V47:LU l.prog w K d a 70 zU:=Kj (k:=69) T (gT.g false Ar c G tg4) (N.mono (by decide)) (O.mono (by decide)) (Gf.mono (by decide)) (Gg.mono (by decide));have W47:uQ l.prog w K d a 70 zU:=Kj (k:=69) T (gT.g true Ar c G tg3) (N.mono (by decide)) (O.mono (by decide)) (Gf.mono (by decide)) (Gg.mono (by decide));have Gh:uP l.prog w K d a 70 zU:=Kj (k:=69) T (gT.g false Ar c G tgk) (N.mono (by decide)) (O.mono (by decide)) (Gf.mono (by decide)) (Gg.mono (by decide));have V48:yY l.prog w K d a 71 zo:=Yi (k:=70) T (FZ.dx c G tk5) (N.mono (by decide)) (O.mono (by decide)) (V47.mono (by decide)) (W47.mono (by decide)) (Gh.mono (by decide));have V49:JR l.prog w K d a 1 J1:=Kk (k:=0) T (F0.dx c G fA);have V50:JU l.prog w K d a 2 xX:=Kq (k:=1) T (F1.dx c G fA) (V49.mono (by decide));have V51:JT l.prog w K d a 66 xW:=Kp (k:=65) T (F3.dx c G Ln) (V50.mono (by decide)) (LZ.mono (by decide));have V52:JX l.prog w K d a 72 wM:=Kt (k:=71) T (F4.dx c G Ln) (V48.mono (by decide)) (V51.mono (by decide));exact jjo (k:=72) T U (V0.mono (by decide)) (V1.mono (by decide)) V16 (by decide) (V17.mono (by decide)) (V22.mono (by decide)) (LZ.mono (by decide)) (V27.mono (by decide)) (V28.mono (by decide)) (V29.mono (by decide)) ((LX 6).mono (by decide)) (V52.mono (by decide)) ((J 64).mono (by decide))
end G
namespace G
open PySem PySem.Spec L2 M
open Builtin.Int (intBits)
local macro_rules | `(tactic| decreasing_trivial) => `(tactic| first
  | (dsimp only [List.set, jbs, jbp, jbr, jbo, jee, jbq, jbn, jbm])
  | (with_reducible (show _ = _; assumption))
  | (with_reducible first | apply jA | apply Qt | apply jla | apply jlc | apply qm | apply yz | apply jkZ | apply jh | apply jc | apply jjw | apply jlj | apply jlk | apply jli | apply jn | apply qC | apply zJ | apply Ua | apply jjQ | apply jC | apply zc | apply YT | apply Kg | apply wz | apply wy | apply y9 | apply jgI | apply jj1 | apply jkv | apply jh6 | apply Lz | apply jiZ | apply YB | apply vY | apply fu | apply E8 | apply LD | apply ub | apply jjy | apply jgQ | apply jhc | apply jk5 | apply dg | apply Ai | apply LC | apply jhW | apply jgE | apply sml | apply E9 | apply Ia | apply WW | apply K3 | apply jjT | apply jd9 | apply jfF | apply LG)
  | ((with_reducible apply jkP); exact rfl) | ((with_reducible apply jkQ); exact rfl)
  | ((with_reducible show cD _ = _); exact rfl)
  | ((with_reducible show Em _ = _); exact rfl)
  | ((with_reducible show fI _ _ = _); exact rfl)
  | ((with_reducible show aT _ = _); exact rfl)
  | ((with_reducible show List.contains _ _ = _); exact rfl)
  | ((with_reducible show iZ _ _ _ = _); exact rfl)
  | ((with_reducible show getElem? _ _ = _); exact rfl)
  | ((with_reducible show List.length _ = _); exact rfl)
  | ((with_reducible show wP _ = _); exact rfl)
  | ((with_reducible show sM _ = _); exact rfl)
  | ((with_reducible show Bg _ _ = _); exact rfl)
  | ((with_reducible show nB _ _ = _); exact rfl)
  | ((with_reducible show eW _ _ _ = _); exact rfl)
  | ((with_reducible show Yq _ = _); exact rfl)
  | ((with_reducible show Yj _ = _); exact rfl)
  | ((with_reducible show aX _ _ = _); exact rfl)
  | ((with_reducible show mi _ _ _ = _); exact rfl)
  | ((with_reducible show eV _ _ _ _ = _); exact rfl)
  | ((with_reducible show ite _ _ _ = _); first | refine LB (by first | rfl | assumption) ?_ | refine jk3 (by first | rfl | assumption) ?_)
  | ((with_reducible show _ < _); first | omega | (simp only [bO, dY, cP, dc]; omega)) | ((with_reducible show _ <= _); first | omega | (simp only [bO, dY, cP, dc]; omega)) | ((with_reducible show _ /\ _); omega))
local macro_rules | `(tactic| decreasing_with $t) => `(tactic| (apply Eq.trans (b := ao.ok _); (repeat' decreasing_trivial); all_goals (try ($t))))
def i6:Str:= "abcdefghijklmnopqrstuvwxyz"
def nL (x:D) (r:List D):cutD (x::r) (some 1) none=r:=by
 have a:HT.bI (x::r).length 0 (some 1)=1:=by
  have:=HT.fP (x::r).length 0 1;simp only [bO] at this ⊢;exact this.trans (by omega)
 unfold cutD;rw [a,HT.eK];simp
def QI {d:D} (h:Bk d=true):jR [d]= .ok (.ak (bx d)):=by
 cases d with
 |ak a=>
  cases a with
  |nil=>rfl
  |cons x r=>
   show ao.ok (D.ak (cutD (x::r) (some 1) none))=_;rw [nL];rfl
 |_=>first|rfl|cases h
def Ue {c:List D} (h:bt c=true) (p:c.length<=1000):qN [.ai c]= .ok (.ai (xb c)):=by
 have m:=XQ (body:=qG (gN 2) (wm 1 (jk 1 jR (jb (ae 2) ag)))) (λ(a:List D×Slot)=>[.ah (.ai c),.aw (.ai a.1),a.2]) (λa d=>(a.1++bx d,.ah d)) (λi a=>bt i=true/\a.1.length+(xb i).length<=10000) (λd i a ⟨l,n⟩=>by
  simp only [bt,dD] at l;have e:xb (d::i)=bx d++xb i:=rfl;rw [e,cP] at n;refine ⟨?_,l.2,by simp only [cP];omega⟩;show wm 1 (jk 1 jR (jb (ae 2) ag)) [.ah (.ai c),.aw (.ai a.1),.ah d]=_;show (ao.ok a.1>>=λi=>jR [d]>>=_)=_;rw [QI (Zs l.1)]
  exact jl (cY (by omega:_<=10000) (by decide))) c ([],.un) ⟨h,by have:=RE h;simp only [dY];omega⟩
 have j: ∀(i:List D) (a:List D×Slot),(i.foldl (λ(a:List D×Slot) d=>(a.1++bx d,Slot.ah d)) a).1=a.1++xb i:=by
  intro i
  induction i with
  |nil=>intro a;simp [xb]
  |cons d i o=>intro a;rw [List.foldl_cons,o];simp [xb]
 have e1:w5 jR (j4 3 [.ai c])= .ok (.rt true (.ai (xb c))):=by
  unfold w5;have l:j4 3 [.ai c]=[.ah (.ai c),.un,.un]:=rfl;rw [l];show (a5 (qG (gN 2) (wm 1 (jk 1 jR (jb (ae 2) ag)))) c [.ah (.ai c),.aw (.ai []),.un]>>=_)=_;rw [m];show ao.ok (aW.rt true (D.ai (c.foldl (λ(a:List D×Slot) d=>(a.1++bx d,Slot.ah d)) ([],.un)).1))=_;rw [j];simp
 exact JJ e1
def YJ:Sl->ao aW:=(ap (jr 2 (al (ae 2) (cI 1) (mi λi j=>i+j)))
 (ap (jr 3 (al (ae 3) (app (jb (ae 1) ag) aT) (mi λi j=>i+j)))
 (ap (bu (fq (aO (al (ae 2) (cI 60) gw)) (aO (al (ae 3) (cI 1000) gw))) (aJ (cB true)) bo)
 (jr 1 (jk 1 qN (jb (ae 1) ag))))))
def jaK {d:D} {a:List D} {dp ct:Nat} (h:bt a=true):YJ [.ah d,.ah (.ai a),.ah (.int dp),.ah (.int ct)]=if 60<dp+1\/1000<ct+a.length then .ok (.rt true (.bl true)) else .ok (.nx [.ah d,.ah (.ai (xb a)),.ah (.int ((dp+1:Nat):Int)),.ah (.int ((ct+a.length:Nat):Int))]):=by
 have c:YJ [.ah d,.ah (.ai a),.ah (.int dp),.ah (.int ct)]=((if decide ((60:Int)< (dp:Int)+1)=true then ao.ok true else ao.ok (decide ((1000:Int)< (ct:Int)+a.length)))>>=λb=>(if b=true then ao.ok (aW.rt true (.bl true)) else ao.ok (.nx [.ah d,.ah (.ai a),.ah (.int ((dp:Int)+1)),.ah (.int ((ct:Int)+a.length))])))>>=iV (jr 1 (jk 1 qN (jb (ae 1) ag))):=by
   unfold YJ;rw [yn,yJ];show (ap _ _) _=_;rw [yn];rfl
 rw [c]
 by_cases e:60<dp+1
 . rw [if_pos (by simp;omega),if_pos (.inl e)];rfl
 . rw [if_neg (by simp;omega)]
   by_cases i:1000<ct+a.length
   . rw [if_pos (.inr i)];have:decide ((1000:Int)< (ct:Int)+a.length)=true:=by simp;omega
     rw [this];rfl
   . rw [if_neg (by omega)];have:decide ((1000:Int)< (ct:Int)+a.length)=false:=by simp;omega
     rw [this];show (qN [.ai a]>>=_)=_;rw [Ue h (by omega)];show ao.ok (aW.nx [.ah d,.ah (.ai (xb a)),.ah (.int ((dp:Int)+1)),.ah (.int ((ct:Int)+a.length))])=_;simp
theorem YI (d:D): ∀(n:Nat) (a:List D) (c e:Nat),bt a=true->c<=60->e<=1000->62<=c+n->
  ((60<c+bi a\/1000<e+nums a)->wV n (ck (ae 1)) YJ [.ah d,.ah (.ai a),.ah (.int c),.ah (.int e)]= .ok (.rt true (.bl true)))/\
  (¬(60<c+bi a\/1000<e+nums a)-> ∃j,wV n (ck (ae 1)) YJ [.ah d,.ah (.ai a),.ah (.int c),.ah (.int e)]= .ok (.nx j))
 |0,_,c,e,_,p,_,q=>by omega
 |n+1,a,c,e,l,p,q,w=>by
  cases a with
  |nil=>
   simp only [bi,nums];exact ⟨λh=>by omega,λ_=>⟨_,uV rfl⟩⟩
  |cons x r=>
   have i:=jaK (d:=d) (dp:=c) (ct:=e) l;have u:=RD (x::r) (by simp);have v:=RC (x::r)
   by_cases m:60<c+1\/1000<e+(x::r).length
   . rw [if_pos m] at i;exact ⟨λ_=>Rz rfl i,λh=>absurd (show 60<c+bi (x::r)\/1000<e+nums (x::r) by omega) h⟩
   . rw [if_neg m] at i;have o:=YI d n (xb (x::r)) (c+1) (e+(x::r).length) (kT l) (by omega) (by omega) (by omega);rw [Ry rfl i,u,v]
     constructor
     . intro h;exact o.1 (by omega)
     . intro h;exact o.2 (by omega)
def bU (d:D):Bool:=decide (60<bz d\/1000<num d)
def L6 {d:D} (h:cn d=true):xg [d]= .ok (.bl (bU d)):=by
 have a:=YI d 2000 [d] 0 0 (by simp [bt,h]) (by omega) (by omega) (by omega);have e1:bi [d]=bz d:=by simp [bi]
 have e2:nums [d]=num d:=by simp [nums]
 rw [e1,e2] at a;simp only [pi] at a
 have e:Qe qN (j4 4 [d])=(wV 2000 (ck (ae 1)) YJ [.ah d,.ah (.ai [d]),.ah (.int ((0:Nat):Int)),.ah (.int ((0:Nat):Int))]>>=iV (aJ (cB false))):=by
   unfold Qe;rw [yn];show (ap _ _) _=_;rw [yn];rfl
 by_cases c:60<bz d\/1000<num d
 . have:bU d=true:=by simp [bU,c]
   rw [this];refine JJ (o:= .rt true (.bl true)) ?_;rw [e,a.1 c];rfl
 . have:bU d=false:=by simp [bU];omega
   rw [this];obtain ⟨i,j⟩:=a.2 c;refine JJ (o:= .rt true (.bl false)) ?_;rw [e,j];rfl
def K8 {f:T4} {c:Sl} {a b:Nat} {x y:D} (h:f c= .ok (.ak [x,y])):fZ f (g2 (gN a) (gN b)) c= .ok (.nx ((c.set a (.ah x)).set b (.ah y))):=by
 show (f c>>=_)=_;rw [h];rfl
def isNm:D->Bool| .str z=>(decide (1<=(z.length:Int))&&decide ((z.length:Int)<=8))&&z.cps.toList.all (λc=>oF ⟨#[c]⟩ i6)|_=>false
def KC (z:Str):isNm (.str z)=((decide (1<=(z.length:Int))&&decide ((z.length:Int)<=8))&&z.cps.toList.all (λc=>oF ⟨#[c]⟩ i6)):=rfl
def uO {a:Type} (l:List a) (p:a->Bool):iS [.ai (l.map λc=>D.bl (p c))]= .ok (.bl (l.all p)):=by
 have:l.map (λc=>D.bl (p c))=(l.map p).map D.bl:=by simp
 rw [this];show (match Yk ((l.map p).map D.bl) with|some bs=>ao.ok (D.bl (bs.all id))|none=>ao.aj)=_;rw [QN];simp
def jbu (z:Str):(Y4 z).length=z.length:=by simp [Y4,Str.length]
def jjB {d:D} (h:Bk d=true):JZ [d]= .ok (.bl (isNm d)):=by
 cases d with
 |str z=>
  have e1:Jy (j4 1 [.str z])= .ok (.rt true (.bl (isNm (.str z)))):=by
   have p:j4 1 [.str z]=[.ah (.str z)]:=rfl;rw [p];have m:fI "str" (.str z)= .ok (.bl true):=rfl;have n:aT [.str z]= .ok (.int z.length):=rfl;rw [KC]
   by_cases o:(z.length:Int)<=8
   . have j:qv false 1 [] (b9 (ae 0)) (gN 0) qi (al (ae 0) (cS "abcdefghijklmnopqrstuvwxyz") inD) [.ah (.str z)]= .ok (.ai ((Y4 z).map λd=>D.bl (match d with| .str c=>oF c i6|_=>false))):=by
      refine xZ _ (λd=> ∃c,d= .str c) rfl (by intro d r;obtain ⟨c,_,e⟩:=gO.mp r;exact ⟨_,e.symm⟩) (by rw [jbu];exact cY (by omega:z.length<=8) (by decide)) ?_;rintro d u ⟨c,e⟩;subst e;rfl
     have a:(Y4 z).all (λd=>match d with| .str c=>oF c i6|_=>false)=(z.cps.toList.all (λc=>oF ⟨#[c]⟩ i6)):=by
      simp only [Y4,List.all_map];rfl
     have i:decide ((z.length:Int)<=8)=true:=by simp;omega
     generalize z.cps.toList.all (λc=>oF ⟨#[c]⟩ i6)=q at a ⊢;simp only [Jy,m,n,j,yn,YL,DZ,kU,ut,wn,D2,Uz,yK,kW,qy,Ux,D0,D4,XT,HU,HS,kX,D1,DY,HQ,kA,Gi,vk,if_true,Ac,oJ,if_false,decide_eq_true_eq,Zv,uJ,uO,a]
     by_cases l:(1:Int)<=z.length<;>simp [l,o]
   . have i:decide ((z.length:Int)<=8)=false:=by simp;omega
     simp only [Jy,m,n,yn,YL,DZ,kU,ut,wn,D2,Uz,yK,kW,qy,Ux,D0,D4,XT,HU,HS,kX,D1,DY,HQ,kA,Gi,vk,if_true,Ac,oJ,if_false,decide_eq_true_eq,Zv,uJ]
     by_cases l:(1:Int)<=z.length<;>simp [l,o,i]
  exact JJ e1
 |_=>first|rfl|cases h
def oQ (z:Str):Prop:= ∀c∈z.cps.toList,oF ⟨#[c]⟩ i6=true
def kR {a b:Str} (d:oQ a) (e:oQ b):oQ (a++b):=λc i=>by
 have h:c∈(a.cps++b.cps).toList:=i;rw [Array.toList_append,j0] at h;exact h.elim (d c) (e c)
def L7 {z:Str} (lo d:Option Int) (h:oQ z):oQ (cW z lo d):=λc a=>by
 unfold cW at a
 split at a
 . exact h c a
 . simp only [AL] at a;obtain ⟨i,_,d⟩:=a;exact h c (by rw [<-Bl] at d;exact gu d)
def jix:oQ i6:=by
 intro c a;have:i6.cps.toList.all (λc=>oF ⟨#[c]⟩ i6)=true:=by decide+kernel
 exact m9.mp this c a
def sh {z:Str} {i:Int} (a:0<=i) (d:i<z.length): ∃c,aG (.str z) (.int i)= .ok (.str ⟨#[c]⟩)/\c∈z.cps.toList:=by
 obtain ⟨c,e,h⟩:=RJ (xs:=z.cps.toList) a (by simpa [Str.length] using d);exact ⟨c,by simp only [aG];rw [e],h⟩
def L8 {c:Nat} (h:c∈i6.cps.toList):oQ ⟨#[c]⟩:=λx a=>by
 have:x=c:=by simpa using a
 rw [this];exact jix c h
def jjR (i:Int) (n:Nat) (h:0<=i):(mQ none (some i) 1 n).length<=i.toNat:=by
 unfold mQ sliceRange;simp only [show (1:Int)>0 by decide,if_true,dc,List.length_range]
 split<;>(try split)<;>(try split)<;>(try simp only [Int.ediv_one])<;>omega
def jjS (i:Int) (n:Nat) (h:0<=i):(mQ (some i) none 1 n).length<=n-i.toNat:=by
 unfold mQ sliceRange;simp only [show (1:Int)>0 by decide,if_true,dc,List.length_range]
 split<;>(try split)<;>(try split)<;>(try simp only [Int.ediv_one])<;>omega
def L9 (z:Str) (lo a:Option Int):(cW z lo a).length<=(mQ lo a 1 z.length).length:=by
 unfold cW
 split
 . rename_i h;rw [beq_iff_eq] at h;omega
 . show ((mQ lo a 1 z.length).filterMap (z.cps[·]?)).toArray.size<=_;rw [b7];exact List.length_filterMap_le _ _
def jhz {z:Str} (a:1<=z.length) (c:z.length<=8) (h:oQ z):isNm (.str z)=true:=by
 rw [KC];simp only [dD,decide_eq_true_eq,m9];exact ⟨⟨by omega,by omega⟩,h⟩
def Ma:i6.length=26:=by decide
def oR:20000<=aS:=by decide
def jt {k:Nat} (h:k<=20000):k<=aS:=cY h oR
def oS:D->Bool
 | .ak _=>true
 |_=>false
def Gj (x:D) (r:List D):cutD (x::r) none (some 1)=[x]:=by
 unfold cutD;rw [HT.eK,show (some (1:Int))=some ((1:Nat):Int) from rfl,HT.fP];simp only [List.drop_zero,Nat.sub_zero,bO];rw [show min 1 (r.length+1)=1 by omega];rfl
section
variable {ns:List Str}
def Wo {t:D} (h:tk ns t=true):fI "tuple" t= .ok (.bl (oS t)):=by
 rcases j7 h with ⟨i,rfl⟩| ⟨z,a,rfl,_⟩<;>rfl
def jeI {t:D} (h:tk ns t=true):Bk t=true:=Zs (yE t h)
end
section
variable {ns:List Str} {fs:List Int}
def jZ (z:Str) (a:List D):bz (.ak (.str z::a))=1+bi a:=by rw [Uq];rfl
def qe (z:Str) (a:List D):num (.ak (.str z::a))=1+nums a:=by rw [YA];rfl
def zQ (z:Str) (a:List D):dS (.ak (.str z::a))=dH a:=by simp [dS]
def jio (i:Int):dS (.int i)=[i]:=by simp [dS]
def Mb {a b:Int}:de (.int a) (.int b)= .ok (.bl (!(a==b))):=vY
def jjz (S:List D):de (.ai S) (.ai [])= .ok (.bl (!S.isEmpty)):=by
 cases S with
 |nil=>rfl
 |cons x r=>
  unfold de;rw [jl (.inr (by simp [Yp]))];simp [bG,bY]
end
theorem VC: ∀(n:Nat) (d:D),cn d=true->bz d<=n->num d<=1000->qh n [d]= .ok (.ai (bv d))
 |0,d,_,h,_=>by have:=Jx d;omega
 |n+1,d,m,o,p=>by
  have q:=Zt m;rw [Uq] at o;rw [YA] at p
  have j:=XQ (body:=qG (gN 2) (wm 1 (jk 1 (qh n) (jb (ae 2) ag)))) (λa=>[.ah d,.aw (.ai a.1),a.2]) (λa e=>(a.1++bv e,.ah e)) (λc a=>bt c=true/\bi c<=n/\a.1.length+nums c<=1000) (λe c a ⟨l,r,u⟩=>by
   simp only [bt,dD] at l;simp only [bi] at r;simp only [nums] at u;have y:=QG e;refine ⟨?_,l.2,by omega,by simp only [cP];omega⟩;show wm 1 (jk 1 (qh n) (jb (ae 2) ag)) [.ah d,.aw (.ai a.1),.ah e]=_;show (ao.ok a.1>>=λc=>qh n [e]>>=_)=_;rw [VC n e l.1 (by omega) (by omega)]
   exact jl (cY (by omega:_<=10000) (by decide))) (bx d) ([d],.un) ⟨q.1,by omega,by simp only [bO,dY];omega⟩
  have i: ∀(c:List D) a,(c.foldl (λa e=>(a.1++bv e,Slot.ah e)) a).1=a.1++cX c:=by
   intro c
   induction c with
   |nil=>intro a;simp [cX]
   |cons d c v=>intro a;rw [List.foldl_cons,v];simp [cX]
  have e1:XD jR (qh n) (j4 3 [d])= .ok (.rt true (.ai (bv d))):=by
   have w:XD jR (qh n) (j4 3 [d])=((jR [d]>>=sM)>>=λc=>a5 (qG (gN 2) (wm 1 (jk 1 (qh n) (jb (ae 2) ag)))) c [.ah d,.aw (.ai [d]),.un])>>=iV (aJ (lm 1)):=by
    unfold XD;rw [yn];show (ap _ _) _=_;rw [yn];rfl
   rw [w,QI (Zs m)];show (a5 _ (bx d) _>>=_)=_;rw [j];rw [i,RA];rfl
  exact JJ e1
section
variable {ns:List Str} {fs:List Int}
def fH (l:List Int):List D:=l.map λ_=> .bl true
def ji3 (l:List Int) (x:Int):QE (dZ l) (.inl x)=dZ (ins l x)/\QF (dZ l) (fH l) (.inl x) (.bl true)=fH (ins l x):=by
 unfold QE QF ins;rw [SQ]
 by_cases h:x∈l
 . simp only [h,decide_true,if_true,true_and];clear h
   induction l with
   |nil=>rfl
   |cons a l c=>
    simp only [dZ,fH,cL,sQ] at c ⊢;rw [c];simp
 . simp [h,dZ,fH]
def jhB (l:List Int) (x:Int):(ins l x).length<=l.length+1:=by
 unfold ins;split<;>simp
def jeZ (l:List Hd) (x:Hd):(eO l x).length<=l.length+1:=by
 unfold eO;split<;>simp
def mT (t:D):List Int:=met [] (dI (bv t))
theorem QU (t:Slot): ∀(l:List D) (a:List Int) (u:Slot),(∀d∈l,tk ns d=true)->a.length+l.length<=2000-> ∃m,a5 (qG (gN 2) (bu (a6 (aO (a7 "tuple" (ae 2)))) (yH 1 (ae 2) (cB true)) bo)) l [t,.aw (.aP (dZ a) (fH a)),u]= .ok (.nx [t,.aw (.aP (dZ (met a (dI l))) (fH (met a (dI l)))),m])
 | [],a,u,_,_=>⟨u,rfl⟩
 |d::l,a,u,h,r=>by
  simp only [bO] at r;have q:=h d (by simp);have j:a6 (aO (a7 "tuple" (ae 2))) [t,.aw (.aP (dZ a) (fH a)),.ah d]= .ok (!oS d):=zc (jC (by rw [wn];exact Wo q));rcases j7 q with ⟨i,rfl⟩| ⟨z,n,rfl,_⟩
  . obtain ⟨v,w⟩:=ji3 a i;have y:(dZ a).length<aS:=by rw [SR];exact fS (by omega) oR
    have c:qG (gN 2) (bu (a6 (aO (a7 "tuple" (ae 2)))) (yH 1 (ae 2) (cB true)) bo) (.int i) [t,.aw (.aP (dZ a) (fH a)),u]= .ok (.nx [t,.aw (.aP (dZ (ins a i)) (fH (ins a i))),.ah (.int i)]):=by
     rw [qU (env':=[t,.aw (.aP (dZ a) (fH a)),.ah (.int i)]) rfl,cu j];show aV ((dZ a).length<aS) (ao.ok (aW.nx [t,.aw (.aP (QE (dZ a) (.inl i)) (QF (dZ a) (fH a) (.inl i) (.bl true))),.ah (.int i)]))=_;rw [jl y,v,w]
    have:=jhB a i;obtain ⟨m,o⟩:=QU t l (ins a i) (.ah (.int i)) (λe p=>h e (by simp [p])) (by omega);exact ⟨m,by rw [qf c,o];rfl⟩
  . have c:qG (gN 2) (bu (a6 (aO (a7 "tuple" (ae 2)))) (yH 1 (ae 2) (cB true)) bo) (.ak (.str z::n)) [t,.aw (.aP (dZ a) (fH a)),u]= .ok (.nx [t,.aw (.aP (dZ a) (fH a)),.ah (.ak (.str z::n))]):=by
     rw [qU (env':=[t,.aw (.aP (dZ a) (fH a)),.ah (.ak (.str z::n))]) rfl,dG j];rfl
    obtain ⟨m,o⟩:=QU t l a (.ah (.ak (.str z::n))) (λe p=>h e (by simp [p])) (by omega);exact ⟨m,by rw [qf c,o];rfl⟩
def Mc {t:D} (c:tk ns t=true) (e:bz t<=64) (h:num t<=1000):Vd [t]= .ok (.ai ((mT t).map .int)):=by
 have i:=VC 64 t (yE t c) e h;have d:=QG t;obtain ⟨u,j⟩:=QU (.ah t) (bv t) [] .un (vK t c) (by simp only [dY];omega);have a:b9 (jk 1 (qh 64) (jb (ae 0) ag)) [.ah t,.aw (.aP [] []),.un]= .ok (bv t):=y9 (jn (jc rfl rfl) rfl i) rfl;refine qQ ?_;unfold KN;rw [jj (env':=[.ah t,.aw (.aP [] []),.un]) rfl];rw [jj ((wH a).trans j)];show aJ (app (jb (ae 1) ag) Bm) [.ah t,.ah (.aP (dZ (mT t)) (fH (mT t))),u]=_;refine qm (qC (jc rfl rfl) ?_);show aV _ _=_;rw [jl (by simp [dZ])];simp [dZ,kD,Function.comp_def]
def je2 (z:Str) (a:List D):wY [.ak (.str z::a)]= .ok (o6 (z,(a.length:Int))):=by
 refine qQ ?_;refine (qm ?_).trans rfl;refine zJ (jc (jh rfl rfl fu) (jc ?_ rfl)) (jt (show 2<=20000 by decide));refine jh (qC (jc rfl rfl) rfl) rfl ?_;simp
theorem Wa (t s:Slot): ∀(m:List D) (l:List Hd) (u:Slot),(∀d∈m,tk ns d=true)->l.length+m.length<=2000-> ∃n,a5 (qG (gN 3) (bu (aO (a7 "tuple" (ae 3))) (sW 1 (jk 1 wY (jb (ae 3) ag)) (cB true)) bo)) m [t,.aw (.bV (l.map dz) (df l)),s,u]= .ok (.nx [t,.aw (.bV ((mu l (oM m)).map dz) (df (mu l (oM m)))),s,n])
 | [],l,u,_,_=>⟨u,rfl⟩
 |d::m,l,u,h,r=>by
  simp only [bO] at r;have q:=h d (by simp);have j:aO (a7 "tuple" (ae 3)) [t,.aw (.bV (l.map dz) (df l)),s,.ah d]= .ok (oS d):=jC (by rw [wn];exact Wo q);rcases j7 q with ⟨i,rfl⟩| ⟨z,a,rfl,_⟩
  . have c:qG (gN 3) (bu (aO (a7 "tuple" (ae 3))) (sW 1 (jk 1 wY (jb (ae 3) ag)) (cB true)) bo) (.int i) [t,.aw (.bV (l.map dz) (df l)),s,u]= .ok (.nx [t,.aw (.bV (l.map dz) (df l)),s,.ah (.int i)]):=by
     rw [qU (env':=[t,.aw (.bV (l.map dz) (df l)),s,.ah (.int i)]) rfl,dG j];rfl
    obtain ⟨n,o⟩:=Wa t s m l (.ah (.int i)) (λe p=>h e (by simp [p])) (by omega);exact ⟨n,by rw [qf c,o];rfl⟩
  . obtain ⟨v,w⟩:=SY l (z,(a.length));have y:(l.map dz).length<aS:=by rw [dc];exact fS (by omega) oR
    have B:jk 1 wY (jb (ae 3) ag) [t,.aw (.bV (l.map dz) (df l)),s,.ah (.ak (.str z::a))]= .ok (o6 (z,(a.length))):=jn (jc rfl rfl) rfl (je2 z a)
    have c:qG (gN 3) (bu (aO (a7 "tuple" (ae 3))) (sW 1 (jk 1 wY (jb (ae 3) ag)) (cB true)) bo) (.ak (.str z::a)) [t,.aw (.bV (l.map dz) (df l)),s,u]= .ok (.nx [t,.aw (.bV ((eO l (z,(a.length))).map dz) (df (eO l (z,(a.length))))),s,.ah (.ak (.str z::a))]):=by
     rw [qU (env':=[t,.aw (.bV (l.map dz) (df l)),s,.ah (.ak (.str z::a))]) rfl,cu j];show (jk 1 wY (jb (ae 3) ag) [t,.aw (.bV (l.map dz) (df l)),s,.ah (.ak (.str z::a))]>>=_)=_;rw [B];show aV ((l.map dz).length<aS) (ao.ok (aW.nx [t,.aw (.bV (sU (l.map dz) (dz (z,(a.length)))) (sV (l.map dz) (df l) (dz (z,(a.length))) (.bl true))),s,.ah (.ak (.str z::a))]))=_;rw [jl y,v,w]
    have:=jeZ l (z,(a.length));obtain ⟨n,o⟩:=Wa t s m (eO l (z,(a.length))) (.ah (.ak (.str z::a))) (λe p=>h e (by simp [p])) (by omega);exact ⟨n,by rw [qf c,o];rfl⟩
end
def i7:D->Bool
 | .ak (x::r)=>decide (r.length+1<=10)&&isNm x
 | .int i=>decide (0<=i)&&decide (i<=999)
 |_=>false
def ji8 {d:D} (h:cn d=true):yq [d]= .ok (.bl (i7 d)):=by
 cases d with
 |ak j=>
  cases j with
  |nil=>rfl
  |cons x r=>
   have l:cn x=true:=by
    simp only [cn,bt,dD] at h;exact h.2.1
   have m:decide ((1)<=((x::r).length:Int))=true:=by simp only [bO,decide_eq_true_eq];omega
   have e:decide (((x::r).length:Int)<=9+1)=decide (r.length+1<=10):=by simp only [bO];rw [decide_eq_decide];omega
   have n:fI "tuple" (.ak (x::r))= .ok (.bl true):=rfl;have o:aT [.ak (x::r)]= .ok (.int ((x::r).length:Int)):=rfl;have p:aX (.int 9) (.int 1)= .ok (.int (9+1)):=rfl;have q:j4 1 [.ak (x::r)]=[.ah (.ak (x::r))]:=rfl
   have a:yk xh JZ (j4 1 [.ak (x::r)])= .ok (.rt true (.bl (decide (r.length+1<=10)&&isNm x))):=by
    simp only [yk,q,n,o,p,yn,YL,ut,wn,D2,Uz,yK,kW,qy,Ux,D0,D4,XT,DY,kA,Gi,vk,if_true,Zv,uJ,Uy,HW,m,e,ur,fu,Rx,List.length_singleton,jjB (Zs l)];cases decide (r.length+1<=10)<;>rfl
   exact JJ a
 |int i=>
  have e: ∀b c:Bool,True:=λ_ _=>trivial
  have a:xh [.int i]= .ok (.bl (decide (0<=i)&&decide (i<=999))):=by
   have e1:Qf qT (j4 1 [.int i])= .ok (.rt true (.bl (decide (0<=i)&&decide (i<=999)))):=by
    unfold Qf;rw [XT,Uy,Zv];show ((ao.ok (D.bl (decide ((0)<=i)))>>=D3 (cI 999 (j4 1 [.int i])) mr (.int i))>>=_)=_;rw [qy,uJ];cases decide (0<=i)<;>rfl
   exact JJ e1
  have e2:yk xh JZ (j4 1 [.int i])=(xh [.int i]>>=λd=> .ok (.rt true d)):=rfl;rw [a] at e2;exact JJ e2
 |_=>first|rfl|cases h
def jkA {d:D} (h:cn d=true):ZI [d]= .ok (.bl (!bU d&&(bv d).all i7)):=by
 have e1:XF xg yq (qh 64) (j4 1 [d])= .ok (.rt true (.bl (!bU d&&(bv d).all i7))):=by
  show (((xg [d]>>=v6)>>=_)>>=_)=_;rw [L6 h];show (toK _ true (.bl (!bU d))>>=_)=_;rw [HW]
  cases i:bU d with
  |true=>rfl
  |false=>
   rw [if_pos (show (!false)=true from rfl)];simp only [bU,decide_eq_false_iff_not] at i;have j:=VC 64 d h (by omega) (by omega);have m:=QG d
   have a:qv false 1 [] (b9 (jk 1 (qh 64) (jb (ae 0) ag))) (gN 0) qi (jk 1 yq (jb (ae 0) ag)) (j4 1 [d])= .ok (.ai ((bv d).map λd=>D.bl (i7 d))):=by
    refine xZ _ (λd=>cn d=true) ?_ (λe c=>ym (vL d h) c) (cY (by omega:_<=1000) (by decide)) ?_
    . show (qh 64 [d]>>=_)=_;rw [j];rfl
    . intro e l c;exact ji8 c
   rw [Uz,yK,a];show (iS [.ai ((bv d).map λd=>D.bl (i7 d))]>>=_)=_;rw [uO];rfl
 exact JJ e1
section
variable {ns:List Str} {fs:List Int}
structure Ru (ns:List Str) (l r:D):Prop where
 tl:tk ns l=true
 tr:tk ns r=true
 lt: ∃z ts,l= .ak (.str z::ts)
 hl:bz l<=4
 hr:bz r<=30
 nl:num l<=13
 nr:num r<=30
 sub: ∀x∈dS r,x∈dS l
 De: ∃s:List Int,s.length<=3/\(∀x∈s,0<=x/\x<=999)/\ ∀x∈dS l,x∈s
def KG: ∀t,tk ns t=true->dI (bv t)=dS t:=qV (λi=>by simp [bv,dI,dS]) λz e _ _ h=>by
 have: ∀a:List D,(∀u∈a,dI (bv u)=dS u)->dI (cX a)=dH a:=λa=>by
  induction a with
  |nil=>intro _;simp [cX,dI,dH]
  |cons d r j=>
   intro h;rw [cX,KH,h d (by simp),j λu c=>h u (by simp [c])];simp [dH]
 rw [zQ,<-this e λu c=>(h u c).2];simp [bv,dI]
def jjg (j: ∀z∈ns,isNm (.str z)=true) {t:D} (d:tk ns t=true) (l: ∀x∈dS t,0<=x/\x<=999):(bv t).all i7=true:=by
 rw [m9];intro p h;have c:=vK t d p h;rcases j7 c with ⟨i,rfl⟩| ⟨z,n,rfl,m,o,_⟩
 . have:i∈dI (bv t):=by
    obtain ⟨a,b,e⟩:=List.append_of_mem h;rw [e,KH];simp [dI]
   rw [KG t d] at this;have:=l i this;simp [i7,this]
 . simp only [i7,dD,decide_eq_true_eq];exact ⟨by omega,j z m⟩
def ud (c: ∀z∈ns,isNm (.str z)=true) {t:D} (a:tk ns t=true) (e:bz t<=60) (h:num t<=1000) (d: ∀x∈dS t,0<=x/\x<=999):ZI [t]= .ok (.bl true):=by
 rw [jkA (yE t a),jjg c a d];have:bU t=false:=by simp only [bU,decide_eq_false_iff_not];omega
 rw [this];rfl
theorem kO: ∀(c l:List Int),l.Nodup->(met l c).Nodup
 | [],l,h=>h
 |x::c,l,h=>by
  refine kO c _ ?_;unfold ins
  split
  . exact h
  . rename_i e;rw [Er];exact ⟨h,by simp,λa i b d=>by simp at d;subst d;rintro rfl;exact e i⟩
def jkg (l:List Int):(dd l).length<=l.length:=by
 exact PyProof.Rows.firstMet_length_le _ _
def jeW (w: ∀z∈ns,isNm (.str z)=true) {l r:D} (h:Ru ns l r):ZJ [.ak [l,r]]= .ok (.bl true):=by
 obtain ⟨s,L,B,a⟩:=h.De;have e: ∀x∈dS l,0<=x/\x<=999:=λx c=>B x (a x c)
 have o:=ud w h.tl (by have:=h.hl;omega) (by have:=h.nl;omega) e;have p:=ud w h.tr (by have:=h.hr;omega) (by have:=h.nr;omega) λx c=>e x (h.sub x c)
 obtain ⟨z,N,cV⟩:=h.lt;have q:fI "tuple" l= .ok (.bl true):=by rw [cV];rfl
 have E:=Mc h.tl (by have:=h.hl;omega) (by have:=h.nl;omega);have H:=Mc h.tr (by have:=h.hr;omega) (by have:=h.nr;omega);have u:al (ae 0) (cI 0) aG [.ah (.ak [l,r])]= .ok l:=jh rfl rfl fu;have y:al (ae 0) (cI 1) aG [.ah (.ak [l,r])]= .ok r:=jh rfl rfl (by show (match fX [l,r] ((1:Nat):Int) with|some d=>ao.ok d|none=> .aj)=_;rw [M.cc];rfl);have j: ∀x,x∈mT l↔x∈dS l:=λx=>by unfold mT;rw [kP,KG l h.tl];simp
 have m: ∀x,x∈mT r↔x∈dS r:=λx=>by unfold mT;rw [kP,KG r h.tr];simp
 have O:=Zl (l:=mT r) (kO _ _ A0) (λx c=>a x (h.sub x ((m x).mp c)));have Q:=Zl (l:=mT l) (kO _ _ A0) (λx c=>a x ((j x).mp c));have I:pB=4096:=rfl
 have n:mz (.ai ((mT r).map .int)) (.ai ((mT l).map .int))= .ok (.int 0):=by
  unfold mz;simp only [SI];refine jl ⟨by omega,by omega,λi J=>(j i).mpr (h.sub i ((m i).mp J)),?_⟩;have:=jkg (mT r);omega
 have v:aO (a7 "tuple" (al (ae 0) (cI 0) aG)) [.ah (.ak [l,r])]= .ok true:=jC (by rw [wn,u];exact q);refine qQ ?_;unfold XG;rw [jj ((dG (Kg (zc (jC (b:=true) rfl)) (jC (jh (qC (jc rfl rfl) rfl) rfl Mb)))))];refine (jj ((dG (Kg (zc (jC (jn (jc u rfl) rfl o))) (Kg (zc (jC (jn (jc y rfl) rfl p))) (zc v)))))).trans ?_;exact qm (jh (jh (jn (jc y rfl) rfl H) (jn (jc u rfl) rfl E) n) rfl JK)
end
section
variable {ns:List Str}
def oT (ns:List Str) (l:List Hd):Prop:=l.Nodup/\ ∀x∈l,x.1∈ns/\0<=x.2/\x.2<=9
def je3 {l:List Hd} {a:List D} (h:oT ns l) (c: ∀d∈a,tk ns d=true):oT ns (mu l (oM a)):=
 ⟨IK h.1,λx e=>(ui e).elim (h.2 x) λz=>IJ c x z⟩
theorem Us (i:ns.length=4) (T:Slot): ∀(d:List D) (l:List Hd) (s u:Slot),(∀t∈d,tk ns t=true/\bz t<=64/\num t<=1000)->oT ns l-> ∃a j m,oT ns a/\
  a5 (qG (gN 2) (ca (b9 (jk 1 (qh 64) (jb (ae 2) ag))) (gN 3) (bu (aO (a7 "tuple" (ae 3))) (sW 1 (jk 1 wY (jb (ae 3) ag)) (cB true)) bo))) d [T,.aw (.bV (l.map dz) (df l)),s,u]= .ok (.nx [T,.aw (.bV (a.map dz) (df a)),j,m])
 | [],l,s,u,_,c=>⟨l,s,u,c,rfl⟩
 |t::d,l,s,u,h,c=>by
  obtain ⟨n,r,v⟩:=h t (by simp);have p:=Ur c.1 c.2;have q:=QG t;have w:=VC 64 t (yE t n) r v;obtain ⟨y,z⟩:=Wa T (.ah t) (bv t) l u (vK t n) (by omega);have o:b9 (jk 1 (qh 64) (jb (ae 2) ag)) [T,.aw (.bV (l.map dz) (df l)),.ah t,u]= .ok (bv t):=y9 (jn (jc rfl rfl) rfl w) rfl;obtain ⟨a,j,m,B,E⟩:=Us i T d (mu l (oM (bv t))) (.ah t) y (λe H=>h e (by simp [H])) (je3 c (vK t n));refine ⟨a,j,m,B,?_⟩;refine (qf ?_).trans E;rw [qU rfl];exact (wH o).trans z
def jjv {z:Str} (h:isNm (.str z)=true):z.length<=8:=by
 rw [KC] at h;simp only [dD,decide_eq_true_eq] at h;omega
def ja1 (e:ns.length=4) (i: ∀z∈ns,isNm (.str z)=true) {c:List D} (h: ∀t∈c,tk ns t=true/\bz t<=64/\num t<=1000): ∃l,y6 [.ai c]= .ok (.ai l):=by
 obtain ⟨m,q,r,d,n⟩:=Us e (.ah (.ai c)) c [] .un .un h ⟨A0,λx o=>by cases o⟩;have j:=Ur d.1 d.2;refine ⟨(ZO m).map o6,qQ ?_⟩;refine (jj ((wH rfl).trans n)).trans ?_;exact qm (qC (jc rfl rfl) (u0 d.1 (by omega) λa p=>jt (cY (jjv (i _ (d.2 a p).1)) (by decide))))
def rl (p:D×D):D:= .ak [p.1,p.2]
def tt (ns:List Str) (a:List (D×D)):Prop:= ∀p∈a,Ru ns p.1 p.2
def jaZ (e: ∀z∈ns,isNm (.str z)=true) {a:List (D×D)} (h:tt ns a) (n:a.length<=40):xE [.ai (a.map rl)]= .ok (.bl true):=by
 have i:qv false 1 [] (b9 (ae 0)) (gN 0) qi (jk 1 ZJ (jb (ae 0) ag)) [.ah (.ai (a.map rl))]= .ok (.ai ((a.map rl).map λ_=> .bl true)):=by
  refine xZ _ (λd=> ∃p,d=rl p/\Ru ns p.1 p.2) rfl (λd l=>by obtain ⟨p,j,rfl⟩:=gO.mp l;exact ⟨p,rfl,h p j⟩) (by rw [dc];exact jt (by omega)) ?_;rintro d m ⟨p,rfl,j⟩;exact jn (jc rfl rfl) rfl (jeW e j)
 refine qQ ?_
 have c:aO (al (app (jb (ae 0) ag) aT) (cI 40) gw) [.ah (.ai (a.map rl))]= .ok false:=by
  refine jC (jh (qC (jc rfl rfl) rfl) rfl ?_);show ao.ok (D.bl (decide ((40)< ((a.map rl).length:Int))))=_;rw [dc,decide_eq_false (by omega)]
 refine (jj ((dG (Kg (zc (jC (b:=true) rfl)) c)))).trans ?_;exact qm (qC (jc i rfl) (S0 _))
theorem Md {c:T4} (d:D×D->D) (P:D×D->Prop) (i: ∀p a,P p->c [.ah p.1,.ah p.2,.aw (.ai a)]= .ok (d p)):
  ∀(j:List (D×D)) (a:List D) (u v:Slot),(∀p∈j,P p)->a.length+j.length<=aS-> ∃l m,xa 2 (g2 (gN 0) (gN 1)) qi c (j.map rl) [u,v,.aw (.ai a)]= .ok [l,m,.aw (.ai (a++j.map d))]
 | [],a,u,v,_,_=>⟨u,v,by simp [xa]⟩
 |p::r,a,u,v,n,h=>by
  simp only [bO] at h;obtain ⟨l,m,e⟩:=Md d P i r (a++[d p]) (.ah p.1) (.ah p.2) (λx o=>n x (by simp [o])) (by simp only [cP,bO,dY];omega);refine ⟨l,m,?_⟩
  have q:xa 2 (g2 (gN 0) (gN 1)) qi c ((p::r).map rl) [u,v,.aw (.ai a)]=xa 2 (g2 (gN 0) (gN 1)) qi c (r.map rl) [.ah p.1,.ah p.2,.aw (.ai (a++[d p]))]:=by
   show (c [.ah p.1,.ah p.2,.aw (.ai a)]>>=_)=_;rw [i p a (n p (by simp))];exact jl (by omega)
  rw [q,e];simp
def K0 {fe:T4} {fi:T1} {env:Sl} {ps:List (D×D)} (a:D×D->D) (P:D×D->Prop) (d: ∀p h,P p->fe [.ah p.1,.ah p.2,.aw (.ai h)]= .ok (a p)) (i:fi env= .ok (ps.map rl)) (j: ∀p∈ps,P p) (l:ps.length<=aS):
  qv false 2 [] fi (g2 (gN 0) (gN 1)) qi fe env= .ok (.ai (ps.map a)):=by
 obtain ⟨u,v,e⟩:=Md a P d ps [] .un .un j (by simpa using l);show (fi env>>=_)=_;rw [i];show (xa 2 (g2 (gN 0) (gN 1)) qi fe (ps.map rl) [.un,.un,.aw (.ai [])]>>=_)=_;rw [e];rw [List.nil_append];exact jl (c:=(false=true->D.dQ (ps.map a)=true)) (λz=>by cases z)
def obj (a:List (D×D)) (c:List D):D:= .obj "Rules" ["listed", "named"] [.ai (a.map rl),.ai c]
def Me {d g2:Sl->ao dU} {c a:Sl} (h:d c= .ok (.nx a)):oN d g2 c=g2 a:=by
 show (d c>>=_)=_;rw [h];rfl
def jk6 {t:T3} {c g2:Sl->ao dU} {a:Sl} (h:t a= .ok false):EW t c g2 a=g2 a:=by
 show (t a>>=_)=_;rw [h];rfl
def vA {f:T4} {a:Sl} {c n:Str} {i:Nat} {fs:List Str} {e:List D} {d:D} (h:f a= .ok d) (j:a[i]?=some (.aw (.obj c fs e))) (l:fs.length<1000):BM i c n f a= .ok (.nx (a.set i (.aw (.obj c (tc n fs) (tj n d fs e))))):=by
 have m:my i c a= .ok (fs,e):=by
  unfold my;rw [j];exact jl rfl
 show (f a>>=λd=>my i c a>>=_)=_;rw [h];rw [m];exact jl l
def jk2 (i:ns.length=4) (d: ∀z∈ns,isNm (.str z)=true) {a:List (D×D)} (h:tt ns a) (n:a.length<=40): ∃e,qt (.obj "Rules" [] []) [.ai (a.map rl)]= .ok (.aU,obj a e):=by
 have m:a.length<=aS:=jt (by omega)
 obtain ⟨e,o⟩:=ja1 i d (λt q=>by
  rcases j0.mp q with z|z
  . obtain ⟨p,j,rfl⟩:=gO.mp z;have r:=h p j;exact ⟨r.tl,by have:=r.hl;omega,by have:=r.nl;omega⟩
  . obtain ⟨p,j,rfl⟩:=gO.mp z;have r:=h p j
    exact ⟨r.tr,by have:=r.hr;omega,by have:=r.nr;omega⟩)
 refine ⟨e,?_⟩
 have u:qZ y6 xE (Q4 2 (.obj "Rules" [] []) [.ai (a.map rl)])= .ok (.nx [.aw (obj a e),.ah (.ai (a.map rl))]):=by
  unfold qZ;have v:a6 (aO (jk 1 xE (jb (ae 1) ag))) [.aw (.obj "Rules" [] []),.ah (.ai (a.map rl))]= .ok false:=zc (jC (jn (jc rfl rfl) rfl (jaZ d h n)));refine (Me (jk6 v)).trans ?_;refine (Me ((vA (qC (jc rfl rfl) rfl) rfl (by decide)))).trans ?_;have w:=K0 (fe:=ae 0) (fi:=b9 (ae 1)) (env:=[.aw (.obj "Rules" ["listed"] [.ai (a.map rl)]),.ah (.ai (a.map rl))]) (·.1) (λ_=>True) (λp l _=>rfl) rfl (λ_ _=>trivial) m;have y:=K0 (fe:=ae 1) (fi:=b9 (ae 1)) (env:=[.aw (.obj "Rules" ["listed"] [.ai (a.map rl)]),.ah (.ai (a.map rl))]) (·.2) (λ_=>True) (λp l _=>rfl) rfl (λ_ _=>trivial) m;refine (vA (jn (jc (jh w y (Ia (by simp only [dc];exact jt (by omega)))) rfl) rfl o) rfl (by decide)).trans ?_;rfl
 refine (jl (c:=[D.ai (a.map rl)].length=1) rfl).trans ?_;rw [u];rfl
end
mutual
def bP:D->List (List Int×D)
 | .ak (x::r)=>([],.ak (x::r))::eA 0 r
 |d=>[([],d)]
def eA (k:Nat):List D->List (List Int×D)
 | []=>[]
 |d::r=>(bP d).map (λp=>((k:Int)::p.1,p.2))++eA (k+1) r
end
def jJ (p:List Int):D:= .ak (p.map .int)
def i8 (p:List Int×D):D:= .ak [jJ p.1,p.2]
def Xg (x:D) (r:List D):bP (.ak (x::r))=([],.ak (x::r))::eA 0 r:=by simp [bP]
def QH (i:Int):bP (.int i)=[([],.int i)]:=by simp [bP]
def Za (k:Nat) (d:D) (r:List D):eA k (d::r)=(bP d).map (λp=>((k:Int)::p.1,p.2))++eA (k+1) r:=by simp [eA]
def WI (k:Nat):eA k []=[]:=by simp [eA]
mutual
theorem ZY: ∀d:D,(bP d).length=num d
 | .ak (x::r)=>by rw [Xg,bO,i9 0 r];simp [num];omega
 | .ak []=>by simp [bP,num]
 | .aU=>by simp [bP,num]
 | .bl _=>by simp [bP,num]
 | .int _=>by simp [bP,num]
 | .str _=>by simp [bP,num]
 | .ai _=>by simp [bP,num]
 | .ei _=>by simp [bP,num]
 | .aP _ _=>by simp [bP,num]
 | .bV _ _=>by simp [bP,num]
 | .gm _=>by simp [bP,num]
 | .gL _ _=>by simp [bP,num]
 | .gM _ _=>by simp [bP,num]
 | .obj _ _ _=>by simp [bP,num]
 | .mem _ _=>by simp [bP,num]
 | .cZ _=>by simp [bP,num]
theorem i9: ∀(k:Nat) (a:List D),(eA k a).length=nums a
 |k,[]=>by simp [eA,nums]
 |k,d::r=>by rw [Za,cP,dc,ZY d,i9 (k+1) r];simp [nums]
end
section
variable {ns:List Str}
theorem Q9: ∀ {a:List D} {k:Nat} {q:List Int×D},q∈eA k a-> ∃(j:Nat) (u:D) (p:List Int×D),a[j]?=some u/\p∈bP u/\q=(((k+j:Nat):Int)::p.1,p.2)
 | [],k,q,h=>by rw [WI] at h;cases h
 |d::r,k,q,h=>by
  rcases j0.mp h with h|h
  . obtain ⟨p,c,rfl⟩:=gO.mp h;exact ⟨0,d,p,rfl,c,rfl⟩
  . obtain ⟨j,u,p,e,i,rfl⟩:=Q9 h;exact ⟨j+1,u,p,by simpa using e,i,by simp only [Prod.mk.injEq,List.cons.injEq,and_true];omega⟩
def QK {a:List D} {j:Nat} {u:D} (h:a[j]?=some u):u∈a:=gu h
def wA: ∀t,tk ns t=true-> ∀p∈bP t,p.1.length+1<=bz t/\(∀i∈p.1,0<=i)/\tk ns p.2=true:=qV (λi p hp=>by
   rw [QH] at hp;simp only [bJ,eE,or_false] at hp;subst hp
   exact ⟨by simp [bz],(λ_ h=>by cases h),rfl⟩) λz r c d h p hp=>by
 rcases bJ.mp hp with rfl|hp
 . exact ⟨by rw [jZ];simp,(λ_ h=>by cases h),Q3 c d λt e=>(h t e).1⟩
 . obtain ⟨j,u,q,l,m,rfl⟩:=Q9 hp;have a:=QK l;obtain ⟨v,n,o⟩:=(h u a).2 q m;have:=qJ a;refine ⟨by rw [jZ,bO];omega,λi hi=>?_,o⟩;rcases bJ.mp hi with rfl|hi
   . omega
   . exact n i hi
def Au {l:List D} {k:Nat} {x:D} (h:l[k]?=some x):aG (.ak l) (.int (k:Int))= .ok x:=by
 simp only [aG];rw [M.cc,h]
def oU {l:List D} {k:Nat} {x:D} (h:l[k]?=some x):aG (.ai l) (.int (k:Int))= .ok x:=by
 simp only [aG];rw [M.cc,h]
theorem WL: ∀ {a:List D} {d:D},d∈a->num d<=nums a
 |x::r,d,h=>by
  simp only [nums];rcases bJ.mp h with rfl|h
  . omega
  . have:=WL h;omega
def pH (p:List Int×D):D:=jJ p.1
def eM (k:Int):D->D
 | .ak a=> .ak (.int k::a)
 |d=>d
def Mf (n:Nat):Sl->ao aW:=wm 1 (qv false 1 [2] (b9 (jk 1 (wU n) (jb (ae 3) ag))) (gN 0) qi (al (aN (jb (ae 1) ag)) (ae 0) aX))
def jfa {i:Nat} {f:T4} {a:Sl} {c d:List D} (e:dw i a= .ok c) (h:f a= .ok (.ai d)) (j:c.length+d.length<=aS):wm i f a= .ok (.nx (a.set i (.aw (.ai (c++d))))):=by
 unfold wm;rw [e,qy,h,qy];exact jl j
theorem Yw {n:Nat} {t:Slot}: ∀(r:List D) (k:Nat) (c:List D) (u v:Slot),(∀d∈r,wU n [d]= .ok (.ai ((bP d).map pH))/\ ∀p∈bP d,p.1.length<=100)->c.length+nums r<=2000->
  ∃l m,a5 (qG (g2 (gN 2) (gN 3)) (Mf n)) (jS k r) [t,.aw (.ai c),u,v]= .ok (.nx [t,.aw (.ai (c++(eA k r).map pH)),l,m])
 | [],k,c,u,v,_,_=>⟨u,v,by rw [WI];simp [jS,a5]⟩
 |d::r,k,c,u,v,o,w=>by
  simp only [nums] at w;obtain ⟨y,z⟩:=o d (by simp);have h:=ZY d
  have B:qv false 1 [2] (b9 (jk 1 (wU n) (jb (ae 3) ag))) (gN 0) qi (al (aN (jb (ae 1) ag)) (ae 0) aX) [t,.aw (.ai c),.ah (.int k),.ah d]= .ok (.ai (((bP d).map pH).map (eM k))):=
   D8 rfl (eM k) (λd=> ∃p:List Int,d=jJ p/\p.length<=100) (y9 (jn (jc rfl rfl) rfl y) rfl) (λe j=>by
    obtain ⟨p,q,rfl⟩:=gO.mp j
    exact ⟨p.1,rfl,z p q⟩) (jt (by simp [h];omega)) (λe c ⟨p,j,q⟩=>by
    subst j
    exact jh (zJ (jc rfl rfl) (jt (by simp))) rfl (X3 rfl (jt (by simp;omega))))
  have i:qG (g2 (gN 2) (gN 3)) (Mf n) (.ak [.int k,d]) [t,.aw (.ai c),u,v]= .ok (.nx [t,.aw (.ai (c++((bP d).map pH).map (eM k))),.ah (.int k),.ah d]):=by
   rw [qU rfl];exact (jfa rfl B (jt (by simp [h];omega))).trans rfl
  obtain ⟨l,m,E⟩:=Yw r (k+1) (c++((bP d).map pH).map (eM k)) (.ah (.int k)) (.ah d) (λe j=>o e (by simp [j])) (by simp [h];omega);refine ⟨l,m,?_⟩;show a5 _ (.ak [.int k,d]::jS (k+1) r) _=_;rw [qf i,E,Za];simp [mR];exact λa b _=>rfl
theorem Mg: ∀(n:Nat) (t:D),tk ns t=true->bz t<=n->bz t<=100->num t<=1000->wU n [t]= .ok (.ai ((bP t).map pH))
 |0,t,_,h,_,_=>by have:=Jx t;omega
 |n+1,t,e,m,o,l=>by
  refine qQ ?_;have q:b8 1 (ci (jb (aN ag) ag)) [.ah t,.un,.un,.un]= .ok (.nx [.ah t,.aw (.ai [jJ []]),.un,.un]):=(Qt (Ua (jc (zJ rfl (jt (by simp))) rfl) (jt (by simp)))).trans rfl;refine (jj q).trans ?_
  have r:BB (jk 1 jR (jb (ae 0) ag)) [.ah t,.aw (.ai [jJ []]),.un,.un]= .ok (jS 0 (bx t)):=by
    show (jk 1 _ _ _>>=_)=_;have j:jk 1 jR (jb (ae 0) ag) [.ah t,.aw (.ai [jJ []]),.un,.un]= .ok (.ak (bx t)):=jn (jc rfl rfl) rfl (QI (Zs (yE t e)));rw [j];rfl
  have v: ∀u∈bx t,wU n [u]= .ok (.ai ((bP u).map pH))/\ ∀p∈bP u,p.1.length<=100:=λu d=>by
    have a:tk ns u=true:=by
     rcases j7 e with ⟨i,rfl⟩| ⟨z,w,rfl,y,B,c⟩
     . cases d
     . exact c u d
    have I:=qJ d;have J:=WL d;rw [Uq] at m o;rw [YA] at l;exact ⟨Mg n u a (by omega) (by omega) (by omega),λp E=>by have:=(wA u a p E).1;omega⟩
  obtain ⟨L,N,H⟩:=Yw (bx t) 0 [jJ []] .un .un v (by rw [YA] at l;simp;omega);refine (jj ((wH r).trans H)).trans ?_;rcases j7 e with ⟨i,rfl⟩| ⟨z,w,rfl,y,B,c⟩
  . rw [QH];rfl
  . rw [Xg];rfl
def Xh: ∀t,tk ns t=true->(bP t).map (·.2)=bv t:=qV (λi=>by rw [QH];simp [bv]) λz e _ _ h=>by
 have: ∀(a:List D) k,(∀u∈a,(bP u).map (·.2)=bv u)->(eA k a).map (·.2)=cX a:=λa=>by
  induction a with
  |nil=>intro k _;rw [WI];simp [cX]
  |cons d r j=>
   intro k h;rw [Za,rH,mR,j (k+1) λu c=>h u (by simp [c]),cX,<-h d (by simp)];rfl
 rw [Xg,cL,this e 0 λu c=>(h u c).2];simp [bv]
mutual
def sub (a:Int->D):D->D
 | .int i=>a i
 | .ak (x::r)=> .ak (x::subs a r)
 |d=>d
def subs (a:Int->D):List D->List D
 | []=>[]
 |d::r=>sub a d::subs a r
end
theorem vv (a:Int->D): ∀c,subs a c=c.map (sub a)
 | []=>by simp [subs]
 |d::r=>by simp [subs,vv a r]
def ZM (a:Int->D) (z:Str) (c:List D):sub a (.ak (.str z::c))= .ak (.str z::c.map (sub a)):=by simp [sub,vv]
def sub_int (a:Int->D) (i:Int):sub a (.int i)=a i:=by simp [sub]
def Gk {a:Int->D} (h: ∀i,tk ns (a i)=true): ∀t,tk ns t=true->tk ns (sub a t)=true:=qV (λi=>by rw [sub_int];exact h i) λz m c d e=>by
 rw [ZM];refine Q3 c (by simpa using d) λu j=>?_
 obtain ⟨t,l,rfl⟩:=gO.mp j;exact (e t l).2
def Mh {a:Int->D} {B:Nat} (h: ∀i,bz (a i)<=B): ∀t,tk ns t=true->bz (sub a t)<=bz t+B:=qV (λi=>by rw [sub_int];have:=h i;omega) λz c m n j=>by
 rw [ZM,jZ,jZ]
 have:bi (c.map (sub a))<=bi c+B:=Ib λd l=>by
  obtain ⟨t,e,rfl⟩:=gO.mp l;have:=(j t e).2;have:=qJ e;omega
 omega
def Wx: ∀t,tk ns t=true->D.cm t=true/\D.dE t<=bz t:=qV (λi=>by simp [D.cm,D.dE]) λz d _ e h=>by
 have c:=yL λt a=>((h t a).2).1
 have j:=IG λt a=>cY ((h t a).2).2 (qJ a)
 rw [jZ];refine ⟨by simp [D.cm,D.bS,c],?_⟩;simp only [D.dE,D.cE];omega
def jj7: ∀t,tk ns t=true->bG t t=true:=qV (λi=>by simp [bG]) λz c _ d h=>by
 simp only [bG,bY,beq_self_eq_true,Bool.true_and];exact UA λt a=>(h t a).2
def Mi {t:D} (h:tk ns t=true) (c:bz t<=100):ce t t= .ok (.bl true):=by
 obtain ⟨a,d⟩:=Wx t h;have:ce t t= .ok (.bl (bG t t)):=jl (.inl ⟨a,a,by omega⟩);rw [this,jj7 t h]
def look (a:List aQ) (c:List D) (i:Int):D:=(bB a c (.inl i)).getD (.int i)
theorem KK: ∀ {a:List aQ} {c:List D} (k:aQ),a.length=c.length->ez a k=(bB a c k).isSome
 | [],[],k,_=>rfl
 | [],_::_,k,h=>by simp at h
 |_::_,[],k,h=>by simp at h
 |x::a,d::c,k,h=>by
  have i:=KK k (by simpa using h)
  by_cases e:x=k
  . simp [ez,bB,e]
  . have e1:ez (x::a) k=ez a k:=by simp [ez,e]
    have e2:bB (x::a) (d::c) k=bB a c k:=by simp [bB,e]
    rw [e1,e2,i]
def YX {e:List aQ} {a:List D} {k:aQ} {d:D} (h:bB e a k=some d):d∈a:=by
 unfold bB at h
 cases c:(e.zip a).find? λp=>decide (p.1=k) with
 |none=>rw [c] at h;cases h
 |some i=>rw [c] at h;cases h;exact (AS (List.mem_of_find?_eq_some c)).2
def jhv {c:List aQ} {a:List D} (h: ∀d∈a,tk ns d=true) (i:Int):tk ns (look c a i)=true:=by
 unfold look
 cases e:bB c a (.inl i) with
 |none=>rfl
 |some d=>exact h d (YX e)
def jeQ {c:List aQ} {a:List D} {B:Nat} (j:1<=B) (h: ∀d∈a,bz d<=B) (i:Int):bz (look c a i)<=B:=by
 unfold look
 cases e:bB c a (.inl i) with
 |none=>simp [bz];omega
 |some d=>exact h d (YX e)
def xj {d g2:Sl->ao bL} {c a:Sl} (h:d c= .ok (.nx a)):gb d g2 c=g2 a:=by
 show (d c>>=_)=_;rw [h];rfl
def ZP {d g2:Sl->ao bL} {c a:Sl} {b:Bool} (h:d c= .ok (.rt b a)):gb d g2 c= .ok (.rt b a):=by
 show (d c>>=_)=_;rw [h];rfl
def tu {t:T3} {c g2:Sl->ao bL} {a:Sl} (h:t a= .ok true):pA t c g2 a=c a:=by
 show (t a>>=_)=_;rw [h];rfl
def KJ {t:T3} {c g2:Sl->ao bL} {a:Sl} (h:t a= .ok false):pA t c g2 a=g2 a:=by
 show (t a>>=_)=_;rw [h];rfl
def kj {N n:Nat} {g:Sl->ao bL} {e:List D} {i:List aQ} {j:List D} {b:Bool} {a:List aQ} {c:List D} {d:Sl} (h:g (Ql N e i j)= .ok (.rt b d)) (l:e.length=n) (m:d[n]?=some (.aw (.aP a c))):gy N n g e i j= .ok (b,a,c):=by
 unfold gy;rw [h];show aV _ _=_;rw [jl l,m]
def Aw (z:Str) (a:List D):wY [.ak (.str z::a)]= .ok (.ak [.str z,.int ((a.length:Nat):Int)]):=by
 refine qQ ?_;refine qm ?_;show (aO (a7 "tuple" (ae 0)) [.ah (.ak (.str z::a))]>>=_)=_;refine (zJ (jc (jh rfl rfl fu) (jc (jh (qC (jc rfl rfl) rfl) rfl rfl) rfl)) (jt (by simp))).trans ?_;simp
def jhn (z:Str) (k:Int):de (.ak [.str z,.int k]) (.ak [.str z,.int k])= .ok (.bl false):=by
 unfold de;rw [jl (by left;simp [D.cm,D.bS,D.dE,D.cE])];simp [bG,bY]
def Mj: ∀t,tk ns t=true->nb t=true:=qV (λi=>rfl) λz c _ _ h=>by
 simp only [nb,pv,Bool.true_and];exact IL λt a=>(h t a).2
def jj8 {a b:D} (c:tk ns a=true) (d:tk ns b=true):bG a b=true↔a=b:=S8 a (Mj a c) b (Mj b d)
def kY {a b:D} (c:tk ns a=true) (d:tk ns b=true) (h:bz a<=100):ce a b= .ok (.bl (bG a b)):=by
 obtain ⟨e,i⟩:=Wx a c;exact jl (.inl ⟨e,(Wx b d).1,by omega⟩)
def Ml {a b:D} (c:tk ns a=true) (d:tk ns b=true) (h:bz a<=100):de a b= .ok (.bl (!bG a b)):=by
 obtain ⟨e,i⟩:=Wx a c;exact jl (.inl ⟨e,(Wx b d).1,by omega⟩)
abbrev As:=List (Int×D)
def ky (M:As):List aQ:=dZ (M.map (·.1))
def vl (M:As):List D:=M.map (·.2)
def Go (M:As):(ky M).length=(vl M).length:=by simp [ky,vl,dZ]
def Mm (M:As):(ky M).length=M.length:=by simp [ky,dZ]
theorem ZL: ∀(M:As) (i:Int),bB (ky M) (vl M) (.inl i)=M.lookup i
 | [],i=>by simp [bB,ky,dZ]
 | (x,d)::M,i=>by
  have a:=ZL M i
  by_cases e:i=x
  . subst e;simp [bB,ky,vl,dZ,ln]
  . have e1:bB (ky ((x,d)::M)) (vl ((x,d)::M)) (.inl i)=bB (ky M) (vl M) (.inl i):=by
     have:(jU x:aQ)≠ .inl i:=λh=>e (Sum.inl.inj h).symm
     simp [bB,ky,vl,dZ,this]
    rw [e1,a,ln];have:(i==x)=false:=by simpa using e
    rw [this]
def vI {M:As} {i:Int} (d:D) (h:M.lookup i=none):QE (ky M) (.inl i)=ky (M++[(i,d)])/\QF (ky M) (vl M) (.inl i) d=vl (M++[(i,d)]):=by
 have a:ez (ky M) (.inl i)=false:=by
  rw [KK (.inl i) (Go M),ZL,h];rfl
 unfold QE QF;rw [a];simp [ky,vl,dZ]
def bE:As->As->Option As
 |M,[]=>some M
 |M,(i,d)::r=>match M.lookup i with
  |some d0=>if bG d0 d=true then bE M r else none
  |none=>bE (M++[(i,d)]) r
theorem Va: ∀(a b M:As),bE M (a++b)=(bE M a).bind λc=>bE c b
 | [],b,M=>rfl
 | (i,d)::r,b,M=>by
  simp only [List.cons_append,bE]
  cases M.lookup i with
  |none=>exact Va r b _
  |some d0=>
   dsimp only
   split
   . exact Va r b M
   . rfl
theorem K9: ∀(c M a:As),bE M c=some a->a.length<=M.length+c.length
 | [],M,a,h=>by cases h;simp
 | (i,d)::r,M,a,h=>by
  simp only [bE] at h
  cases e:M.lookup i with
  |none=>
   rw [e] at h;have:=K9 r _ a h;simp only [cP,bO,dY] at this ⊢;omega
  |some d0=>
   rw [e] at h;dsimp only at h
   split at h
   . have:=K9 r M a h;simp only [bO];omega
   . cases h
theorem WX: ∀(j M a:As),bE M j=some a-> ∀q∈a,q∈M\/q∈j
 | [],M,a,h,q,c=>by cases h;exact .inl c
 | (i,d)::r,M,a,h,q,c=>by
  simp only [bE] at h
  cases e:M.lookup i with
  |none=>
   rw [e] at h;rcases WX r _ a h q c with z|z
   . rcases j0.mp z with z|z
     . exact .inl z
     . exact .inr (by simp only [bJ,eE,or_false] at z;simp [z])
   . exact .inr (by simp [z])
  |some d0=>
   rw [e] at h;dsimp only at h
   split at h
   . rcases WX r M a h q c with z|z
     . exact .inl z
     . exact .inr (by simp [z])
   . cases h
mutual
def mp:D->D->Option As
 | .int i,t=>some [(i,t)]
 | .ak (.str z::a),.ak (.str w::c)=>if z=w then fh a c else none
 |_,_=>none
def fh:List D->List D->Option As
 | [],[]=>some []
 |p::c,t::d=>(mp p t).bind λa=>(fh c d).bind λb=>some (a++b)
 |_,_=>none
end
def ua (i:Int) (t:D):mp (.int i) t=some [(i,t)]:=by simp [mp]
def v5 (z w:Str) (a c:List D):mp (.ak (.str z::a)) (.ak (.str w::c))=if z=w then fh a c else none:=by simp [mp]
def Gp (z:Str) (a:List D) (i:Int):mp (.ak (.str z::a)) (.int i)=none:=by simp [mp]
def WN (p t:D) (c d:List D):fh (p::c) (t::d)=(mp p t).bind λa=>(fh c d).bind λb=>some (a++b):=by simp [fh]
theorem kL: ∀(a c:List D),a.length≠c.length->fh a c=none
 | [],[],h=>absurd rfl h
 | [],_::_,_=>by simp [fh]
 |_::_,[],_=>by simp [fh]
 |p::a,t::c,h=>by
  rw [WN,kL a c (by simpa using h)];cases mp p t<;>rfl
def vZ {p t:D} {c d:List D} {M:As}:(fh (p::c) (t::d)).bind (bE M)=((mp p t).bind (bE M)).bind λM1=>(fh c d).bind (bE M1):=by
 rw [WN]
 cases mp p t with
 |none=>rfl
 |some a=>
  cases h:fh c d with
  |none=>
   show none=(bE M a).bind _;cases bE M a<;>rfl
  |some b=>exact Va a b M
def Pt (ns:List Str) (t:D) (q:Int×D):Prop:=tk ns q.2=true/\bz q.2<=bz t/\num q.2<=num t
mutual
theorem Gq: ∀(p t:D) (a:As),tk ns t=true->mp p t=some a-> ∀q∈a,Pt ns t q
 | .int i,t,a,d,h,q,c=>by
  rw [ua] at h;cases h;simp only [bJ,eE,or_false] at c;subst c;exact ⟨d,br _,br _⟩
 | .ak (.str z::m),t,a,d,h,q,c=>by
  rcases j7 d with ⟨i,rfl⟩| ⟨w,n,rfl,_,_,e⟩
  . rw [Gp] at h;cases h
  . rw [v5] at h
    split at h
    . obtain ⟨u,l,j⟩:=nM m n a e h q c;refine ⟨j.1,?_,?_⟩
      . have:=j.2.1;have:=qJ l;rw [jZ];omega
      . have:=j.2.2;rw [qe];obtain ⟨x,y,rfl⟩:=List.append_of_mem l;rw [vW];simp only [nums];omega
    . cases h
 | .ak [],t,a,d,h,q,c=>by simp [mp] at h
 | .ak (.aU::_),t,a,d,h,q,c=>by simp [mp] at h
 | .ak (.bl _::_),t,a,d,h,q,c=>by simp [mp] at h
 | .ak (.int _::_),t,a,d,h,q,c=>by simp [mp] at h
 | .ak (.ak _::_),t,a,d,h,q,c=>by simp [mp] at h
 | .ak (.ai _::_),t,a,d,h,q,c=>by simp [mp] at h
 | .ak (.ei _::_),t,a,d,h,q,c=>by simp [mp] at h
 | .ak (.aP _ _::_),t,a,d,h,q,c=>by simp [mp] at h
 | .ak (.bV _ _::_),t,a,d,h,q,c=>by simp [mp] at h
 | .ak (.gm _::_),t,a,d,h,q,c=>by simp [mp] at h
 | .ak (.gL _ _::_),t,a,d,h,q,c=>by simp [mp] at h
 | .ak (.gM _ _::_),t,a,d,h,q,c=>by simp [mp] at h
 | .aU,t,a,d,h,q,c=>by simp [mp] at h
 | .bl _,t,a,d,h,q,c=>by simp [mp] at h
 | .str _,t,a,d,h,q,c=>by simp [mp] at h
 | .ai _,t,a,d,h,q,c=>by simp [mp] at h
 | .ei _,t,a,d,h,q,c=>by simp [mp] at h
 | .aP _ _,t,a,d,h,q,c=>by simp [mp] at h
 | .bV _ _,t,a,d,h,q,c=>by simp [mp] at h
 | .gm _,t,a,d,h,q,c=>by simp [mp] at h
 | .gL _ _,t,a,d,h,q,c=>by simp [mp] at h
 | .gM _ _,t,a,d,h,q,c=>by simp [mp] at h
theorem nM: ∀(i c:List D) (a:As),(∀t∈c,tk ns t=true)->fh i c=some a-> ∀q∈a,∃t∈c,Pt ns t q
 | [],[],a,d,h,q,e=>by simp [fh] at h;subst h;cases e
 | [],_::_,a,d,h,q,e=>by simp [fh] at h
 |_::_,[],a,d,h,q,e=>by simp [fh] at h
 |p::i,t::c,a,d,h,q,e=>by
  rw [WN] at h
  cases e1:mp p t with
  |none=>rw [e1] at h;cases h
  |some x=>
   rw [e1] at h
   cases e2:fh i c with
   |none=>rw [e2] at h;cases h
   |some y=>
    rw [e2] at h;cases h;rcases j0.mp e with z|z
    . exact ⟨t,by simp,Gq p t x (d t (by simp)) e1 q z⟩
    . obtain ⟨u,j,l⟩:=nM i c y (λu j=>d u (by simp [j])) e2 q z;exact ⟨u,by simp [j],l⟩
end
def jjC: ∀p,tk ns p=true-> ∀t a,mp p t=some a->a.length<=num p:=qV (λi t a h=>by rw [ua] at h;cases h;simp [num]) λz d _ _ n t a h=>by
 cases t with
 |ak l=>
  cases l with
  |nil=>simp [mp] at h
  |cons x c=>
   cases x with
   |str w=>
    rw [v5] at h
    split at h
    . rw [qe]
      have j: ∀(d c:List D) a,(∀p∈d,∀t a,mp p t=some a->a.length<=num p)->fh d c=some a->a.length<=nums d:=λd=>by
       induction d with
       |nil=>intro c a _ h;cases c<;>simp [fh] at h;subst h;simp
       |cons p d o=>
        intro c a m h
        cases c with
        |nil=>simp [fh] at h
        |cons t c=>
         rw [WN] at h
         cases e1:mp p t with
         |none=>rw [e1] at h;cases h
         |some x=>
          rw [e1] at h
          cases e2:fh d c with
          |none=>rw [e2] at h;cases h
          |some y=>
           rw [e2] at h;cases h;have r:=m p (by simp) t x e1;have u:=o c y (λq e=>m q (by simp [e])) e2;simp only [nums,cP];omega
      have:=j d c a (λp e=>(n p e).2) h;omega
    . cases h
   |_=>simp [mp] at h
 |_=>simp [mp] at h
def As.ok (ns:List Str) (M:As):Prop:= ∀q∈M,tk ns q.2=true/\bz q.2<=100
def jeL {z w:Str} {a b:Nat} (h: ¬(z=w/\a=b)):de (.ak [.str z,.int (a:Int)]) (.ak [.str w,.int (b:Int)])= .ok (.bl true):=by
 unfold de
 have:bG (.ak [.str z,.int a]) (.ak [.str w,.int b])=false:=by
  simp only [bG,bY,Bool.and_true];rw [Bool.and_eq_false_iff]
  by_cases e:z=w
  . right
    have:a≠b:=λe2=>h ⟨e,e2⟩
    simp;omega
  . left;simpa using e
 rw [this];rfl
def jeK (z:Str) (a:Int):de (.ak [.str z,.int a]) .aU= .ok (.bl true):=by
 unfold de;rw [jl (by left;simp [D.cm,D.bS,D.dE,D.cE])];simp [bG]
def iy (n:Nat):Sl->ao bL:=lz (yR (jM n) 2 (ae 3) (ae 4)) (gc (cB false)) nZ
def nN (o:Option As) (r:ao (Bool×List aQ×List D)):Prop:=match o with
 |some M=>r= .ok (true,ky M,vl M)
 |none=> ∃M:As,r= .ok (false,ky M,vl M)
def Fits (ns:List Str) (n:Nat) (p:D):Prop:= ∀(t:D) (M:As),tk ns t=true->bz t<=100->M.ok ns->M.length+num p<=5000->nN ((mp p t).bind (bE M)) (jM n [p,t] (ky M) (vl M))
def Mn {p t:D} {M c:As} (d:tk ns t=true) (l:bz t<=100) (i:M.ok ns) (h:(mp p t).bind (bE M)=some c):c.ok ns:=by
 cases e:mp p t with
 |none=>rw [e] at h;cases h
 |some a=>
  rw [e] at h;intro q j;rcases WX a M c h q j with z|z
  . exact i q z
  . have:=Gq p t a d e q z;exact ⟨this.1,by have:=this.2.1;omega⟩
def Mo {p t:D} {M c:As} (d:tk ns p=true) (h:(mp p t).bind (bE M)=some c):c.length<=M.length+num p:=by
 cases e:mp p t with
 |none=>rw [e] at h;cases h
 |some a=>
  rw [e] at h;have i:=K9 a M c h;have j:=jjC p d t a e;omega
theorem Uw {n:Nat} (a b:Slot): ∀(c d:List D) (M:As) (u v:Slot),(∀p∈c,tk ns p=true/\Fits ns n p)->(∀t∈d,tk ns t=true/\bz t<=100)->c.length=d.length->M.ok ns->M.length+nums c<=5000->
  match (fh c d).bind (bE M) with
  |some M2=> ∃Q U,Zr (g2 (gN 3) (gN 4)) (iy n) (q9 c d) [a,b,.aw (.aP (ky M) (vl M)),u,v]= .ok (.nx [a,b,.aw (.aP (ky M2) (vl M2)),Q,U])
  |none=> ∃(i:Sl) (M2:As),Zr (g2 (gN 3) (gN 4)) (iy n) (q9 c d) [a,b,.aw (.aP (ky M) (vl M)),u,v]= .ok (.rt false i)/\i[2]?=some (.aw (.aP (ky M2) (vl M2)))
 | [],[],M,u,v,_,_,_,_,_=>by
  exact ⟨u,v,rfl⟩
 | [],_::_,_,_,_,_,_,h,_,_=>by simp at h
 |_::_,[],_,_,_,_,_,h,_,_=>by simp at h
 |p::c,t::d,M,u,v,J,L,Y,N,j=>by
  obtain ⟨w,y⟩:=J p (by simp);obtain ⟨l,m⟩:=L t (by simp);simp only [nums] at j;have r:=y t M l m N (by omega);rw [vZ]
  have O:Zr (g2 (gN 3) (gN 4)) (iy n) (q9 (p::c) (t::d)) [a,b,.aw (.aP (ky M) (vl M)),u,v]=(iy n [a,b,.aw (.aP (ky M) (vl M)),.ah p,.ah t]>>=λo=>match o with
   | .nx q=>Zr (g2 (gN 3) (gN 4)) (iy n) (q9 c d) q
   | .rt b e=> .ok (.rt b e)):=rfl
  cases e:(mp p t).bind (bE M) with
  |none=>
   rw [e] at r;obtain ⟨M2,z⟩:=r
   have B:yR (jM n) 2 (ae 3) (ae 4) [a,b,.aw (.aP (ky M) (vl M)),.ah p,.ah t]= .ok (false,[a,b,.aw (.aP (ky M2) (vl M2)),.ah p,.ah t]):=by
    show (jM n [p,t] (ky M) (vl M)>>=_)=_;rw [z];rfl
   have E:iy n [a,b,.aw (.aP (ky M) (vl M)),.ah p,.ah t]= .ok (.rt false [a,b,.aw (.aP (ky M2) (vl M2)),.ah p,.ah t]):=by
    show (yR (jM n) 2 (ae 3) (ae 4) [a,b,.aw (.aP (ky M) (vl M)),.ah p,.ah t]>>=_)=_;rw [B];rfl
   refine ⟨[a,b,.aw (.aP (ky M2) (vl M2)),.ah p,.ah t],M2,?_,rfl⟩;rw [O,E];rfl
  |some M1=>
   rw [e] at r;have H:=Mn l m N e;have BJ:=Mo w e
   have B:yR (jM n) 2 (ae 3) (ae 4) [a,b,.aw (.aP (ky M) (vl M)),.ah p,.ah t]= .ok (true,[a,b,.aw (.aP (ky M1) (vl M1)),.ah p,.ah t]):=by
    show (jM n [p,t] (ky M) (vl M)>>=_)=_;rw [show jM n [p,t] (ky M) (vl M)=_ from r];rfl
   have E:iy n [a,b,.aw (.aP (ky M) (vl M)),.ah p,.ah t]= .ok (.nx [a,b,.aw (.aP (ky M1) (vl M1)),.ah p,.ah t]):=by
    show (yR (jM n) 2 (ae 3) (ae 4) [a,b,.aw (.aP (ky M) (vl M)),.ah p,.ah t]>>=_)=_;rw [B];rfl
   rw [O,E];exact Uw a b c d M1 (.ah p) (.ah t) (λx I=>J x (by simp [I])) (λx I=>L x (by simp [I])) (by simpa using Y) H (by omega)
theorem Mp: ∀(n:Nat) (p:D),tk ns p=true->bz p<=n->Fits ns n p
 |0,p,_,h=>by have:=Jx p;omega
 |n+1,p,L,hh=>by
  intro t M ht N hM hl;have hi:=Wo L;have a: ∀q d u v,a6 (aO (a7 "tuple" (ae 0))) [.ah p,q,d,u,v]= .ok (!oS p):=λq d u v=>zc (jC (by rw [wn];exact hi))
  rcases j7 L with ⟨i,rfl⟩| ⟨z,r,rfl,hz,hlr,hr⟩
  . rw [ua];have o:(ky M).length<aS:=by rw [Mm];exact Dh (show M.length<=5000 by omega) (by decide)
    have B:BD 2 (ae 0) (ae 1) (ae 1) [.ah (.int i),.ah t,.aw (.aP (ky M) (vl M)),.un,.un]=aV ((ky M).length<aS) (match bB (ky M) (vl M) (.inl i) with
      |some d0=>ce d0 t>>=λr=>match r with
        | .bl b=> .ok (.rt b [.ah (.int i),.ah t,.aw (.aP (ky M) (vl M)),.un,.un])
        |_=> .aj
      |none=>ce t t>>=λr=>match r with
        | .bl b=> .ok (.rt b [.ah (.int i),.ah t,.aw (.aP (QE (ky M) (.inl i)) (QF (ky M) (vl M) (.inl i) t)),.un,.un])
        |_=> .aj):=rfl
    rw [jl o,ZL] at B
    have y: ∀(b:Bool) M2 c,BD 2 (ae 0) (ae 1) (ae 1) [.ah (.int i),.ah t,.aw (.aP (ky M) (vl M)),.un,.un]= .ok (.rt b c)->c[2]?=some (.aw (.aP (ky M2) (vl M2)))->jM (n+1) [.int i,t] (ky M) (vl M)= .ok (b,ky M2,vl M2):=λb M2 c I O=>by
      refine kj ?_ rfl O;exact ZP ((tu (a _ _ _ _)).trans I)
    show nN (bE M [(i,t)]) _;simp only [bE]
    cases e:M.lookup i with
    |none=>
      rw [e] at B;rw [Mi ht N,(vI t e).1,(vI t e).2] at B;exact y true _ _ B rfl
    |some d0=>
      rw [e] at B;dsimp only at B ⊢
      have Q:tk ns d0=true/\bz d0<=100:=by
        have:(i,d0)∈M:=by
         clear B y hl hM o
         induction M with
         |nil=>cases e
         |cons q M ih=>
           obtain ⟨x,d⟩:=q;rw [ln] at e
           by_cases hx:i=x
           . subst hx;simp at e;subst e;simp
           . have:(i==x)=false:=by simpa using hx
             rw [this] at e;exact fM _ (ih e)
        exact hM _ this
      rw [kY Q.1 ht Q.2] at B
      cases hb:bG d0 t with
      |true=>
        rw [hb] at B;rw [if_pos rfl];exact y true M _ B rfl
      |false=>
        rw [hb] at B;rw [if_neg eh];exact ⟨M,y false M _ B rfl⟩
  . rw [jZ] at hh;rw [qe] at hl;have U:=QI (d:= .ak (.str z::r)) rfl;simp only [bx] at U;have y: ∀(b:Bool) M2 c,yl wY jR (jM n) [.ah (.ak (.str z::r)),.ah t,.aw (.aP (ky M) (vl M)),.un,.un]= .ok (.rt b c)->c[2]?=some (.aw (.aP (ky M2) (vl M2)))->jM (n+1) [.ak (.str z::r),t] (ky M) (vl M)= .ok (b,ky M2,vl M2):=λb M2 c I O=>kj I rfl O
    have stop:aO (al (jk 1 wY (jb (ae 0) ag)) (jk 1 wY (jb (ae 1) ag)) de) [.ah (.ak (.str z::r)),.ah t,.aw (.aP (ky M) (vl M)),.un,.un]= .ok true->jM (n+1) [.ak (.str z::r),t] (ky M) (vl M)= .ok (false,ky M,vl M):=λE=>by
      refine y false M [.ah (.ak (.str z::r)),.ah t,.aw (.aP (ky M) (vl M)),.un,.un] ?_ rfl;unfold yl;rw [xj ((KJ (a _ _ _ _)))];exact ZP ((tu E))
    rcases j7 ht with ⟨j,rfl⟩| ⟨w,l,rfl,_,_,tw⟩
    . rw [Gp];exact ⟨M,stop (jC (jh (jn (jc rfl rfl) rfl (Aw z r)) (jn (jc rfl rfl) rfl rfl) (jeK z _)))⟩
    . rw [v5]
      by_cases J:z=w/\r.length=l.length
      . obtain ⟨rfl,o⟩:=J;rw [if_pos rfl];have Y:=QI (d:= .ak (.str z::l)) rfl;simp only [bx] at Y;have Mq:=Aw z l;rw [<-o] at Mq
        have E:aO (al (jk 1 wY (jb (ae 0) ag)) (jk 1 wY (jb (ae 1) ag)) de) [.ah (.ak (.str z::r)),.ah (.ak (.str z::l)),.aw (.aP (ky M) (vl M)),.un,.un]= .ok false:=
         jC (jh (jn (jc rfl rfl) rfl (Aw z r)) (jn (jc rfl rfl) rfl Mq) (jhn z _))
        have Gr:lB (jk 1 jR (jb (ae 0) ag)) (jk 1 jR (jb (ae 1) ag)) [.ah (.ak (.str z::r)),.ah (.ak (.str z::l)),.aw (.aP (ky M) (vl M)),.un,.un]= .ok (q9 r l):=by
         have c1:jk 1 jR (jb (ae 0) ag) [.ah (.ak (.str z::r)),.ah (.ak (.str z::l)),.aw (.aP (ky M) (vl M)),.un,.un]= .ok (.ak r):=jn (jc rfl rfl) rfl U;have c2:jk 1 jR (jb (ae 1) ag) [.ah (.ak (.str z::r)),.ah (.ak (.str z::l)),.aw (.aP (ky M) (vl M)),.un,.un]= .ok (.ak l):=jn (jc rfl rfl) rfl Y;unfold lB;rw [c1,qy,c2];rfl
        have H:lx (lB (jk 1 jR (jb (ae 0) ag)) (jk 1 jR (jb (ae 1) ag))) (g2 (gN 3) (gN 4)) (iy n) [.ah (.ak (.str z::r)),.ah (.ak (.str z::l)),.aw (.aP (ky M) (vl M)),.un,.un]=Zr (g2 (gN 3) (gN 4)) (iy n) (q9 r l) [.ah (.ak (.str z::r)),.ah (.ak (.str z::l)),.aw (.aP (ky M) (vl M)),.un,.un]:=by
         show (lB _ _ _>>=_)=_;rw [Gr];rfl
        have m:=Uw (.ah (.ak (.str z::r))) (.ah (.ak (.str z::l))) r l M .un .un (λp L=>⟨hr p L,Mp n p (hr p L) (by have:=qJ L;omega)⟩) (λu hu=>⟨tw u hu,by rw [jZ] at N;have:=qJ hu;omega⟩) o hM (by omega)
        cases e:(fh r l).bind (bE M) with
        |none=>
         rw [e] at m;obtain ⟨c,M2,I,O⟩:=m;refine ⟨M2,y false M2 c ?_ O⟩;unfold yl;rw [xj ((KJ (a _ _ _ _))),xj ((KJ E))];exact ZP (H.trans I)
        |some M2=>
         rw [e] at m;obtain ⟨u',v',I⟩:=m;refine y true M2 [.ah (.ak (.str z::r)),.ah (.ak (.str z::l)),.aw (.aP (ky M2) (vl M2)),u',v'] ?_ rfl;unfold yl;rw [xj ((KJ (a _ _ _ _))),xj ((KJ E))];exact (xj (H.trans I)).trans rfl
      . have hno:(if z=w then fh r l else none)=none:=by
         by_cases e:z=w
         . rw [if_pos e];exact kL r l λe2=>J ⟨e,e2⟩
         . rw [if_neg e]
        rw [hno];exact ⟨M,stop (jC (jh (jn (jc rfl rfl) rfl (Aw z r)) (jn (jc rfl rfl) rfl (Aw w l)) (jeL J)))⟩
def Ax:Option As->D
 |some M=> .aP (ky M) (vl M)
 |none=> .aU
def uo {p t:D} (j:tk ns p=true) (l:tk ns t=true) (m:bz p<=64) (c:bz t<=100) (n:num p<=1000):zh [p,t]= .ok (Ax ((mp p t).bind (bE []))):=by
 have a:=Mp 64 p j m t [] l c (λ_ h=>by cases h) (by simp only [dY];omega);refine qQ ?_;unfold XH;rw [jj (env':=[.ah p,.ah t,.aw (.aP [] [])]) rfl]
 cases e:(mp p t).bind (bE []) with
 |none=>
  rw [e] at a;obtain ⟨M2,d⟩:=a
  have i:yR (jM 64) 2 (ae 0) (ae 1) [.ah p,.ah t,.aw (.aP [] [])]= .ok (false,[.ah p,.ah t,.aw (.aP (ky M2) (vl M2))]):=by
   show (jM 64 [p,t] (ky []) (vl [])>>=_)=_;rw [d];rfl
  show (yR (jM 64) 2 (ae 0) (ae 1) _>>=_)=_;rw [i];rfl
 |some M2=>
  rw [e] at a
  have i:yR (jM 64) 2 (ae 0) (ae 1) [.ah p,.ah t,.aw (.aP [] [])]= .ok (true,[.ah p,.ah t,.aw (.aP (ky M2) (vl M2))]):=by
   show (jM 64 [p,t] (ky []) (vl [])>>=_)=_;rw [show jM 64 [p,t] (ky []) (vl [])=_ from a];rfl
  show (yR (jM 64) 2 (ae 0) (ae 1) _>>=_)=_;rw [i];rfl
theorem Z6: ∀ {M:As} {i:Int} {d:D},M.lookup i=some d->(i,d)∈M
 | [],_,_,h=>by cases h
 | (x,e)::M,i,d,h=>by
  rw [ln] at h
  by_cases a:i=x
  . subst a;simp at h;subst h;simp
  . have:(i==x)=false:=by simpa using a
    rw [this] at h;exact fM _ (Z6 h)
def Y1 (d:D):D->Option D
 | .int i=>if 0<=i then (bx d)[i.toNat]? else none
 |_=>none
def lV:D->List D->Option D
 |d,[]=>some d
 |d,x::r=>match Y1 d x with
  |some e=>lV e r
  |none=>none
def putAt (o:D):List Int->D->D
 | [],_=>o
 |i::p,.ak (h::a)=> .ak (h::a.set i.toNat (putAt o p (a.getD i.toNat (.int 0))))
 |_::_,d=>d
def Jr (o:D) (i:Int) (p:List Int) (h:D) (a:List D):putAt o (i::p) (.ak (h::a))= .ak (h::a.set i.toNat (putAt o p (a.getD i.toNat (.int 0)))):=by simp [putAt]
def WH {t e:D} {i:Int} {p:List Int} (l:tk ns t=true) (h:lV t ((i::p).map .int)=some e):
  ∃z c u,t= .ak (.str z::c)/\z∈ns/\c.length<=9/\(∀u∈c,tk ns u=true)/\0<=i/\c[i.toNat]?=some u/\lV u (p.map .int)=some e:=by
 simp only [cL,lV] at h
 cases a:Y1 t (.int i) with
 |none=>rw [a] at h;cases h
 |some u=>
  rw [a] at h;simp only [Y1] at a
  split at a
  . rename_i m;rcases j7 l with ⟨j,rfl⟩| ⟨z,c,rfl,n,o,d⟩
    . cases a
    . exact ⟨z,c,u,rfl,n,o,d,m,a,h⟩
  . cases a
theorem YZ {o:D} (c:tk ns o=true): ∀(p:List Int) (t:D),tk ns t=true->tk ns (putAt o p t)=true
 | [],t,_=>by simpa [putAt] using c
 |i::p,t,d=>by
  rcases j7 d with ⟨j,rfl⟩| ⟨z,e,rfl,l,m,a⟩
  . simpa [putAt] using d
  . rw [Jr];refine Q3 l (by simpa using m) λu n=>?_
    rcases List.mem_or_eq_of_mem_set n with h|rfl
    . exact a u h
    . refine YZ c p _ ?_;rw [rN]
      cases h:e[i.toNat]? with
      |none=>rfl
      |some v=>exact a v (gu h)
theorem uk {w:D}: ∀(a:List D) (k:Nat),bi (a.set k w)<=max (bi a) (bz w)
 | [],k=>by simp [bi]
 |d::r,0=>by simp only [Gs,bi];omega
 |d::r,k+1=>by have:=uk (w:=w) r k;simp only [Gu,bi];omega
theorem vV {w:D}: ∀(a:List D) (k:Nat),nums (a.set k w)+num (a.getD k (.int 0))<=nums a+num w+1
 | [],k=>by simp [nums,num]
 |d::r,0=>by simp only [Gs,nums,List.getD_cons_zero];omega
 |d::r,k+1=>by have:=vV (w:=w) r k;simp only [Gu,nums,List.getD_cons_succ];omega
theorem Ys {o:D}: ∀(p:List Int) (t e:D),tk ns t=true->lV t (p.map .int)=some e->bz (putAt o p t)<=max (bz t) (p.length+bz o)/\num (putAt o p t)<=num t+num o+p.length
 | [],t,e,_,_=>by simp only [putAt,dY];omega
 |i::p,t,e,l,h=>by
  obtain ⟨z,a,u,rfl,q,r,c,v,d,m⟩:=WH l h;have j:=gu d;obtain ⟨y,B⟩:=Ys (o:=o) p u e (c u j) m;have e1:a.getD i.toNat (.int 0)=u:=by rw [rN,d];rfl
  have E:=uk (w:=putAt o p u) a i.toNat;have n:=vV (w:=putAt o p u) a i.toNat;have H:=qJ j;rw [Jr,e1,jZ,qe,jZ,qe,bO];rw [e1] at n;omega
def vP: ∀t,tk ns t=true-> ∀q∈bP t,lV t (q.1.map .int)=some q.2:=qV (λi q hq=>by
   rw [QH] at hq;simp only [bJ,eE,or_false] at hq
   subst hq;rfl) λz c l m h q hq=>by
 rcases bJ.mp hq with rfl|hq
 . rfl
 . obtain ⟨j,u,p,a,d,rfl⟩:=Q9 hq;have:=(h u (QK a)).2 p d;simp only [cL,lV,Y1];have e:(((0+j:Nat):Int)).toNat=j:=by omega
   rw [e,show (bx (D.ak (D.str z::c)))[j]?=some u from a];exact this
theorem uF: ∀p:List Int,D.cE (p.map .int)=0/\D.bS (p.map .int)=true
 | []=>⟨rfl,rfl⟩
 |i::p=>by simp [D.cE,D.dE,D.bS,D.cm,uF p]
def uv (p:List Int):ce (jJ p) (.ak [])= .ok (.bl p.isEmpty):=by
 obtain ⟨a,c⟩:=uF p;have d:ph (jJ p) (.ak []):= .inl ⟨by simpa [jJ,D.cm] using c,rfl,by simp [jJ,D.dE,a]⟩;refine (jl d).trans ?_;cases p<;>rfl
def jkj (l:List D) (k:Nat):cutD l none (some (k:Int))=l.take k:=by
 unfold cutD;rw [HT.eK,HT.fP];simp
def jfz (l:List D) (k:Nat):cutD l (some (k:Int)) none=l.drop k:=by
 unfold cutD;rw [HT.eK,HT.fP]
 by_cases h:k<=l.length
 . rw [Nat.min_eq_left h];exact List.take_of_length_le (by simp)
 . rw [Nat.min_eq_right (by omega),List.drop_of_length_le (br _),List.drop_of_length_le (by omega)];simp
theorem Yv {o:D}: ∀(n:Nat) (p:List Int) (t e:D),p.length<n->tk ns t=true->lV t (p.map .int)=some e->wx n [t,jJ p,o]= .ok (putAt o p t)
 |0,p,t,e,h,_,_=>by omega
 |n+1,[],t,e,h,m,q=>by
  refine Xa ?_;refine xJ ((cu (jC ((jh rfl (zJ rfl (jt (by simp))) (uv []))))).trans (yz ?_));simp only [putAt];rfl
 |n+1,i::p,t,e,h,m,q=>by
  obtain ⟨z,a,u,rfl,H,I,d,J,c,l⟩:=WH m q;have r:=Yv (o:=o) n p u e (by simp at h;omega) (d u (gu c)) l;obtain ⟨k,rfl⟩: ∃k:Nat,i=k:=⟨i.toNat,by omega⟩
  simp only [lP] at c;have e1:a.getD k (.int 0)=u:=by rw [rN,c];rfl
  have v:k<a.length:=by
   by_cases z:k<a.length
   . exact z
   . rw [mP (by omega)] at c;cases c
  rw [Jr,lP,e1];generalize putAt o p u=w at r;refine qQ ?_;refine (jj ((dG (jC ((jh rfl (zJ rfl (jt (by simp))) (uv (k::p)))))))).trans ?_;refine (jj ((jA (jh (jh rfl rfl fu) rfl rfl)))).trans ?_
  have y:qp (ae 0) wP (zI (ae 3)) eW [.ah (.ak (.str z::a)),.ah (jJ (k::p)),.ah o,.ah (.int ((k+1:Nat):Int))]= .ok (.ak (.str z::a.take k)):=by
   refine (wz rfl rfl (wy rfl) rfl).trans ?_;rw [jkj];rfl
  have B:qp (ae 0) (zI (al (ae 3) (cI 1) aX)) wP eW [.ah (.ak (.str z::a)),.ah (jJ (k::p)),.ah o,.ah (.int ((k+1):Int))]= .ok (.ak (a.drop (k+1))):=by
   refine (wz rfl (wy (j:=((k+2:Nat):Int)) (jh rfl rfl rfl)) rfl rfl).trans ?_;rw [jfz];rfl
  have E:jk 3 (wx n) (jb (al (ae 0) (ae 3) aG) (jb (qp (ae 1) (zI (cI 1)) wP eW) (jb (ae 2) ag))) [.ah (.ak (.str z::a)),.ah (jJ (k::p)),.ah o,.ah (.int ((k+1):Int))]= .ok w:=by
   refine jn (jc (jh rfl rfl (Au (by simpa using c))) (jc ((wz rfl (wy rfl) rfl rfl).trans ?_) (jc rfl rfl))) rfl r;show ao.ok (D.ak (cutD (.int k::p.map .int) (some 1) none))=_;rw [nL];rfl
  refine qm ((jh (jh y (zJ (jc E rfl) (jt (by simp))) (X3 rfl (jt (by simp;omega)))) B (X3 (by simp) (jt (by simp;omega)))).trans ?_);have:a.set k w=a.take k++w::a.drop (k+1):=by rw [List.set_eq_take_append_cons_drop,if_pos v]
  rw [this];simp
theorem Mr {c:List aQ} {e:List D}: ∀(n:Nat) (t:D),tk ns t=true->bz t<=n->zC n [t,.aP c e]= .ok (sub (look c e) t)
 |0,t,_,h=>by have:=Jx t;omega
 |n+1,t,p,q=>by
  have u:j4 2 [t,.aP c e]=[.ah t,.ah (.aP c e)]:=rfl;have v:=Wo p;have a:a6 (aO (a7 "tuple" (ae 0))) [.ah t,.ah (.aP c e)]= .ok (!oS t):=zc (jC (by rw [wn];exact v));rcases j7 p with ⟨i,rfl⟩| ⟨z,r,rfl,B,E,w⟩
  . refine Xa ?_;exact xJ ((cu a).trans (yz rfl))
  . rw [jZ] at q;have m:=QI (d:= .ak (.str z::r)) rfl
    have j:qv false 1 [1] (b9 (jk 1 jR (jb (ae 0) ag))) (gN 0) qi (jk 2 (zC n) (jb (ae 0) (jb (ae 1) ag))) [.ah (.ak (.str z::r)),.ah (.aP c e)]= .ok (.ai (r.map (sub (look c e)))):=by
     refine D8 rfl (sub (look c e)) (λd=>d∈r) (y9 (jn (jc rfl rfl) rfl m) rfl) (λd l=>l) (jt (by omega)) ?_;intro d y l;refine jn (jc rfl (jc rfl rfl)) rfl (Mr n d (w d l) ?_);have:=qJ l;omega
    refine qQ ?_;unfold QM;rw [u,jj ((dG a)),ZM];have o:qp (ae 0) wP (zI (cI 1)) eW [.ah (.ak (.str z::r)),.ah (.aP c e)]= .ok (.ak [.str z]):=wz rfl rfl (wy rfl) (show ao.ok (D.ak (cutD (.str z::r) none (some 1)))=_ by rw [Gj]);refine (qm (jh o (qC (jc j rfl) rfl) (X3 rfl ?_))).trans rfl;rw [dc];simp only [bO,dY];exact jt (by omega)
theorem VX {w u:D}: ∀(a:List D) (k:Nat),a[k]?=some u->nums (a.set k w)+num u=nums a+num w
 | [],k,h=>by simp at h
 |d::r,0,h=>by simp at h;subst h;simp only [Gs,nums];omega
 |d::r,k+1,h=>by have:=VX (w:=w) r k (by simpa using h);simp only [Gu,nums];omega
theorem VY {o:D}: ∀(p:List Int) (t e:D),tk ns t=true->lV t (p.map .int)=some e->num (putAt o p t)+num e=num t+num o
 | [],t,e,_,h=>by
  simp only [q7,lV,Option.some.injEq] at h;subst h;simp only [putAt];omega
 |i::p,t,e,j,h=>by
  obtain ⟨z,d,u,rfl,m,n,a,q,c,l⟩:=WH j h;have r:=VY (o:=o) p u e (a u (gu c)) l;have e1:d.getD i.toNat (.int 0)=u:=by rw [rN,c];rfl
  have v:=VX (w:=putAt o p u) d i.toNat c;rw [Jr,e1,qe,qe];omega
def Ms {c:Int->D} {B:Nat} (n:1<=B) (h: ∀i,num (c i)<=B): ∀t,tk ns t=true->num (sub c t)<=num t*B:=qV (λi=>by rw [sub_int];have:=h i;simp [num];omega) λz e _ _ j=>by
 rw [ZM,qe,qe]
 have: ∀a:List D,(∀u∈a,num (sub c u)<=num u*B)->nums (a.map (sub c))<=nums a*B:=λa=>by
  induction a with
  |nil=>intro _;simp [nums]
  |cons u r l=>
   intro d;have o:=d u (by simp);have p:=l λx m=>d x (by simp [m])
   simp only [cL,nums,Nat.add_mul];omega
 have:=this e λu d=>(j u d).2
 rw [Nat.add_mul];omega
def nO (l u:D):Option As:=(mp l u).bind (bE [])
def lk (M:As):Int->D:=look (ky M) (vl M)
def Mt {M:As} {u:D} (h: ∀q∈M,Pt ns u q) (i:Int):tk ns (lk M i)=true/\bz (lk M i)<=bz u/\num (lk M i)<=num u:=by
 unfold lk look;rw [ZL]
 cases a:M.lookup i with
 |none=>exact ⟨rfl,by simp only [AY,bz];exact Jx u,by simp only [AY,num];exact kI u⟩
 |some d=>exact h _ (Z6 a)
def res (t:D) (q:List Int×D) (r:D) (M:As):D:=putAt (sub (lk M) r) q.1 t
def ZX: ∀t,tk ns t=true-> ∀q∈bP t,num q.2<=num t/\bz q.2<=bz t:=qV (λi q hq=>by
   rw [QH] at hq;simp only [bJ,eE,or_false] at hq;subst hq;exact ⟨br _,br _⟩) λz e _ _ h q hq=>by
 rcases bJ.mp hq with rfl|hq
 . exact ⟨br _,br _⟩
 . obtain ⟨j,u,p,c,d,rfl⟩:=Q9 hq;have a:=(h u (QK c)).2 p d;have:=WL (QK c);have:=qJ (QK c);rw [qe,jZ];simp only at a ⊢;omega
def vE {t r:D} {q:List Int×D} {M:As} (a:tk ns t=true) (e:q∈bP t) (h:tk ns r=true) (l: ∀x∈M,Pt ns q.2 x):
  tk ns (res t q r M)=true/\bz (res t q r M)<=2*bz t+bz r/\num (res t q r M)<=num t+num r*num t:=by
 have j:=λi=>Mt l i
 have c:=ZX t a q e;have m:=wA t a q e;have d:=vP t a q e;have n:=Gk (λi=>(j i).1) r h;have p:=Mh (λi=>cY (j i).2.1 c.2) r h;have u:=Ms (kI t) (λi=>cY (j i).2.2 c.1) r h;have v:=(Ys (o:=sub (lk M) r) q.1 t q.2 a d).1;have w:=VY (o:=sub (lk M) r) q.1 t q.2 a d;exact ⟨YZ n q.1 t a,by unfold res;omega,by unfold res;omega⟩
def K6 {d:D} (h:cn d=true):qD [d]=if bU d=true then .exc "TooGreat" else .ok d:=by
 have a:=L6 h
 cases e:bU d with
 |true=>
  rw [e] at a;refine Xb ?_;unfold Zp;exact Qu (Uk (by decreasing_with exact rfl) rfl)
 |false=>
  rw [e] at a;refine LF ?_;unfold Zp
  decreasing_with exact rfl
def vx {t l r:D} {q:List Int×D} {M:As} (c:tk ns t=true) (h:q∈bP t) (i:Ru ns l r) (j: ∀x∈M,Pt ns q.2 x) (u:bz t<=60):
  qR [t,jJ q.1,.ak [l,r],.aP (ky M) (vl M)]=if bU (res t q r M)=true then .exc "TooGreat" else .ok (res t q r M):=by
 obtain ⟨m,v,w⟩:=vE c h i.tr j;have a:=i.hr;have n:=wA t c q h;have e1:zC 64 [r,.aP (ky M) (vl M)]= .ok (sub (lk M) r):=Mr 64 r i.tr (by omega);have e2:=Yv (o:=sub (lk M) r) 64 q.1 t q.2 (by omega) c (vP t c q h);have p:qD [putAt (sub (lk M) r) q.1 t]=_:=K6 (yE _ m);have y:aG (.ak [l,r]) (.int 1)= .ok r:=dg _ _ _
 have d:QT 1 qD (jb (jk 3 (wx 64) (jb (ae 0) (jb (ae 1) (jb (jk 2 (zC 64) (jb (al (ae 2) (cI 1) aG) (jb (ae 3) ag))) ag)))) ag) [.ah t,.ah (jJ q.1),.ah (.ak [l,r]),.ah (.aP (ky M) (vl M))]=if bU (res t q r M)=true then .exc "TooGreat" else .ok (res t q r M):=
  (K5 (by decreasing_with exact rfl) rfl).trans p
 cases e:bU (res t q r M) with
 |true=>
  rw [e] at d;exact Xb (jen d)
 |false=>
  rw [e] at d;exact LF (yz d)
def stI (t:D) (q:List Int×D) (k:Nat) (p:D×D):ao (List D):=match nO p.1 q.2 with
 |some M=>if bU (res t q p.2 M)=true then .exc "TooGreat" else .ok [.ak [jJ q.1,.int (k:Int),res t q p.2 M]]
 |none=> .ok []
def lW (t:D) (q:List Int×D):Nat->List (D×D)->ao (List D)
 |_,[]=> .ok []
 |k,p::c=>match stI t q k p with
  | .ok a=>(match lW t q (k+1) c with
   | .ok b=> .ok (a++b)
   |r=>r)
  |r=>r
def oV (t:D) (c:List (D×D)):List (List Int×D)->ao (List D)
 | []=> .ok []
 |q::L=>match lW t q 0 c with
  | .ok a=>(match oV t c L with
   | .ok b=> .ok (a++b)
   |r=>r)
  |r=>r
def B8 (t:D) (a:List (D×D)):ao (List D):=oV t a (bP t)
def Gv (h:List D) (E:List D->Slot->Slot->Slot->Slot->Slot->Sl) (r:ao (List D)) (o:ao aW):Prop:=match r with
 | .ok l=> ∃a b c d e,o= .ok (.nx (E (h++l) a b c d e))
 | .exc c=>o= .exc c
 | .aj=>False
def Mu {t:D} {q:List Int×D} {k:Nat} {p:D×D} {a:List D} (h:stI t q k p= .ok a):a.length<=1:=by
 unfold stI at h
 split at h
 . split at h
   . cases h
   . cases h;simp
 . cases h;simp
theorem Mv {t:D} {q:List Int×D}: ∀ {k:Nat} {d:List (D×D)} {a:List D},lW t q k d= .ok a->a.length<=d.length
 |_,[],a,h=>by cases h;simp
 |k,p::d,a,h=>by
  unfold lW at h
  cases e:stI t q k p with
  |ok x=>
   rw [e] at h
   cases i:lW t q (k+1) d with
   |ok y=>
    rw [i] at h;cases h;have:=Mu e;have:=Mv i;simp only [cP,bO];omega
   |exc c=>rw [i] at h;cases h
   |aj=>rw [i] at h;cases h
  |exc c=>rw [e] at h;cases h
  |aj=>rw [e] at h;cases h
def pI : Sl -> ao aW := (ap (wt (jr 7 (jk 2 zh (jb (al (ae 6) (cI 0) aG) (jb (ae 4) ag)))))
      (gR (aO (al (ae 7) cN nB)) (jY 2 (aN (jb (K4 (ae 3)) (jb (K4 (ae 5)) (jb (QT 4 qR (jb (ae 1) (jb (ae 3) (jb (ae 6) (jb (ae 7) ag))))) ag))))) (wt bo)))
def uq {l u:D} (c:tk ns u=true) {M:As} (h:nO l u=some M): ∀q∈M,Pt ns u q:=by
 unfold nO at h
 cases e:mp l u with
 |none=>rw [e] at h;cases h
 |some a=>
  rw [e] at h;intro q d;rcases WX a [] M h q d with z|z
  . cases z
  . exact Gq l u a c e q z
theorem vw {t:D} {O:Slot} {q:List Int×D} (y:tk ns t=true) (z:q∈bP t) (H:bz t<=60) (I:num t<=1000): ∀(i:List (D×D)) (k:Nat) (d:List D) (n o r:Slot),tt ns i->d.length+i.length<=10000->
  Gv d (λl _ _ a b c=>[O,.ah t,.aw (.ai l),.ah (jJ q.1),.ah q.2,a,b,c]) (lW t q k i) (a5 (xH (g2 (gN 5) (gN 6)) pI) (jS k (i.map rl)) [O,.ah t,.aw (.ai d),.ah (jJ q.1),.ah q.2,n,o,r])
 | [],k,d,n,o,r,_,_=>⟨.un,.un,n,o,r,by simp [jS,a5]⟩
 |p::i,k,d,n,o,r,h,J=>by
  simp only [bO] at J;have B:=h p (by simp);have L:=ZX t y q z;have w:=wA t y q z;have h1:=B.hl;have h2:=B.nl;have u:zh [p.1,q.2]= .ok (Ax (nO p.1 q.2)):=uo B.tl w.2.2 (by omega) (by omega) (by omega);have i0:aG (rl p) (.int 0)= .ok p.1:=fu
  have go: ∀(a:List D) m,stI t q k p= .ok a->xH (g2 (gN 5) (gN 6)) pI (.ak [.int k,rl p]) [O,.ah t,.aw (.ai d),.ah (jJ q.1),.ah q.2,n,o,r]= .ok (.nx [O,.ah t,.aw (.ai (d++a)),.ah (jJ q.1),.ah q.2,.ah (.int k),.ah (rl p),m])->
    Gv d (λl _ _ a b c=>[O,.ah t,.aw (.ai l),.ah (jJ q.1),.ah q.2,a,b,c]) (lW t q k (p::i)) (a5 (xH (g2 (gN 5) (gN 6)) pI) (.ak [.int k,rl p]::jS (k+1) (i.map rl)) [O,.ah t,.aw (.ai d),.ah (jJ q.1),.ah q.2,n,o,r]):=λa m e j=>by
   rw [qf j];have N:=Mu e;have v:=vw (O:=O) y z H I i (k+1) (d++a) (.ah (.int k)) (.ah (rl p)) m (λx Q=>h x (by simp [Q])) (by simp only [cP];omega);unfold lW;rw [e]
   cases e2:lW t q (k+1) i with
   |ok b=>
    rw [e2] at v;obtain ⟨U,Y,x3,x4,x5,hr⟩:=v;exact ⟨U,Y,x3,x4,x5,by rw [hr];simp⟩
   |exc c=>rw [e2] at v;exact v
   |aj=>rw [e2] at v;exact v.elim
  cases e:nO p.1 q.2 with
  |none=>
   rw [e] at u;have u:zh [p.1,q.2]= .ok .aU:=u;refine go [] (.ah .aU) (by unfold stI;rw [e]) ?_;unfold pI;simp only [fN]
   decreasing_with exact rfl
  |some M=>
   have hM:=uq w.2.2 e;rw [e] at u;have u:zh [p.1,q.2]= .ok (.aP (ky M) (vl M)):=u;have j:qR [t,jJ q.1,rl p,.aP (ky M) (vl M)]=_:=vx y z B hM H
   cases E:bU (res t q p.2 M) with
   |false=>
    rw [E] at j;have j:qR [t,jJ q.1,rl p,.aP (ky M) (vl M)]= .ok (res t q p.2 M):=j;refine go [.ak [jJ q.1,.int k,res t q p.2 M]] (.ah (.aP (ky M) (vl M))) (by unfold stI;rw [e];simp [E]) ?_;unfold pI
    decreasing_with exact rfl
   |true=>
    rw [E] at j;have j:qR [t,jJ q.1,rl p,.aP (ky M) (vl M)]= .exc "TooGreat" :=j;have e1:stI t q k p= .exc "TooGreat" :=by unfold stI;rw [e];simp [E]
    unfold lW;rw [e1];refine um ((YY rfl).trans ?_);unfold pI;refine (jj (by decreasing_with exact rfl)).trans ?_;refine Uk (by decreasing_with exact rfl) (LB rfl ?_);refine jiv rfl (jgJ (UI (K3 rfl) (UI (K3 rfl) (jfA ((K5 (by decreasing_with exact rfl) rfl).trans j)))))
theorem VD {a:Type} (f g:a->D): ∀L:List a,q9 (L.map f) (L.map g)=L.map λx=> .ak [f x,g x]
 | []=>rfl
 |x::L=>by simp [q9,VD f g L]
abbrev pq (x:List Int×D):D:= .ak [jJ x.1,x.2]
def Gw:Sl->ao aW:=f7 (k9 (gz "Rules" "listed" (cy 0))) (g2 (gN 5) (gN 6)) pI
theorem Vo {t:D} {j:List (D×D)} {hs:List D} (B:tk ns t=true) (E:bz t<=60) (H:num t<=1000) (I:tt ns j) (J:j.length<=10): ∀(L:List (List Int×D)) (i:List D) (u v n o p:Slot),(∀q∈L,q∈bP t)->i.length+10*L.length<=10000->
  Gv i (λl a b c d e=>[.ah (obj j hs),.ah t,.aw (.ai l),a,b,c,d,e]) (oV t j L) (a5 (xH (g2 (gN 3) (gN 4)) Gw) (L.map pq) [.ah (obj j hs),.ah t,.aw (.ai i),u,v,n,o,p])
 | [],i,u,v,n,o,p,_,_=>⟨u,v,n,o,p,by simp [a5]⟩
 |q::L,i,u,v,n,o,p,h,N=>by
  simp only [bO] at N;have Q:=h q (by simp);have m:=vw (O:= .ah (obj j hs)) B Q E H j 0 i n o p I (by omega);have U:iZ "Rules" "listed" (obj j hs)= .ok (.ai (j.map rl)):=rfl;have y:k9 (gz "Rules" "listed" (cy 0)) [.ah (obj j hs),.ah t,.aw (.ai i),.ah (jJ q.1),.ah q.2,n,o,p]= .ok (jS 0 (j.map rl)):=by decreasing_with exact rfl
  have w:xH (g2 (gN 3) (gN 4)) Gw (pq q) [.ah (obj j hs),.ah t,.aw (.ai i),u,v,n,o,p]=a5 (xH (g2 (gN 5) (gN 6)) pI) (jS 0 (j.map rl)) [.ah (obj j hs),.ah t,.aw (.ai i),.ah (jJ q.1),.ah q.2,n,o,p]:=(YY rfl).trans (kS y);rw [cL];unfold oV
  cases e1:lW t q 0 j with
  |aj=>rw [e1] at m;exact m.elim
  |exc c=>
   rw [e1] at m;exact um (w.trans m)
  |ok a=>
   rw [e1] at m;obtain ⟨_,_,Y,x6,x7,hr⟩:=m;rw [qf (w.trans hr)];have:=Mv e1;have r:=Vo (hs:=hs) B E H I J L (i++a) (.ah (jJ q.1)) (.ah q.2) Y x6 x7 (λx hx=>h x (by simp [hx])) (by simp only [cP];omega)
   cases e2:oV t j L with
   |ok b=>
    rw [e2] at r;obtain ⟨y1,y2,y3,y4,y5,z⟩:=r;exact ⟨y1,y2,y3,y4,y5,by rw [z];simp⟩
   |exc c=>rw [e2] at r;exact r
   |aj=>rw [e2] at r;exact r.elim
theorem jiS {t:D} {j:List (D×D)} {hs:List D} (m:tk ns t=true) (o:bz t<=60) (z:num t<=1000) (p:tt ns j) (u:j.length<=10):jw [obj j hs,t]=match B8 t j with
  | .ok l=> .ok (.ai l)
  | .exc c=> .exc c
  | .aj=> .aj:=by
 have v:=ZY t;have B:wU 64 [t]= .ok (.ai ((bP t).map pH)):=Mg 64 t m (by omega) (by omega) (by omega);have w:qh 64 [t]= .ok (.ai (bv t)):=VC 64 t (yE t m) (by omega) (by omega);rw [<-Xh t m] at w;have h:=Vo (hs:=hs) m o (by omega) p u (bP t) [] .un .un .un .un .un (λq y=>y) (by simp only [dY];omega)
 have n:Ye (jk 1 (wU 64) (jb (ae 1) ag)) (jk 1 (qh 64) (jb (ae 1) ag)) [.ah (obj j hs),.ah t,.aw (.ai []),.un,.un,.un,.un,.un]= .ok ((bP t).map pq):=by
  decreasing_with skip
  rw [VD];rfl
 have i: ∀r:Sl->ao aW,zL (wU 64) (qh 64) zh qR [.ah (obj j hs),.ah t,.un,.un,.un,.un,.un,.un]=ap (f7 (Ye (jk 1 (wU 64) (jb (ae 1) ag)) (jk 1 (qh 64) (jb (ae 1) ag))) (g2 (gN 3) (gN 4)) Gw) (wt (aJ (lm 2))) [.ah (obj j hs),.ah t,.aw (.ai []),.un,.un,.un,.un,.un]:=λ_=>by
  unfold zL;exact jj rfl
 have i:=i bo;unfold B8
 cases e:oV t j (bP t) with
 |ok l=>
  rw [e] at h;obtain ⟨a,b,c,d,x,h⟩:=h;rw [List.nil_append] at h;refine Fa (i.trans ?_);exact (jj ((kS n).trans h)).trans rfl
 |exc c=>
  rw [e] at h;exact Xb (i.trans (Qu ((kS n).trans h)))
 |aj=>rw [e] at h;exact h.elim
def n4:Sl->ao aW:=(ap (gR (aO (al (app (jb (cy 3) ag) aT) (ae 2) DX)) (Vx "TooLong") (wt bo))
 (ap (wt (jY 3 (qp (al (ae 5) (cI 0) aG) wP (zI (cI 2)) eW)))
 (ap (wt (jr 4 (al (al (ae 5) (cI 0) aG) (cI 2) aG)))
 (jr 5 (Jd "Rules" "steps" 2 [] jw (ae 0) (jb (ae 4) ag))))))
abbrev bF (a:List (D×D)) (c:List D):D:= .obj "Rules" ["listed", "named"] [.ai (a.map rl),.ai c]
abbrev gU (h:List (D×D)) (i:List D) (j:D) (c:Int) (e:List D) (d:D) (a:List D):Sl:=[.ah (bF h i),.ah j,.ah (.int c),.aw (.ai e),.ah d,.ah (.ai a)]
def vc {a:Sl} {d:D} {r:List D} {b:Bool} (h:a[5]?=some (.ah (.ai r))) (c:(!r.isEmpty)=b):ck (ae 5) a= .ok b:=by
 subst c;refine LG (Lz h) ?_;cases r<;>rfl
def jhY {i:List (D×D)} {j c a:List D} {l h:D} {e:Int} {n:Nat} (p:a≠[]) (m:e<=(c.length:Int)):
  qX (n+1) (ck (ae 5)) n4 (gU i j l e c h a)= .exc "TooLong" :=by
 refine Ym (vc (d:= .aU) rfl (by cases a<;>simp_all)) ?_;have o:decide (e<=(c.length:Int))=true:=by simpa using m
 have q:aT [.ai c]= .ok (.int (c.length:Int)):=rfl;exact Qu (Uk (b:=true) (by rw [<-o];decreasing_with exact rfl) rfl)
def Mw {h:List (D×D)} {i row L:List D} {t0 last a b e:D} {most:Int} {n:Nat} (p:(row.length:Int)<most) (z:row.length<10000) {r:ao D} (j:jw [bF h i,e]=r):
  qX (n+1) (ck (ae 5)) n4 (gU h i t0 most row last (.ak [a,b,e]::L))=match r with
   | .ok d=>qX n (ck (ae 5)) n4 [.ah (bF h i),.ah t0,.ah (.int most),.aw (.ai (row++[.ak [a,b]])),.ah e,.ah d]
   | .exc c=> .exc c
   | .aj=>qX (n+1) (ck (ae 5)) n4 (gU h i t0 most row last (.ak [a,b,e]::L)):=by
 have l:ck (ae 5) (gU h i t0 most row last (.ak [a,b,e]::L))= .ok true:=vc (d:= .aU) rfl rfl;have q:decide (most<=(row.length:Int))=false:=by simpa using p
 have B:aT [.ai row]= .ok (.int (row.length:Int)):=rfl;have u:eW (.ak [a,b,e]) none (some 2)= .ok (.ak [a,b]):=rfl;have v:gR (aO (al (app (jb (cy 3) ag) aT) (ae 2) DX)) (Vx "TooLong") (wt bo) (gU h i t0 most row last (.ak [a,b,e]::L))= .ok (.nx (gU h i t0 most row last (.ak [a,b,e]::L))):=Uk (b:=false) (by rw [<-q];decreasing_with exact rfl) rfl;have w:wt (jY 3 (qp (al (ae 5) (cI 0) aG) wP (zI (cI 2)) eW)) (gU h i t0 most row last (.ak [a,b,e]::L))= .ok (.nx (gU h i t0 most (row++[.ak [a,b]]) last (.ak [a,b,e]::L))):=by decreasing_with exact rfl
 have y:wt (jr 4 (al (al (ae 5) (cI 0) aG) (cI 2) aG)) (gU h i t0 most (row++[.ak [a,b]]) last (.ak [a,b,e]::L))= .ok (.nx (gU h i t0 most (row++[.ak [a,b]]) e (.ak [a,b,e]::L))):=by decreasing_with exact rfl
 have m:Jd "Rules" "steps" 2 [] jw (ae 0) (jb (ae 4) ag) (gU h i t0 most (row++[.ak [a,b]]) e (.ak [a,b,e]::L))=r:=(WO (ds:=[e]) (fs:=["listed", "named"]) (vs:=[.ai (h.map rl),.ai i]) rfl (by decide) (by decreasing_with exact rfl) rfl).trans j;have o:n4 (gU h i t0 most row last (.ak [a,b,e]::L))=jr 5 (Jd "Rules" "steps" 2 [] jw (ae 0) (jb (ae 4) ag)) (gU h i t0 most (row++[.ak [a,b]]) e (.ak [a,b,e]::L)):=(jj v).trans ((jj w).trans (jj y))
 cases r with
 |ok d=>exact ja7 l (o.trans ((jA m).trans rfl))
 |exc c=>exact Ym l (o.trans (yi m))
 |aj=>rfl
def UB {e:List (D×D)} {i:List D} {d:D} {a:Int} {c:List D} (h:jw [bF e i,d]= .ok (.ai c)):
  zj jw qD [.ah (bF e i),.ah d,.ah (.int a),.un,.un,.un]=ap (qX 1100 (ck (ae 5)) n4) (eN 3 (aJ (aN (jb (K4 (ae 3)) (jb (QT 1 qD (jb (ae 4) ag)) ag))))) (gU e i d a [] d c):=by
 unfold zj;refine (jj rfl).trans ?_;refine (jj (env':=[.ah (bF e i),.ah d,.ah (.int a),.aw (.ai []),.ah d,.un]) rfl).trans ?_;exact jj ((jA ((WO (ds:=[d]) (fs:=["listed", "named"]) (vs:=[.ai (e.map rl),.ai i]) rfl (by decide) (by decreasing_with exact rfl) rfl).trans h)).trans rfl)
def jff {d:List (D×D)} {e:List D} {i:D} {a:Int} {c:Str} (h:jw [bF d e,i]= .exc c):jo [bF d e,i,.int a]= .exc c:=by
 refine Xb ?_;show zj jw qD [.ah (bF d e),.ah i,.ah (.int a),.un,.un,.un]=_;unfold zj;refine (jj rfl).trans ?_;refine (jj rfl).trans ?_;exact Qu (yi ((WO (ds:=[i]) (fs:=["listed", "named"]) (vs:=[.ai (d.map rl),.ai e]) rfl (by decide) (by decreasing_with exact rfl) rfl).trans h))
def jhX {i:List (D×D)} {j:List D} {e:D} {d:Int} {a:List D} {c:Str} (h:jw [bF i j,e]= .ok (.ai a)) (hw:qX 1100 (ck (ae 5)) n4 (gU i j e d [] e a)= .exc c):jo [bF i j,e,.int d]= .exc c:=
 Xb ((UB h).trans (Qu hw))
def jj9 {j:List (D×D)} {l:List D} {i a:D} {c:Int} {d e:List D} (h:jw [bF j l,i]= .ok (.ai d)) (hw:qX 1100 (ck (ae 5)) n4 (gU j l i c [] i d)= .ok (.nx (gU j l i c e a []))) (m:qD [a]= .ok a):
  jo [bF j l,i,.int c]= .ok (.ak [.ai e,a]):=by
 refine Fa ((UB h).trans ((jj hw).trans ?_));show aJ _ [.ah (bF j l),.ah i,.ah (.int c),.ah (.ai e),.ah a,.ah (.ai [])]=_
 decreasing_with exact rfl
def gW (t:D) (q:List Int×D):Nat->List (D×D)->List D
 |_,[]=>[]
 |k,p::a=>(match nO p.1 q.2 with
  |some M=>[.ak [jJ q.1,.int (k:Int),res t q p.2 M]]
  |none=>[])++gW t q (k+1) a
def fD (t:D) (a:List (D×D)):List D:=(bP t).flatMap λq=>gW t q 0 a
def ng:D->Bool
 | .ak [_,_,u]=>!bU u
 |_=>false
theorem Gx {t:D} {q:List Int×D}: ∀(a:List (D×D)) (k:Nat),lW t q k a= .exc "TooGreat" \/lW t q k a= .ok (gW t q k a)/\ ∀d∈gW t q k a,ng d=true
 | [],k=> .inr ⟨rfl,λd h=>by cases h⟩
 |p::a,k=>by
  unfold lW stI gW
  cases nO p.1 q.2 with
  |none=>
   rcases Gx a (k+1) with h| ⟨h,g⟩
   . left;dsimp only;rw [h]
   . right;dsimp only;rw [h];exact ⟨rfl,g⟩
  |some M=>
   dsimp only
   by_cases c:bU (res t q p.2 M)=true
   . left;rw [if_pos c]
   . rw [if_neg c];rcases Gx a (k+1) with h| ⟨h,g⟩
     . left;dsimp only;rw [h]
     . right;dsimp only;rw [h]
       refine ⟨rfl,λd hd=>?_⟩;rcases bJ.mp hd with rfl|hd
       . simp [ng,c]
       . exact g d hd
theorem Mx {t:D} {ps:List (D×D)}: ∀L:List (List Int×D),oV t ps L= .exc "TooGreat" \/oV t ps L= .ok (L.flatMap λq=>gW t q 0 ps)/\ ∀d∈L.flatMap λq=>gW t q 0 ps,ng d=true
 | []=> .inr ⟨rfl,λd h=>by cases h⟩
 |q::L=>by
  unfold oV;rw [Es];rcases Gx (t:=t) (q:=q) ps 0 with h| ⟨h,g⟩
  . left;rw [h]
  . rcases Mx (t:=t) (ps:=ps) L with a| ⟨a,c⟩
    . left;rw [h,a]
    . right;rw [h,a]
      exact ⟨rfl,λd e=>(j0.mp e).elim (g d) (c d)⟩
theorem Mz {t d:D} {q:List Int×D}: ∀(a:List (D×D)) (k:Nat),d∈gW t q k a-> ∃(j:Nat) (p:D×D) (M:As),a[j]?=some p/\nO p.1 q.2=some M/\d= .ak [jJ q.1,.int ((k+j:Nat):Int),res t q p.2 M]
 |p::a,k,h=>by
  rcases j0.mp h with h|h
  . cases e:nO p.1 q.2 with
    |none=>rw [e] at h;cases h
    |some M=>rw [e] at h;exact ⟨0,p,M,rfl,e,by simpa using h⟩
  . obtain ⟨j,c,M,i,l,m⟩:=Mz a (k+1) h;exact ⟨j+1,c,M,i,l,by rw [m,show k+1+j=k+(j+1) by omega]⟩
structure Sp (ns:List Str) (ps:List (D×D)) (t:D) (q:List Int×D) (k:Nat) (p:D×D) (M:As):Prop where
 iq:q∈bP t
 ik:ps[k]?=some p
 im:nO p.1 q.2=some M
abbrev Tr:=D×D×D
abbrev r2 (x:Tr):D:= .ak [x.1,x.2.1]
abbrev r3 (x:Tr):D:= .ak [x.1,x.2.1,x.2.2]
def Ok (ns:List Str) (t:D):Prop:=tk ns t=true/\bz t<=60/\num t<=1000
def Rs (ns:List Str) (a:List (D×D)):Prop:=tt ns a/\a.length<=10
section
variable {U:List (D×D)} {hs:List D} {t:D}
def Ub {d:D} (h:d∈fD t U): ∃q k p M,Sp ns U t q k p M/\d=r3 (jJ q.1,.int (k:Int),res t q p.2 M):=by
 obtain ⟨q,a,h⟩:=yr.mp h;obtain ⟨j,p,M,c,e,i⟩:=Mz U 0 h;exact ⟨q,j,p,M,⟨a,c,e⟩,by rw [i,pi]⟩
def MA (R:Rs ns U) (a:Ok ns t):jw [bF U hs,t]= .exc "TooGreat" \/jw [bF U hs,t]= .ok (.ai (fD t U))/\ ∀d∈fD t U,ng d=true:=by
 have h:=jiS (hs:=hs) a.1 a.2.1 a.2.2 R.1 R.2;rcases Mx (t:=t) (ps:=U) (bP t) with e| ⟨e,g⟩
 . left;rw [show B8 t U=_ from e] at h;exact h
 . right;rw [show B8 t U=_ from e] at h;exact ⟨h,g⟩
def Wd (c:Str):Prop:=c= "TooGreat" \/c= "TooLong"
def Gd (r:ao D):Prop:=(∃d,r= .ok d)\/ ∃c,Wd c/\r= .exc c
def Ew (U:List (D×D)):D->List Tr->Prop
 |_,[]=>True
 |t,x::L=>r3 x∈fD t U/\bU x.2.2=false/\Ew U x.2.2 L
def lw:D->List Tr->D
 |t,[]=>t
 |_,x::L=>lw x.2.2 L
def Sp.tk {q:List Int×D} {k:Nat} {p:D×D} {M:As} (R:Rs ns U) (a:tk ns t=true) (s:Sp ns U t q k p M):tk ns (res t q p.2 M)=true/\bz (res t q p.2 M)<=2*bz t+bz p.2/\num (res t q p.2 M)<=num t+num p.2*num t:=
 vE a s.iq (R.1 p (gu s.ik)).tr (uq (wA t a q s.iq).2.2 s.im)
def MB {u:D} (h:tk ns u=true) (g:bU u=false):Ok ns u:=by
 simp only [bU,decide_eq_false_iff_not] at g;exact ⟨h,by omega,by omega⟩
def Ay {x:Tr} (R:Rs ns U) (a:Ok ns t) (h:r3 x∈fD t U) (g:bU x.2.2=false):Ok ns x.2.2:=by
 obtain ⟨q,k,p,M,s,e⟩:=Ub (ns:=ns) h;injection e with e;injection e with _ e;injection e with _ e;injection e with e _;rw [e] at g ⊢;exact MB (s.tk R a.1).1 g
theorem MC {t0:D} {j:Int} (v:j<=200) (R:Rs ns U): ∀(n:Nat) (i:List D) (t:D),Ok ns t->i.length<=200->202<=n+i.length->(∀d∈fD t U,ng d=true)->
  (∃c,Wd c/\qX n (ck (ae 5)) n4 (gU U hs t0 j i t (fD t U))= .exc c)\/ ∃L,Ew U t L/\i.length+L.length<=200/\Ok ns (lw t L)/\qX n (ck (ae 5)) n4 (gU U hs t0 j i t (fD t U))= .ok (.nx (gU U hs t0 j (i++L.map r2) (lw t L) []))
 |0,i,t,_,o,w,_=>by omega
 |n+1,i,t,r,o,w,y=>by
  cases e:fD t U with
  |nil=>exact .inr ⟨[],trivial,by simpa using o,r,by rw [q7,fN];exact uU (vc (d:= .aU) rfl rfl)⟩
  |cons d S=>
   by_cases z:j<=(i.length:Int)
   . exact .inl ⟨_,.inr rfl,jhY (by simp) z⟩
   . have m:d∈fD t U:=by rw [e];exact iC
     obtain ⟨q,k,p,M,s,rfl⟩:=Ub (ns:=ns) m;have g:bU (res t q p.2 M)=false:=by simpa [ng] using y _ m
     have u:=MB (s.tk R r.1).1 g;rcases MA (hs:=hs) R u with e2| ⟨e2,g2⟩
     . exact .inl ⟨_,.inl rfl,Mw (by omega) (by omega) e2⟩
     . have l:=Mw (t0:=t0) (last:=t) (L:=S) (a:=jJ q.1) (b:= .int (k:Int)) (n:=n) (most:=j) (row:=i) (by omega) (by omega) e2;rcases MC v R n (i++[.ak [jJ q.1,.int (k:Int)]]) _ u (by simp only [cP,bO,dY];omega) (by simp only [cP,bO,dY];omega) g2 with ⟨c,B,h⟩| ⟨L,E,H,I,J⟩
       . exact .inl ⟨c,B,l.trans h⟩
       . refine .inr ⟨(jJ q.1,.int (k:Int),res t q p.2 M)::L,⟨m,g,E⟩,?_,I,l.trans (J.trans ?_)⟩
         . simp only [cP,bO,dY] at H ⊢;omega
         . rw [hJ];rfl
def MD {a:Int} (j:a<=200) (R:Rs ns U) (i:Ok ns t):(∃c,Wd c/\jo [bF U hs,t,.int a]= .exc c)\/ ∃L,Ew U t L/\L.length<=200/\Ok ns (lw t L)/\jo [bF U hs,t,.int a]= .ok (.ak [.ai (L.map r2),lw t L]):=by
 rcases MA (hs:=hs) R i with e| ⟨e,g⟩
 . exact .inl ⟨_,.inl rfl,jff e⟩
 . rcases MC (hs:=hs) (t0:=t) j R 1100 [] t i (by simp) (by simp) g with ⟨c,l,h⟩| ⟨L,m,n,d,o⟩
   . exact .inl ⟨c,l,jhX e h⟩
   . refine .inr ⟨L,m,by simpa using n,d,jj9 e o ?_⟩;rw [K6 (yE _ d.1),if_neg (by simp only [bU,decide_eq_true_eq];have:=d.2;omega)]
end
def uI {d e h:T4} {c:Sl} {i n:Int} (j:d c= .ok (.int 0)) (l:e c= .ok (.int i)) (m:h c= .ok (.int n)) (o:0<=i) (p:i<n):WE d e h mr ltI c= .ok (.bl true):=by
 rw [Zv,j,qy,l,qy,m];have a:mr (.int 0) (.int i)= .ok (.bl true):=by show ao.ok (D.bl (decide (0<=i)))=_;simp [o]
 have b:ltI (.int i) (.int n)= .ok (.bl true):=by show ao.ok (D.bl (decide (i<n)))=_;simp [p]
 rw [a];exact b
def jeu {t u:D} {i:Int} (a:tk ns t=true) (h:Y1 t (.int i)=some u):zT [t,.int i]= .ok u:=by
 simp only [Y1] at h
 split at h
 . rename_i c;have d:=QI (jeI a);have cV:i.toNat< (bx t).length:=(iD.mp h).1;have hw:qT [.int i]= .ok (.bl true):=rfl;have e:aT [.ak (bx t)]= .ok (.int ((bx t).length:Int)):=rfl;have j:WE (cI 0) (ae 1) (app (jb (ae 2) ag) aT) mr ltI [.ah t,.ah (.int i),.ah (.ak (bx t))]= .ok (.bl true):=uI rfl rfl rfl c (by omega)
   have l:aG (.ak (bx t)) (.int i)= .ok u:=by
    have:=Au h;rw [show ((i.toNat:Nat):Int)=i by omega] at this;exact this
   refine Xa ?_;show wZ jR qT [.ah t,.ah (.int i),.un]=_;unfold wZ
   decreasing_with exact rfl
 . cases h
def jk9 {t u:D} {i:Int} (c:tk ns t=true) (h:Y1 t (.int i)=some u):tk ns u=true:=by
 simp only [Y1] at h
 split at h
 . rcases j7 c with ⟨j,rfl⟩| ⟨z,d,rfl,e,l,a⟩
   . cases h
   . exact a u (gu h)
 . cases h
theorem ME {a b:Slot}: ∀(p:List Int) (t e:D) (u:Slot),tk ns t=true->lV t (p.map .int)=some e-> ∃d,a5 (qG (gN 3) (jr 2 (jk 2 zT (jb (ae 2) (jb (ae 3) ag))))) (p.map .int) [a,b,.ah t,u]= .ok (.nx [a,b,.ah e,d])
 | [],t,e,u,_,h=>by cases h;exact ⟨u,rfl⟩
 |i::p,t,e,u,j,h=>by
  simp only [cL,lV] at h
  cases c:Y1 t (.int i) with
  |none=>rw [c] at h;cases h
  |some w=>
   rw [c] at h;have m:=jeu j c;obtain ⟨d,l⟩:=ME (a:=a) (b:=b) p w e (.ah (.int i)) (jk9 j c) h;refine ⟨d,?_⟩;rw [cL,qf (env':=[a,b,.ah w,.ah (.int i)]) (by decreasing_with exact rfl)];exact l
def jg9 {t e:D} {p:List Int} (c:tk ns t=true) (h:lV t (p.map .int)=some e):xV [t,jJ p]= .ok e:=by
 obtain ⟨i,j⟩:=ME (a:= .ah t) (b:= .ah (jJ p)) p t e .un c h;have l:sM (jJ p)= .ok (p.map .int):=rfl;have d:fI "tuple" (jJ p)= .ok (.bl true):=rfl;refine Xa ?_;show xM zT [.ah t,.ah (jJ p),.un,.un]=_;unfold xM
 decreasing_with exact rfl
def jaE {ps:List (D×D)} {hs:List D} {a:D} {k:Nat} (h:k<ps.length):zp [bF ps hs,.ak [a,.int (k:Int)]]= .ok (.bl true):=by
 have hw:qT [.int (k:Int)]= .ok (.bl true):=rfl;have d:aT [.ai (ps.map rl)]= .ok (.int ((ps.map rl).length:Int)):=rfl;have e:iZ "Rules" "listed" (bF ps hs)= .ok (.ai (ps.map rl)):=rfl;have i:aT [.ak [a,.int (k:Int)]]= .ok (.int 2):=rfl
 have j:WE (cI 0) (al (ae 1) (cI 1) aG) (app (jb (gz "Rules" "listed" (cy 0)) ag) aT) mr ltI [.ah (bF ps hs),.ah (.ak [a,.int (k:Int)])]= .ok (.bl true):=
  uI rfl (jh rfl rfl (dg _ _ _)) (qC (jc (LC rfl e) rfl) d) (by omega) (by rw [dc];omega)
 refine qQ ?_;show zi qT [.ah (bF ps hs),.ah (.ak [a,.int (k:Int)])]=_;unfold zi;refine (jj (env':=[.ah (bF ps hs),.ah (.ak [a,.int (k:Int)])]) (by decreasing_with exact rfl)).trans ?_;refine qm ?_;have c:jk 1 qT (jb (al (ae 1) (cI 1) aG) ag) [.ah (bF ps hs),.ah (.ak [a,.int (k:Int)])]= .ok (.bl true):=jn (jc (jh rfl rfl (dg _ _ _)) rfl) rfl hw;rw [Uy,c,qy,j];rfl
def MF {l:List D} {x:D} (h:l.getLast?=some x):aG (.ai l) (.int (-1))= .ok x:=by
 have a:l≠[]:=by rintro rfl;cases h
 have c:0<l.length:=tx.mpr a;rw [List.getLast?_eq_getElem?] at h;show (match fX l (-1) with|some d=>ao.ok d|none=> .aj)=_
 have:fX l (-1)=some x:=by
  unfold fX lQ;rw [if_neg (by decide),if_pos (by omega)];show l[((-1:Int)+(l.length:Int)).toNat]?=_;rw [show ((-1:Int)+(l.length:Int)).toNat=l.length-1 by omega];exact h
 rw [this]
variable {ps:List (D×D)} {hs:List D} {t:D}
def MG {x:Tr} (h:r3 x∈fD t ps): ∃q k p M,Sp ns ps t q k p M/\x=(jJ q.1,.int (k:Int),res t q p.2 M):=by
 obtain ⟨q,k,p,M,s,e⟩:=Ub (ns:=ns) h;obtain ⟨a,b,c⟩:=x;injection e with e;injection e with e1 e;injection e with e2 e;injection e with d _;exact ⟨q,k,p,M,s,by rw [show a=_ from e1,show b=_ from e2,show c=_ from d]⟩
def wo {x:Tr} (R:Rs ns ps) (d:Ok ns t) (h:r3 x∈fD t ps) (g:bU x.2.2=false):jN [bF ps hs,t,r2 x]= .ok x.2.2:=by
 obtain ⟨q,k,p,M,s,rfl⟩:=MG (ns:=ns) h;have i:=R.1 p (gu s.ik);have e:=wA t d.1 q s.iq;have j:=ZX t d.1 q s.iq;have n:=jaE (ps:=ps) (hs:=hs) (a:=jJ q.1) (iD.mp s.ik).1;have l:xV [t,jJ q.1]= .ok q.2:=jg9 d.1 (vP t d.1 q s.iq);have o:zn [t,jJ q.1]= .ok q.2:=Xa (yz (jn (ds:=[t,jJ q.1]) (jc rfl (jc rfl rfl)) rfl l))
 have r:zh [p.1,q.2]= .ok (.aP (ky M) (vl M)):=by
  have a:=i.hl;have b:=i.nl;have c:=d.2;rw [uo i.tl e.2.2 (by omega) (by omega) (by omega),show (mp p.1 q.2).bind (bE [])=_ from s.im];rfl
 have u:nz (qR [t,jJ q.1,rl p,.aP (ky M) (vl M)])= .ok (res t q p.2 M):=by
  rw [show qR [t,jJ q.1,rl p,.aP (ky M) (vl M)]=_ from vx d.1 s.iq i (uq e.2.2 s.im) d.2.1,if_neg (by rw [g];simp)];rfl
 have m:aG (rl p) (.int 0)= .ok p.1:=fu;have v:aG (.ai (ps.map rl)) (.int (k:Int))= .ok (rl p):=oU (by rw [iE,s.ik];rfl);have w:iZ "Rules" "listed" (bF ps hs)= .ok (.ai (ps.map rl)):=rfl;have y:aG (.ak [jJ q.1,.int (k:Int)]) (.int 0)= .ok (jJ q.1):=fu;have z:aG (.ak [jJ q.1,.int (k:Int)]) (.int 1)= .ok (.int (k:Int)):=dg _ _ _;refine Xa ?_;show qK zh qR zp zn [.ah (bF ps hs),.ah t,.ah (.ak [jJ q.1,.int (k:Int)]),.un,.un,.un]=_;unfold qK
 decreasing_with exact rfl
theorem MH {t0 r0:Slot} (R:Rs ns ps): ∀(L:List Tr) (t:D) (a:List D) (u:Slot),Ok ns t->Ew ps t L->a.getLast?=some t->a.length+L.length<=1000-> ∃c,
  a5 (qG (gN 4) (jY 3 (Qk "Rules" "walked_on" 3 jN (ae 0) (jb (al (cy 3) (iT (cI 1)) aG) (jb (ae 4) ag))))) (L.map r2) [.ah (bF ps hs),t0,r0,.aw (.ai a),u]= .ok (.nx [.ah (bF ps hs),t0,r0,.aw (.ai (a++L.map (·.2.2))),c])
 | [],t,a,u,_,_,_,_=>⟨u,by simp only [q7,fN];rfl⟩
 |x::L,t,a,u,d,⟨e,i,j⟩,l,m=>by
  simp only [bO] at m;have n:=MF l;have hw:=wo (hs:=hs) R d e i;obtain ⟨c,h⟩:=MH (t0:=t0) (r0:=r0) R L x.2.2 (a++[x.2.2]) (.ah (r2 x)) (Ay R d e i) j (by simp) (by simp only [cP,bO,dY];omega);refine ⟨c,?_⟩;rw [cL,qf (env':=[.ah (bF ps hs),t0,r0,.aw (.ai (a++[x.2.2])),.ah (r2 x)]) (by decreasing_with exact rfl),h,hJ];rfl
def jgF {L:List Tr} (R:Rs ns ps) (a:Ok ns t) (h:Ew ps t L) (c:L.length<=200):qo [bF ps hs,t,.ai (L.map r2)]= .ok (.ai (t::L.map (·.2.2))):=by
 obtain ⟨d,hw⟩:=MH (hs:=hs) (t0:= .ah t) (r0:= .ah (.ai (L.map r2))) R L t [t] .un a h rfl (by simp only [bO,dY];omega)
 have e:nz (qD [t])= .ok t:=by
  rw [K6 (yE _ a.1),if_neg (by simp only [bU,decide_eq_true_eq];have:=a.2;omega)];rfl
 refine qQ ?_;show zq qD jN [.ah (bF ps hs),.ah t,.ah (.ai (L.map r2)),.un,.un]=_;unfold zq
 decreasing_with exact rfl
abbrev fw (x:Tr):D:= .ak [.bl true,x.1,x.2.1,x.2.2]
def bw:D->List Tr->List D
 |_,[]=>[]
 |t,x::L=> .ak [.bl false,x.1,x.2.1,t]::bw x.2.2 L
theorem MI {t0 r0:Slot} (R:Rs ns ps): ∀(L:List Tr) (t:D) (a:List D) (u:Slot),Ok ns t->Ew ps t L->a.length+L.length<=1000-> ∃c,
  a5 (qG (gN 5) (ap (jr 4 (Qk "Rules" "walked_on" 3 jN (ae 0) (jb (ae 4) (jb (ae 5) ag)))) (jY 3 (al (al (aN (jb (cB true) ag)) (ae 5) aX) (aN (jb (ae 4) ag)) aX)))) (L.map r2) [.ah (bF ps hs),t0,r0,.aw (.ai a),.ah t,u]= .ok (.nx [.ah (bF ps hs),t0,r0,.aw (.ai (a++L.map fw)),.ah (lw t L),c])
 | [],t,a,u,_,_,_=>⟨u,by simp only [q7,fN];rfl⟩
 |x::L,t,a,u,d,⟨e,i,j⟩,l=>by
  simp only [bO] at l;have hw:=wo (hs:=hs) R d e i;obtain ⟨c,h⟩:=MI (t0:=t0) (r0:=r0) R L x.2.2 (a++[fw x]) (.ah (r2 x)) (Ay R d e i) j (by simp only [cP,bO,dY];omega);refine ⟨c,?_⟩;rw [cL,qf (env':=[.ah (bF ps hs),t0,r0,.aw (.ai (a++[fw x])),.ah x.2.2,.ah (r2 x)]) (by decreasing_with exact rfl),h,hJ];rfl
def jj0 {L:List Tr} (R:Rs ns ps) (a:Ok ns t) (h:Ew ps t L) (c:L.length<=200):y0 [bF ps hs,t,.ai (L.map r2)]= .ok (.ai (L.map fw)):=by
 obtain ⟨d,hw⟩:=MI (hs:=hs) (t0:= .ah t) (r0:= .ah (.ai (L.map r2))) R L t [] .un a h (by simp only [dY];omega);refine qQ ?_;show w6 jN [.ah (bF ps hs),.ah t,.ah (.ai (L.map r2)),.un,.un,.un]=_;unfold w6
 decreasing_with exact rfl
theorem vU: ∀(L:List Tr) (t:D),q9 (L.map r2) (t::L.map (·.2.2))=(L.zip (t::L.map (·.2.2))).map λy=> .ak [r2 y.1,y.2]
 | [],_=>rfl
 |x::L,t=>by
  show D.ak [r2 x,t]::q9 (L.map r2) (x.2.2::L.map (·.2.2))=_;rw [vU L x.2.2];rfl
theorem uL: ∀(L:List Tr) (t:D),(L.zip (t::L.map (·.2.2))).map (λy=>D.ak [.bl false,y.1.1,y.1.2.1,y.2])=bw t L
 | [],_=>rfl
 |x::L,t=>by
  show D.ak [.bl false,x.1,x.2.1,t]::((L.zip (x.2.2::L.map (·.2.2))).map _)=_;rw [uL L x.2.2];rfl
def jll {L:List Tr} (R:Rs ns ps) (c:Ok ns t) (h:Ew ps t L) (d:L.length<=200):J0 [bF ps hs,t,.ai (L.map r2)]= .ok (.ai (bw t L).reverse):=by
 have hw:=jgF (hs:=hs) R c h d
 have i:qv false 2 [] (Ye (ae 2) (Qk "Rules" "walked" 3 qo (ae 0) (jb (ae 1) (jb (ae 2) ag)))) (g2 (gN 0) (gN 1)) qi (al (al (aN (jb (cB false) ag)) (ae 0) aX) (aN (jb (ae 1) ag)) aX) [.ah (bF ps hs),.ah t,.ah (.ai (L.map r2)),.un]= .ok (.ai (bw t L)):=by
  have j:Ye (ae 2) (Qk "Rules" "walked" 3 qo (ae 0) (jb (ae 1) (jb (ae 2) ag))) [.ah (bF ps hs),.ah t,.ah (.ai (L.map r2)),.un]= .ok (((L.zip (t::L.map (·.2.2))).map λy=>(r2 y.1,y.2)).map rl):=by
   rw [mR,show (rl ∘ λy:Tr×D=>(r2 y.1,y.2))=λy=> .ak [r2 y.1,y.2] from rfl,<-vU]
   decreasing_with exact rfl
  rw [K0 (ps:=(L.zip (t::L.map (·.2.2))).map λy=>(r2 y.1,y.2)) (λy=>match y.1 with| .ak [a,b]=> .ak [.bl false,a,b,y.2]|_=> .aU) (λy=> ∃a b,y.1= .ak [a,b]) (λy l ⟨a,b,e⟩=>by rw [e];rfl) j (λy m=>by
   obtain ⟨z,_,rfl⟩:=gO.mp m
   exact ⟨_,_,rfl⟩) (jt (by rw [dc,List.length_zip];omega)),mR,<-uL]
  rfl
 refine qQ ?_;show xN qo [.ah (bF ps hs),.ah t,.ah (.ai (L.map r2)),.un]=_;unfold xN;exact (jj (jA i)).trans rfl
def Gy:Sl->ao aW:=jY 1 (aN (jb (al (aN (jb (al (ae 2) (cI 1) ii) ag)) (ae 3) aX) (jb (ae 4) ag)))
theorem vT (t:Slot) (k:Nat): ∀(L:List (List Int×D)) (a:List D) (u v:Slot),(∀p∈L,p.1.length<=100)->a.length+L.length<=2000->
  ∃e i,a5 (qG (g2 (gN 3) (gN 4)) Gy) (L.map i8) [t,.aw (.ai a),.ah (.int ((k:Int)+1)),u,v]= .ok (.nx [t,.aw (.ai (a++(L.map λp=>((k:Int)::p.1,p.2)).map i8)),.ah (.int ((k:Int)+1)),e,i])
 | [],a,u,v,_,_=>⟨u,v,by simp [a5]⟩
 |p::L,a,u,v,h,j=>by
  simp only [bO] at j
  have c:qG (g2 (gN 3) (gN 4)) Gy (i8 p) [t,.aw (.ai a),.ah (.int ((k:Int)+1)),u,v]= .ok (.nx [t,.aw (.ai (a++[i8 ((k:Int)::p.1,p.2)])),.ah (.int ((k:Int)+1)),.ah (jJ p.1),.ah p.2]):=by
   rw [qU (env':=[t,.aw (.ai a),.ah (.int ((k:Int)+1)),.ah (jJ p.1),.ah p.2]) rfl];have n:=h p (by simp);refine (ZE (ds:=a) (d:=i8 ((k:Int)::p.1,p.2)) rfl (zJ (jc (jh (z:=jJ ((k:Int)::p.1)) (zJ (jc (jh rfl rfl rfl) rfl) (jt (by simp))) rfl ?_) (jc rfl rfl)) (jt (by simp))) (fS (show a.length<20000 by omega) oR)).trans rfl;refine (X3 rfl (jt (by simp;omega))).trans ?_;have:((k:Int)+1-1)=(k:Int):=by omega
   show ao.ok (D.ak (D.int ((k:Int)+1-1)::p.1.map .int))=_;rw [this];rfl
  obtain ⟨e,i,l⟩:=vT t k L (a++[i8 ((k:Int)::p.1,p.2)]) (.ah (jJ p.1)) (.ah p.2) (λq m=>h q (by simp [m])) (by simp;omega);refine ⟨e,i,?_⟩;rw [cL,qf c,l];simp
def MJ (n:Nat):Sl->ao aW:=ca (b9 (jk 1 (jH n) (jb (al (ae 0) (ae 2) aG) ag))) (g2 (gN 3) (gN 4)) Gy
theorem VB {n:Nat} {z:Str} {c:List D} (q: ∀u∈c,jH n [u]= .ok (.ai ((bP u).map i8))/\ ∀p∈bP u,p.1.length<=100):
  ∀(r pre:List D) (a:List D) (u v w:Slot),c=pre++r->a.length+nums r<=2000->
  ∃m j l,a5 (qG (gN 2) (MJ n)) (zX ((pre.length:Int)+1) r.length) [.ah (.ak (.str z::c)),.aw (.ai a),u,v,w]= .ok (.nx [.ah (.ak (.str z::c)),.aw (.ai (a++(eA pre.length r).map i8)),m,j,l])
 | [],pre,a,u,v,w,_,_=>⟨u,v,w,by rw [WI];simp [a5,RH]⟩
 |d::r,pre,a,u,v,w,e,B=>by
  simp only [nums] at B;have E:d∈c:=by rw [e];simp
  obtain ⟨H,I⟩:=q d E
  have J:aG (.ak (.str z::c)) (.int ((pre.length:Int)+1))= .ok d:=by
   have:((pre.length:Int)+1)=((pre.length+1:Nat):Int):=by omega
   rw [this];exact Au (by rw [e];simp)
  have h:=ZY d;obtain ⟨j,l,o⟩:=vT (.ah (.ak (.str z::c))) pre.length (bP d) a v w I (by rw [h];omega)
  have i:qG (gN 2) (MJ n) (.int ((pre.length:Int)+1)) [.ah (.ak (.str z::c)),.aw (.ai a),u,v,w]= .ok (.nx [.ah (.ak (.str z::c)),.aw (.ai (a++((bP d).map λp=>((pre.length:Int)::p.1,p.2)).map i8)),.ah (.int ((pre.length:Int)+1)),j,l]):=by
   rw [qU (env':=[.ah (.ak (.str z::c)),.aw (.ai a),.ah (.int ((pre.length:Int)+1)),v,w]) rfl];exact (wH (y9 (jn (jc (jh rfl rfl J) rfl) rfl H) rfl)).trans o
  obtain ⟨m,L,N,y⟩:=VB q r (pre++[d]) (a++((bP d).map λp=>((pre.length:Int)::p.1,p.2)).map i8) (.ah (.int ((pre.length:Int)+1))) j l (by simp [e]) (by simp [h];omega);refine ⟨m,L,N,?_⟩;rw [bO,Z9,qf i];have e2:(((pre++[d]).length:Nat):Int)+1=(pre.length:Int)+1+1:=by simp
  rw [e2] at y;rw [y,Za];have O:(pre++[d]).length=pre.length+1:=by simp
  rw [O];simp
theorem Z5: ∀(n:Nat) (t:D),tk ns t=true->bz t<=n->bz t<=100->num t<=1000->jH n [t]= .ok (.ai ((bP t).map i8))
 |0,t,_,h,_,_=>by have:=Jx t;omega
 |n+1,t,l,m,o,q=>by
  refine qQ ?_;show xO (jH n) [.ah t,.un,.un,.un,.un]=_;unfold xO;have r:b8 1 (ci (jb (aN (jb (aN ag) (jb (ae 0) ag))) ag)) [.ah t,.un,.un,.un,.un]= .ok (.nx [.ah t,.aw (.ai [i8 ([],t)]),.un,.un,.un]):=(Qt (Ua (jc (zJ (jc (zJ rfl (jt (by simp))) (jc rfl rfl)) (jt (by simp))) rfl) (jt (by simp)))).trans rfl;refine (jj r).trans ?_;rcases j7 l with ⟨i,rfl⟩| ⟨z,a,rfl,B,E,c⟩
  . refine (jj ((dG rfl).trans rfl)).trans ?_;rw [QH];rfl
  . rw [jZ] at m o;rw [qe] at q
    have v: ∀u∈a,jH n [u]= .ok (.ai ((bP u).map i8))/\ ∀p∈bP u,p.1.length<=100:=λu d=>by
     have H:=qJ d;have I:=WL d;exact ⟨Z5 n u (c u d) (by omega) (by omega) (by omega),λp w=>by have:=(wA u (c u d) p w).1;omega⟩
    obtain ⟨J,L,N,y⟩:=VB (z:=z) v a [] [i8 ([],.ak (.str z::a))] .un .un .un rfl (by simp;omega)
    have e:kl (jb (cI 1) (jb (app (jb (ae 0) ag) aT) ag)) [.ah (.ak (.str z::a)),.aw (.ai [i8 ([],.ak (.str z::a))]),.un,.un,.un]= .ok (zX 1 a.length):=by
     refine (HZ (i:=1) (j:=((a.length+1:Nat):Int)) (jc rfl (jc (qC (jc rfl rfl) (by simp [aT])) rfl)) ⟨by decide,by omega,by omega⟩).trans ?_;congr 2;omega
    refine (jj ((cu rfl).trans ((wH e).trans y))).trans ?_;rw [Xg];rfl
theorem MK {o:D} (r:tk ns o=true): ∀(n:Nat) (p:List Int) (t e:D),p.length<n->tk ns t=true->lV t (p.map .int)=some e->qu n [t,jJ p,o]= .ok (putAt o p t)
 |0,p,t,e,h,_,_=>by omega
 |n+1,[],t,e,h,j,v=>by
  refine Xa ?_;show wf (qu n) [.ah t,.ah (jJ []),.ah o,.un]=_;unfold wf;refine xJ ((cu (jC ((jh rfl (zJ rfl (jt (by simp))) (uv [])).trans rfl))).trans (yz ?_));simp only [putAt];rfl
 |n+1,i::p,t,e,h,j,v=>by
  have c:=YZ r (i::p) t j;obtain ⟨z,a,u,rfl,I,J,l,L,d,m⟩:=WH j v;have y:=MK r n p u e (by simp at h;omega) (l u (gu d)) m;obtain ⟨k,rfl⟩: ∃k:Nat,i=(k:Int):=⟨i.toNat,by omega⟩
  simp only [lP] at d;have e1:a.getD k (.int 0)=u:=by rw [rN,d];rfl
  have N:k<a.length:=by
   by_cases z:k<a.length
   . exact z
   . rw [mP (by omega)] at d;cases d
  rw [Jr,lP,e1] at c ⊢;generalize putAt o p u=w at y c ⊢;refine qQ ?_;show wf (qu n) [.ah (.ak (.str z::a)),.ah (jJ ((k:Int)::p)),.ah o,.un]=_;unfold wf;refine (jj ((dG (jC ((jh rfl (zJ rfl (jt (by simp))) (uv ((k:Int)::p))).trans rfl))).trans rfl)).trans ?_;refine (jj (env':=[.ah (.ak (.str z::a)),.ah (jJ ((k:Int)::p)),.ah o,.aw (.ai (.str z::a))]) ((Qt (qC (jc rfl rfl) rfl)).trans rfl)).trans ?_;have B:al (al (ae 1) (cI 0) aG) (cI 1) aX [.ah (.ak (.str z::a)),.ah (jJ ((k:Int)::p)),.ah o,.aw (.ai (.str z::a))]= .ok (.int ((k+1:Nat):Int)):=(jh (jh rfl rfl fu) rfl rfl).trans rfl
  have E:jk 3 (qu n) (jb (al (cy 3) (al (al (ae 1) (cI 0) aG) (cI 1) aX) aG) (jb (qp (ae 1) (zI (cI 1)) wP eW) (jb (ae 2) ag))) [.ah (.ak (.str z::a)),.ah (jJ ((k:Int)::p)),.ah o,.aw (.ai (.str z::a))]= .ok w:=by
   refine jn (ds:=[u,jJ p,o]) (jc (jh rfl B (oU (by simpa using d))) (jc ((wz rfl (wy rfl) rfl rfl).trans ?_) (jc rfl rfl))) rfl y;show ao.ok (D.ak (cutD (.int (k:Int)::p.map .int) (some 1) none))=_;rw [nL];rfl
  have H:Bz 3 (al (al (ae 1) (cI 0) aG) (cI 1) aX) (jk 3 (qu n) (jb (al (cy 3) (al (al (ae 1) (cI 0) aG) (cI 1) aX) aG) (jb (qp (ae 1) (zI (cI 1)) wP eW) (jb (ae 2) ag)))) [.ah (.ak (.str z::a)),.ah (jJ ((k:Int)::p)),.ah o,.aw (.ai (.str z::a))]= .ok (.nx [.ah (.ak (.str z::a)),.ah (jJ ((k:Int)::p)),.ah o,.aw (.ai (.str z::a.set k w))]):=by
   unfold Bz;rw [show dw 3 [.ah (.ak (.str z::a)),.ah (jJ ((k:Int)::p)),.ah o,.aw (.ai (.str z::a))]= .ok (.str z::a) from rfl,qy,E,qy,B,qy]
   have q:lQ (D.str z::a).length ((k+1:Nat):Int)=some (k+1):=by
     unfold lQ;rw [if_pos (by omega),if_pos (by simp only [bO];omega)];congr 1
   dsimp only;rw [q];rfl
  refine (jj H).trans (qm (RF (qC (jc rfl rfl) rfl) (uh _ c)))
theorem Gz {ks:List aQ} {ds:List D} (o:ks.length=ds.length): ∀(n:Nat) (t:D),tk ns t=true->bz t<=n->qO n [t,.aP ks ds]= .ok (sub (look ks ds) t)
 |0,t,_,h=>by have:=Jx t;omega
 |n+1,t,p,q=>by
  have a:a6 (aO (a7 "tuple" (ae 0))) [.ah t,.ah (.aP ks ds)]= .ok (!oS t):=zc (jC (by rw [wn];exact Wo p));rcases j7 p with ⟨i,rfl⟩| ⟨z,r,rfl,w,y,u⟩
  . have c:aO (al (ae 0) (ae 1) (sR false)) [.ah (.int i),.ah (.aP ks ds)]= .ok (bB ks ds (.inl i)).isSome:=jC (jh rfl rfl (by rw [<-KK (.inl i) o];rfl));rw [sub_int];unfold look
    cases e:bB ks ds (.inl i) with
    |none=>
     rw [e] at c;exact Xa (xJ ((cu a).trans ((jj (dG c)).trans (yz rfl))))
    |some d=>
     rw [e] at c;refine Xa (xJ ((cu a).trans (xJ ((cu c).trans (yz (jh rfl rfl ?_))))));show (match bB ks ds (.inl i) with|some d=>ao.ok d|none=> .aj)=_;rw [e];rfl
  . rw [jZ] at q;have m:qp (ae 0) (zI (cI 1)) wP eW [.ah (.ak (.str z::r)),.ah (.aP ks ds)]= .ok (.ak r):=wz rfl (wy rfl) rfl (show ao.ok (D.ak (cutD (.str z::r) (some 1) none))=_ by rw [nL])
    have j:qv false 1 [1] (b9 (qp (ae 0) (zI (cI 1)) wP eW)) (gN 0) qi (jk 2 (qO n) (jb (ae 0) (jb (ae 1) ag))) [.ah (.ak (.str z::r)),.ah (.aP ks ds)]= .ok (.ai (r.map (sub (look ks ds)))):=
     D8 rfl (sub (look ks ds)) (λd=>d∈r) (y9 m rfl) (λd l=>l) (jt (by omega)) λd v l=>
      jn (jc rfl (jc rfl rfl)) rfl (Gz o n d (u d l) (by have:=qJ l;omega))
    rw [ZM];refine qQ ((jj (dG a)).trans (qm (qC (jc (jh (Ua (jc (jh rfl rfl fu) rfl) (jt (by simp))) j (jl (jt ?_))) rfl) rfl)));simp only [dc,bO,dY];omega
def ML (ns:List Str) (n:Nat) (p:D):Prop:= ∀(t:D) (M:As),tk ns t=true->bz t<=100->M.ok ns->M.length+num p<=5000->nN ((mp p t).bind (bE M)) (jI n [p,t] (ky M) (vl M))
def mU (n:Nat):Sl->ao bL:=lz (yR (jI n) 2 (al (ae 0) (ae 3) aG) (al (ae 1) (ae 3) aG)) (gc (cB false)) nZ
abbrev eG (p t:D) (M:As) (u:Slot):Sl:=[.ah p,.ah t,.aw (.aP (ky M) (vl M)),u]
theorem MM {n:Nat} {a b:D}: ∀(ps c:List D) (j:Nat) (M:As) (u:Slot),(∀p∈ps,tk ns p=true/\ML ns n p)->(∀t∈c,tk ns t=true/\bz t<=100)->ps.length=c.length->M.ok ns->M.length+nums ps<=5000->
  (∀i x,ps[i]?=some x->aG a (.int ((j+i:Nat):Int))= .ok x)->(∀i x,c[i]?=some x->aG b (.int ((j+i:Nat):Int))= .ok x)->
  match (fh ps c).bind (bE M) with
  |some M2=> ∃Q,Zr (gN 3) (mU n) (zX (j:Int) ps.length) (eG a b M u)= .ok (.nx (eG a b M2 Q))
  |none=> ∃(d:Sl) (M2:As),Zr (gN 3) (mU n) (zX (j:Int) ps.length) (eG a b M u)= .ok (.rt false d)/\d[2]?=some (.aw (.aP (ky M2) (vl M2)))
 | [],[],j,M,u,_,_,_,_,_,_,_=>⟨u,rfl⟩
 | [],_::_,_,_,_,_,_,h,_,_,_,_=>by simp at h
 |_::_,[],_,_,_,_,_,h,_,_,_,_=>by simp at h
 |p::ps,t::c,j,M,u,H,I,U,J,l,L,ib=>by
  obtain ⟨y,z⟩:=H p (by simp);obtain ⟨m,q⟩:=I t (by simp);simp only [nums] at l;have w:=z t M m q J (by omega);rw [vZ,bO,Z9]
  have N:Zr (gN 3) (mU n) (.int (j:Int)::zX ((j:Int)+1) ps.length) (eG a b M u)=(mU n (eG a b M (.ah (.int (j:Int))))>>=λo=>match o with
   | .nx v=>Zr (gN 3) (mU n) (zX ((j:Int)+1) ps.length) v
   | .rt b e=> .ok (.rt b e)):=rfl
  have O: ∀ {r M2},jI n [p,t] (ky M) (vl M)= .ok (r,ky M2,vl M2)->yR (jI n) 2 (al (ae 0) (ae 3) aG) (al (ae 1) (ae 3) aG) (eG a b M (.ah (.int (j:Int))))= .ok (r,eG a b M2 (.ah (.int (j:Int)))):=λ{r M2} h=>by
   unfold yR;rw [show al (ae 0) (ae 3) aG (eG a b M (.ah (.int (j:Int))))= .ok p from jh rfl rfl (L 0 p rfl),qy,show al (ae 1) (ae 3) aG (eG a b M (.ah (.int (j:Int))))= .ok t from jh rfl rfl (ib 0 t rfl),qy];show (jI n [p,t] (ky M) (vl M)>>=_)=_;rw [h];rfl
  cases e:(mp p t).bind (bE M) with
  |none=>
   rw [e] at w;obtain ⟨M2,B⟩:=w;refine ⟨eG a b M2 (.ah (.int (j:Int))),M2,?_,rfl⟩;rw [N,show mU n (eG a b M (.ah (.int (j:Int))))= .ok (.rt false (eG a b M2 (.ah (.int (j:Int))))) by unfold mU lz;rw [O B];rfl];rfl
  |some M1=>
   rw [e] at w;have Y:=Mo y e;rw [N,show mU n (eG a b M (.ah (.int (j:Int))))= .ok (.nx (eG a b M1 (.ah (.int (j:Int))))) by unfold mU lz;rw [O w];rfl];exact MM ps c (j+1) M1 (.ah (.int (j:Int))) (λx E=>H x (by simp [E])) (λx E=>I x (by simp [E])) (by simpa using U) (Mn m q J e) (by omega) (λi x h=>by rw [show j+1+i=j+(i+1) by omega];exact L (i+1) x h) (λi x h=>by rw [show j+1+i=j+(i+1) by omega];exact ib (i+1) x h)
theorem MN: ∀(n:Nat) (p:D),tk ns p=true->bz p<=n->ML ns n p
 |0,p,_,h=>by have:=Jx p;omega
 |n+1,p,J,hh=>by
  intro t M U L hM hl;have c: ∀d u,a6 (aO (a7 "tuple" (ae 0))) [.ah p,.ah t,d,u]= .ok (!oS p):=λd u=>zc (jC (by rw [wn];exact Wo J))
  have q: ∀ {b:Bool} (M2:As) (y:Sl),xP (jI n) (eG p t M .un)= .ok (.rt b y)->y[2]?=some (.aw (.aP (ky M2) (vl M2)))->jI (n+1) [p,t] (ky M) (vl M)= .ok (b,ky M2,vl M2):=λ_ _ N Y=>kj N rfl Y
  rcases j7 J with ⟨i,rfl⟩| ⟨z,r,rfl,hz,hlr,hr⟩
  . rw [ua];have B:aO (al (ae 0) (cy 2) (sR true)) (eG (.int i) t M .un)= .ok (!(M.lookup i).isSome):=jC (jh rfl rfl (by rw [<-ZL,<-KK (.inl i) (Go M)];rfl))
    have H: ∀ {M:As} {d},M.lookup i=some d->al (al (cy 2) (ae 0) ij) (ae 1) ce (eG (.int i) t M .un)=ce d t:=λ{M d} h=>by
      rw [Ux,show al (cy 2) (ae 0) ij (eG (.int i) t M .un)= .ok d from jh rfl rfl (by show (match bB (ky M) (vl M) (.inl i) with|some d=>ao.ok d|none=> .aj)=_;rw [ZL,h])];rfl
    show nN (bE M [(i,t)]) _;simp only [bE]
    cases e:M.lookup i with
    |none=>
      rw [e] at B;have e2:(M++[(i,t)]).lookup i=some t:=by rw [List.lookup_append,e];simp
      refine q _ (eG (.int i) t (M++[(i,t)]) .un) (ZP ((tu (c _ _)).trans ((xj ((tu B).trans ?_)).trans (show (al _ _ _ _>>=_)=_ by rw [H e2,Mi U L];rfl)))) rfl;show aV ((ky M).length<aS) _=_;rw [jl (by rw [Mm];exact Dh (show M.length<=5000 by omega) (by decide))];show ao.ok (bL.nx [_,_,.aw (.aP (QE (ky M) (.inl i)) (QF (ky M) (vl M) (.inl i) t)),_])=_;rw [(vI t e).1,(vI t e).2]
    |some d0=>
      rw [e] at B;have O:=hM _ (Z6 e)
      have Q: ∀b,bG d0 t=b->jI (n+1) [.int i,t] (ky M) (vl M)= .ok (b,ky M,vl M):=λb Q=>
        q M (eG (.int i) t M .un) (ZP ((tu (c _ _)).trans ((xj (KJ B)).trans (show (al _ _ _ _>>=_)=_ by rw [H e,kY O.1 U O.2,Q];rfl)))) rfl
      dsimp only
      cases hq:bG d0 t with
      |true=>rw [if_pos rfl];exact Q true hq
      |false=>rw [if_neg eh];exact ⟨M,Q false hq⟩
  . rw [jZ] at hh;rw [qe] at hl
    have stop:fq (a6 (aO (a7 "tuple" (ae 1)))) (fq (aO (al (app (jb (ae 0) ag) aT) (app (jb (ae 1) ag) aT) de)) (aO (al (al (ae 0) (cI 0) aG) (al (ae 1) (cI 0) aG) de))) (eG (.ak (.str z::r)) t M .un)= .ok true->nN none (jI (n+1) [.ak (.str z::r),t] (ky M) (vl M)):=λh=>
      ⟨M,q M (eG (.ak (.str z::r)) t M .un) ((xj (KJ (c _ _))).trans (ZP (tu h))) rfl⟩
    rcases j7 U with ⟨j,rfl⟩| ⟨w,m,rfl,_,_,tw⟩
    . rw [Gp];exact stop rfl
    . rw [v5];have t2:aO (al (app (jb (ae 0) ag) aT) (app (jb (ae 1) ag) aT) de) (eG (.ak (.str z::r)) (.ak (.str w::m)) M .un)= .ok (!(((r.length+1:Nat):Int)==((m.length+1:Nat):Int))):=jC (jh rfl rfl Mb);have t3:aO (al (al (ae 0) (cI 0) aG) (al (ae 1) (cI 0) aG) de) (eG (.ak (.str z::r)) (.ak (.str w::m)) M .un)= .ok (!bG (.str z) (.str w)):=jC (jh (jh rfl rfl fu) (jh rfl rfl fu) (jl (by left;simp [D.cm,D.dE])));have E:=Kg (t1:=a6 (aO (a7 "tuple" (ae 1)))) (b:=false) rfl (Kg t2 t3)
      by_cases v:r.length=m.length
      . by_cases I:z=w
        . subst I;rw [if_pos rfl];rw [show (!(((r.length+1:Nat):Int)==((m.length+1:Nat):Int)))=false by rw [v];simp,show bG (.str z) (.str z)=true by simp [bG]] at E
          have hrg:kl (jb (cI 1) (jb (app (jb (ae 0) ag) aT) ag)) (eG (.ak (.str z::r)) (.ak (.str z::m)) M .un)= .ok (zX 1 r.length):=by
           refine (HZ (i:=1) (j:=((r.length+1:Nat):Int)) (jc rfl (jc (qC (jc rfl rfl) rfl) rfl)) ⟨by decide,by omega,by omega⟩).trans ?_;congr 2;omega
          have l:=MM (a:= .ak (.str z::r)) (b:= .ak (.str z::m)) (n:=n) r m 1 M .un (λp J=>⟨hr p J,MN n p (hr p J) (by have:=qJ J;omega)⟩) (λu hu=>⟨tw u hu,by rw [jZ] at L;have:=qJ hu;omega⟩) v hM (by omega) (λi x h=>Au (by rw [Nat.add_comm];exact h)) (λi x h=>Au (by rw [Nat.add_comm];exact h))
          have go: ∀ {o:ao bL},Zr (gN 3) (mU n) (zX 1 r.length) (eG (.ak (.str z::r)) (.ak (.str z::m)) M .un)=o->xP (jI n) (eG (.ak (.str z::r)) (.ak (.str z::m)) M .un)=gb (λ_=>o) (gc (cB true)) (eG (.ak (.str z::r)) (.ak (.str z::m)) M .un):=λ{o} h=>by
           have hf:lx (kl (jb (cI 1) (jb (app (jb (ae 0) ag) aT) ag))) (gN 3) (mU n) (eG (.ak (.str z::r)) (.ak (.str z::m)) M .un)=o:=by
            unfold lx;rw [hrg];exact h
           refine (xj (KJ (c _ _))).trans ((xj (KJ E)).trans ?_);show (lx _ _ (mU n) _>>=_)=(o>>=_)
           rw [hf]
          cases e:(fh r m).bind (bE M) with
          |none=>
           rw [e] at l;obtain ⟨y,M2,N,Y⟩:=l;exact ⟨M2,q M2 y ((go N).trans rfl) Y⟩
          |some M2=>
           rw [e] at l;obtain ⟨u',N⟩:=l;exact q M2 (eG (.ak (.str z::r)) (.ak (.str z::m)) M2 u') ((go N).trans rfl) rfl
        . rw [if_neg I];refine stop (E.trans ?_);simp [bG,I]
      . rw [show (if z=w then fh r m else none)=none by rw [kL r m v];simp];refine stop (E.trans ?_);rw [show (((r.length+1:Nat):Int)==((m.length+1:Nat):Int))=false by simp;omega];simp
end
section
variable {ns:List Str} {Q:List (D×D)} {t:D}
def B9:Sl->ao D:=aN (jb (ae 3) (jb (ae 5) (jb (jk 3 (qu 64) (jb (ae 1) (jb (ae 3) (jb (jk 2 (qO 64) (jb (al (al (ae 0) (ae 5) aG) (cI 1) aG) (jb (ae 6) ag))) ag)))) ag)))
def Az:Sl->ao aW:=ap (b8 6 cD) (oO (yR (jI 64) 6 (al (al (ae 0) (ae 5) aG) (cI 0) aG) (ae 4)) (eN 6 (jY 2 B9)) bo)
abbrev mE (Q:List (D×D)) (t:D) (a:List D) (q:List Int×D) (c d:Slot):Sl:=[.ah (.ai (Q.map rl)),.ah t,.aw (.ai a),.ah (jJ q.1),.ah q.2,c,d]
theorem MO {q:List Int×D} (R:Rs ns Q) (o:Ok ns t) (H:q∈bP t): ∀(m:List (D×D)) (k:Nat) (j:List D) (z n:Slot),(∀i p,m[i]?=some p->Q[k+i]?=some p)->j.length+m.length<=15000->
  ∃u v,a5 (qG (gN 5) Az) (zX (k:Int) m.length) (mE Q t j q z n)= .ok (.nx (mE Q t (j++gW t q k m) q u v))
 | [],k,j,z,n,_,_=>⟨z,n,by simp only [gW,fN];rfl⟩
 |p::m,k,j,z,n,N,Y=>by
  simp only [bO] at Y;have O:Q[k]?=some p:=N 0 p rfl;have w:=R.1 p (gu O);have a:=w.hl;have b:=w.nl;have c:=o.2;have d:=w.hr;have B:=wA t o.1 q H;have hqs:=ZX t o.1 q H;have y:=MN 64 p.1 w.tl (by omega) q.2 [] B.2.2 (by omega) (λ_ h=>by cases h) (by simp only [dY];omega);have I:aG (.ai (Q.map rl)) (.int (k:Int))= .ok (rl p):=oU (by rw [iE,O];rfl);have h0:al (al (ae 0) (ae 5) aG) (cI 0) aG (mE Q t j q (.ah (.int (k:Int))) (.aw (.aP [] [])))= .ok p.1:=jh (jh rfl rfl I) rfl fu
  have U: ∀ {r:Bool} {M2:As},jI 64 [p.1,q.2] [] []= .ok (r,ky M2,vl M2)->Az (mE Q t j q (.ah (.int (k:Int))) n)=if r=true then eN 6 (jY 2 B9) (mE Q t j q (.ah (.int (k:Int))) (.aw (.aP (ky M2) (vl M2)))) else .ok (.nx (mE Q t j q (.ah (.int (k:Int))) (.aw (.aP (ky M2) (vl M2))))):=λ{r M2} h=>by
   refine (jj (env':=mE Q t j q (.ah (.int (k:Int))) (.aw (.aP [] []))) rfl).trans ?_;unfold oO yR;rw [h0,qy];show ((jI 64 [p.1,q.2] [] []>>=_)>>=_)=_;rw [h];rfl
  have E: ∀(l:List D) (v:Slot),gW t q k (p::m)=l++gW t q (k+1) m->l.length<=1->Az (mE Q t j q (.ah (.int (k:Int))) n)= .ok (.nx (mE Q t (j++l) q (.ah (.int (k:Int))) v))-> ∃u v,a5 (qG (gN 5) Az) (zX (k:Int) (p::m).length) (mE Q t j q z n)= .ok (.nx (mE Q t (j++gW t q k (p::m)) q u v)):=λl v J BK h=>by
   obtain ⟨u',v',ih⟩:=MO R o H m (k+1) (j++l) (.ah (.int (k:Int))) v (λi x I=>by rw [show k+1+i=k+(i+1) by omega];exact N (i+1) x I) (by rw [cP];omega);refine ⟨u',v',?_⟩;rw [bO,Z9,qf ((qU rfl).trans h),J,<-hJ];exact ih
  cases e:nO p.1 q.2 with
  |none=>
   rw [show (mp p.1 q.2).bind (bE [])=_ from e] at y;obtain ⟨M2,y⟩:=y;exact E [] _ (by simp only [gW,e]) (by simp) (by rw [fN];exact U y)
  |some M=>
   rw [show (mp p.1 q.2).bind (bE [])=_ from e] at y;have L:=uq B.2.2 e;have hf:qO 64 [p.2,.aP (ky M) (vl M)]= .ok (sub (lk M) p.2):=Gz (Go M) 64 p.2 w.tr (by omega);have hw:qu 64 [t,jJ q.1,sub (lk M) p.2]= .ok (res t q p.2 M):=MK (Gk (λi=>(Mt L i).1) p.2 w.tr) 64 q.1 t q.2 (by omega) o.1 (vP t o.1 q H);have h1:aG (rl p) (.int 1)= .ok p.2:=dg _ _ _;refine E [.ak [jJ q.1,.int (k:Int),res t q p.2 M]] (.ah (.aP (ky M) (vl M))) (by simp only [gW,e]) (by simp) ((U y).trans ?_);rw [if_pos rfl];show jY 2 B9 (mE Q t j q (.ah (.int (k:Int))) (.ah (.aP (ky M) (vl M))))=_;unfold B9
   decreasing_with exact rfl
theorem MP (t:D) (q:List Int×D): ∀(a:List (D×D)) (k:Nat),(gW t q k a).length<=a.length
 | [],_=>by simp [gW]
 |p::a,k=>by
  have:=MP t q a (k+1);simp only [gW,cP,bO]
  split<;>simp<;>omega
theorem MQ (R:Rs ns Q) (w:Ok ns t): ∀(L:List (List Int×D)) (e:List D) (n o l m:Slot),(∀q∈L,q∈bP t)->e.length+10*L.length<=14000->
  ∃a b c d,a5 (qG (g2 (gN 3) (gN 4)) (ca (iO (jb (app (jb (ae 0) ag) aT) ag)) (gN 5) Az)) (L.map i8) [.ah (.ai (Q.map rl)),.ah t,.aw (.ai e),n,o,l,m]= .ok (.nx [.ah (.ai (Q.map rl)),.ah t,.aw (.ai (e++L.flatMap λq=>gW t q 0 Q)),a,b,c,d])
 | [],e,n,o,l,m,_,_=>⟨n,o,l,m,by simp only [List.flatMap_nil,fN];rfl⟩
 |q::L,e,n,o,l,m,y,B=>by
  simp only [bO] at B;have E:=R.2;have z:=MP t q Q 0;obtain ⟨u,v,h⟩:=MO R w (y q iC) Q 0 e l m (λi p h=>by rw [pi];exact h) (by omega);obtain ⟨a,b,c,d,H⟩:=MQ R w L (e++gW t q 0 Q) (.ah (jJ q.1)) (.ah q.2) u v (λx I=>y x (fM _ I)) (by rw [cP];omega);refine ⟨a,b,c,d,?_⟩
  have r:iO (jb (app (jb (ae 0) ag) aT) ag) (mE Q t e q l m)= .ok (zX ((0:Nat):Int) Q.length):=by
   rw [HY (j:=(((Q.map rl).length:Nat):Int)) (jc (qC (jc rfl rfl) rfl) rfl) (by rw [dc];omega),dc,lP];rfl
  rw [cL,qf ((qU rfl).trans ((wH r).trans h)),Es,<-hJ];exact H
def MR (R:Rs ns Q) (e:Ok ns t):qF [.ai (Q.map rl),t]= .ok (.ai (fD t Q)):=by
 have i:=Z5 64 t e.1 (by have:=e.2;omega) (by have:=e.2;omega) e.2.2;obtain ⟨a,b,c,d,h⟩:=MQ R e (bP t) [] .un .un .un .un (λq j=>j) (by have:=e.2.2;rw [ZY];simp only [dY];omega);refine qQ ((jj rfl).trans ((jj ((wH (y9 (jn (jc rfl rfl) rfl i) rfl)).trans h)).trans rfl))
end
section
variable {ns:List Str} {Y:List (D×D)} {hs:List D}
theorem yL {k:Nat}: ∀i:List D,(∀d∈i,D.cm d=true/\D.dE d<=k)->D.bS i=true/\D.cE i<=k
 | [],_=>⟨rfl,gl _⟩
 |d::i,h=>by
  obtain ⟨a,b⟩:=yL i λx j=>h x (fM _ j)
  obtain ⟨c,e⟩:=h d iC;simp only [D.bS,D.cE,c,a,Bool.and_self];exact ⟨trivial,by omega⟩
def Se (k:Nat) (d:D):Prop:=D.cm d=true/\D.dE d<=k
def Se.eq {d:D} (h:Se 190 d):ce d d= .ok (.bl true):=by
 have:ce d d= .ok (.bl (bG d d)):=jl (c:=ph d d) (.inl ⟨h.1,h.1,h.2⟩);rw [this,M.dF d h.1]
def Se.ne {d:D} (h:Se 190 d):de d d= .ok (.bl false):=by
 have:de d d= .ok (.bl (!bG d d)):=jl (c:=ph d d) (.inl ⟨h.1,h.1,h.2⟩);rw [this,M.dF d h.1];rfl
def Se.le {d:D} {k j:Nat} (h:Se k d) (a:k<=j):Se j d:=⟨h.1,cY h.2 a⟩
def vC {c:List D} {k:Nat} (h: ∀d∈c,Se k d):Se (k+1) (.ai c):=by
 obtain ⟨a,b⟩:=yL (k:=k) c h;exact ⟨a,by show D.cE c+1<=_;omega⟩
def vB {c:List D} {k:Nat} (h: ∀d∈c,Se k d):Se (k+1) (.ak c):=by
 obtain ⟨a,b⟩:=yL (k:=k) c h;exact ⟨a,by show D.cE c+1<=_;omega⟩
def tz {t:D} (h:tk ns t=true) {k:Nat} (a:bz t<=k):Se k t:=⟨(Wx t h).1,cY (Wx t h).2 a⟩
def U9 (p:List Int):Se 1 (jJ p):=vB λd a=>by
 obtain ⟨i,_,rfl⟩:=gO.mp a;exact ⟨rfl,br _⟩
def se3 {a b c:D} {k:Nat} (h:Se k a) (i:Se k b) (j:Se k c):Se (k+1) (.ak [a,b,c]):=vB λd e=>by
 simp only [bJ,eE,or_false] at e;rcases e with rfl|rfl|rfl<;>assumption
def AA {a b:D} {k:Nat} (e:Se k a) (h:Se k b):Se (k+1) (.ak [a,b]):=vB λd c=>by
 simp only [bJ,eE,or_false] at c;rcases c with rfl|rfl<;>assumption
def GA (i:Int) {k:Nat}:Se k (.int i):=⟨rfl,gl _⟩
def GB (z:Str) {k:Nat}:Se k (.str z):=⟨rfl,gl _⟩
def MS (b:Bool) {k:Nat}:Se k (.bl b):=⟨rfl,gl _⟩
def MT {k:Nat}:Se k .aU:=⟨rfl,gl _⟩
def YN {O one:D} {m:Int} {a:Sl} {i:Nat} (d: ∃fs c,O= .obj "Rules" fs c/\fs.contains "end" =false) (e:ae 0 a= .ok O) (j:ae i a= .ok one) (l:ae 3 a= .ok (.int m)):Jd "Rules" "end" 3 [] jo (ae 0) (jb (ae i) (jb (ae 3) ag)) a=jo [O,one,.int m]:=by
 obtain ⟨fs,c,rfl,h⟩:=d;exact WO (ds:=[one,.int m]) e h (jc j (jc l rfl)) rfl
def Yz: ∃fs a,bF Y hs= .obj "Rules" fs a/\fs.contains "end" =false:=⟨_,_,rfl,by decide⟩
def jfC {one a:D} {m:Int} {c:Str} (h:jo [bF Y hs,one,.int m]= .exc c):zU [bF Y hs,one,a,.int m]= .exc c:=
 Xb (Qu (yi ((YN (i:=1) Yz rfl rfl rfl).trans h)))
def jfB {one a d:D} {m:Int} {c:Str} (e:jo [bF Y hs,one,.int m]= .ok d) (h:jo [bF Y hs,a,.int m]= .exc c):zU [bF Y hs,one,a,.int m]= .exc c:=
 Xb ((jj (jA ((YN (i:=1) Yz rfl rfl rfl).trans e))).trans (Qu (yi ((YN (i:=2) Yz rfl rfl rfl).trans h))))
def jkl {one a:D} {m:Int} {c L2:List Tr} (R:Rs ns Y) (n:Ok ns one) (o:Ok ns a) (e1:Ew Y one c) (e2:Ew Y a L2) (p:c.length<=200) (q:L2.length<=200) (h:Ok ns (lw one c)) (r:Ok ns (lw a L2))
  (u:jo [bF Y hs,one,.int m]= .ok (.ak [.ai (c.map r2),lw one c])) (v:jo [bF Y hs,a,.int m]= .ok (.ak [.ai (L2.map r2),lw a L2])):
  zU [bF Y hs,one,a,.int m]= .ok (if bG (lw one c) (lw a L2)=true then .ai (c.map fw++(bw a L2).reverse) else .aU):=by
 refine Fa ((jj (jA ((YN (i:=1) Yz rfl rfl rfl).trans u))).trans ((jj (jA ((YN (i:=2) Yz rfl rfl rfl).trans v))).trans ?_));show ap _ _ [.ah (bF Y hs),.ah one,.ah a,.ah (.int m),.ah (.ak [.ai (c.map r2),lw one c]),.ah (.ak [.ai (L2.map r2),lw a L2])]=_;have d:=Ml h.1 r.1 (by have:=h.2;omega);have j:aG (.ak [.ai (c.map r2),lw one c]) (.int 1)= .ok (lw one c):=dg _ _ _;have l:aG (.ak [.ai (L2.map r2),lw a L2]) (.int 1)= .ok (lw a L2):=dg _ _ _;have w:aG (.ak [.ai (c.map r2),lw one c]) (.int 0)= .ok (.ai (c.map r2)):=fu;have y:aG (.ak [.ai (L2.map r2),lw a L2]) (.int 0)= .ok (.ai (L2.map r2)):=fu;have z:=jj0 (hs:=hs) R n e1 p;have B:=jll (hs:=hs) R o e2 q
 cases e:bG (lw one c) (lw a L2) with
 |true=>
  rw [e] at d
  have E:aX (.ai (c.map fw)) (.ai (bw a L2).reverse)= .ok (.ai (c.map fw++(bw a L2).reverse)):=jl (jt (by
   have:(bw a L2).length=L2.length:=by rw [<-uL,dc,List.length_zip];simp
   rw [dc,Ec,this];omega))
  rw [if_pos rfl];refine (jj (WW (dG (jC (jh (jh rfl rfl j) (jh rfl rfl l) d))))).trans (WW (qm (jh (jn (jc rfl (jc rfl (jc (jh rfl rfl w) rfl))) rfl z) (jn (jc rfl (jc rfl (jc (jh rfl rfl y) rfl))) rfl B) E)))
 |false=>
  rw [e] at d;exact xJ (WW ((cu (jC (jh (jh rfl rfl j) (jh rfl rfl l) d))).trans (qm rfl)))
def pJ (k:Nat):Sl->ao D:=match k with
 |0=>Jd "Rules" "end" 3 [] jo (ae 0) (jb (ae 1) (jb (ae 3) ag))
 |1=>cr 4 [] zU (jb (ae 0) (jb (ae 1) (jb (ae 2) (jb (ae 3) ag)))) ag
 |2=>cr 4 [.int 200] zU (jb (ae 0) (jb (ae 1) (jb (ae 2) ag))) ag
 |_=>cr 4 [] zU (jb (ae 0) (jb (ae 1) (jb (ae 2) ag))) (jb (ae 3) ag)
abbrev n5 (O one a:D) (m:Int) (k:Int) (x:D):Sl:=[.ah O,.ah one,.ah a,.ah (.int m),.ah (.int k),.ah x,.ah (.str "")]
def lX:ao D->D
 | .ok d=> .ak [.str "",d]
 | .exc c=> .ak [.str (if c= "TooGreat" then "great" else "long"),.aU]
 | .aj=> .aU
def K2 {O one a:D} {m:Int} {k:Nat} {r:ao D} (i:k<=3) (e:pJ k (n5 O one a m (k:Int) .aU)=r) (j:Gd r):zo [O,one,a,.int m,.int (k:Int)]= .ok (lX r):=by
 refine qQ ((jj rfl).trans ((jj rfl).trans ?_));show ap (mB _ _) _ (n5 O one a m (k:Int) .aU)=_
 have l: ∀ {g:T2},g (n5 O one a m (k:Int) .aU)=jr 5 (pJ k) (n5 O one a m (k:Int) .aU)->ap (mB [("TooGreat",jr 6 (cS "great")),("TooLong",jr 6 (cS "long"))] g) (aJ (aN (jb (ae 6) (jb (ae 5) ag)))) (n5 O one a m (k:Int) .aU)= .ok (.rt true (lX r)):=λ{g} h=>by
   unfold mB;rcases j with ⟨d,rfl⟩| ⟨c,n,rfl⟩
   . refine (jj (env':=n5 O one a m (k:Int) d) ?_).trans rfl;rw [h,jA e];rfl
   . rcases n with rfl|rfl
     . refine (jj (env':=[.ah O,.ah one,.ah a,.ah (.int m),.ah (.int (k:Int)),.ah .aU,.ah (.str "great")]) ?_).trans rfl;rw [h,yi e];rfl
     . refine (jj (env':=[.ah O,.ah one,.ah a,.ah (.int m),.ah (.int (k:Int)),.ah .aU,.ah (.str "long")]) ?_).trans rfl;rw [h,yi e];rfl
 refine l ?_;have i:k=0\/k=1\/k=2\/k=3:=by omega
 rw [yJ];rcases i with rfl|rfl|rfl|rfl
 . show (jr 5 (pJ 0) _>>=_)=_;rw [yJ];cases pJ 0 (n5 O one a m ((0:Nat):Int) .aU)<;>rfl
 . show (jr 5 (pJ 1) _>>=_)=_;rw [yJ];cases pJ 1 (n5 O one a m ((1:Nat):Int) .aU)<;>rfl
 . show (jr 5 (pJ 2) _>>=_)=_;rw [yJ];cases pJ 2 (n5 O one a m ((2:Nat):Int) .aU)<;>rfl
 . rfl
def cb {t:T3} {g:T2} {a:Sl} (h:t a= .ok false):bu t g bo a= .ok (.nx a):=(dG h).trans rfl
def Kd (ns:List Str) (d:D):Prop:= ∃(b:Bool) (p:List Int) (k:Int) (u:D),d= .ak [.bl b,jJ p,.int k,u]/\Ok ns u
def kdB:Sl->ao aW:=(ap (bu (fq (a6 (aO (a7 "tuple" (ae 1)))) (fq (aO (al (app (jb (ae 1) ag) aT) (cI 4) de)) (a6 (aO (a7 "bool" (al (ae 1) (cI 0) aG)))))) (aJ (cB false)) bo) (bu (fq (a6 (aO (a7 "tuple" (al (ae 1) (cI 1) aG)))) (a6 (aO (jk 1 J1 (jb (al (ae 1) (cI 2) aG) ag))))) (aJ (cB false)) bo))
theorem YD {s0:Slot}: ∀(a:List D) (u:Slot),(∀d∈a,Kd ns d)-> ∃c,a5 (qG (gN 1) kdB) a [s0,u]= .ok (.nx [s0,c])
 | [],u,_=>⟨u,rfl⟩
 |d::a,u,h=>by
  obtain ⟨c,e⟩:=YD (s0:=s0) a (.ah d) λx i=>h x (fM _ i)
  refine ⟨c,(qf ?_).trans e⟩;obtain ⟨b,p,k,v,rfl,_⟩:=h d iC;rfl
def jjI {a:List D} (h: ∀d∈a,Kd ns d):xX [.ai a]= .ok (.bl true):=by
 obtain ⟨e,c⟩:=YD (s0:= .ah (.ai a)) a .un h;exact qQ ((jj rfl).trans ((jj ((wH rfl).trans c)).trans rfl))
def jk4 {t d:D} (R:Rs ns Y) (c:Ok ns t) (h:d∈fD t Y):io true d (.ai (fD t Y))= .ok (.bl false):=by
 have hs: ∀x∈fD t Y,Se 151 x:=λx e=>by
  obtain ⟨q,k,p,M,s,rfl⟩:=Ub (ns:=ns) e;obtain ⟨a,b,_⟩:=s.tk R c.1;have:=(R.1 p (gu s.ik)).hr;have:=c.2.1;exact se3 (k:=150) ((U9 _).le (by omega)) (GA _) (tz a (by omega))
 obtain ⟨a,b⟩:=yL (fD t Y) hs;refine (jl ⟨a,(hs d h).1,by omega⟩).trans ?_;rw [if_pos rfl,show oK (fD t Y) d=true from sX.mpr ⟨d,h,M.dF d (hs d h).1⟩];rfl
def leB:Sl->ao aW:=(ap (bu (ek (ck (ae 7)) (aO (al (aN (jb (ae 8) (jb (ae 9) (jb (ae 10) ag)))) (jk 2 qF (jb (ae 0) (jb (ae 6) ag))) (io true)))) (aJ (cB false)) bo) (ap (bu (ek (a6 (ck (ae 7))) (aO (al (aN (jb (ae 8) (jb (ae 9) (jb (ae 6) ag)))) (jk 2 qF (jb (ae 0) (jb (ae 10) ag))) (io true)))) (aJ (cB false)) bo) (jr 6 (ae 10))))
abbrev AB:D->Sl->ao aW:=qG (g4 (gN 7) (gN 8) (gN 9) (gN 10)) leB
abbrev pK (Y:List (D×D)) (f a b c e:Slot) (t:D) (h i j d:Slot):Sl:=[.ah (.ai (Y.map rl)),f,a,b,c,e,.ah t,h,i,j,d]
def MU {f a b c e m n o d:Slot} {w:Bool} {t u v:D} {x y:D} (R:Rs ns Y) (i:Ok ns v) (h: .ak [x,y,if w=true then u else t]∈fD v Y) (hw:v=if w=true then t else u):AB (.ak [.bl w,x,y,u]) (pK Y f a b c e t m n o d)= .ok (.nx (pK Y f a b c e u (.ah (.bl w)) (.ah x) (.ah y) (.ah u))):=by
 have j:=MR R i;have l:=jk4 R i h;refine (qU (env':=pK Y f a b c e t (.ah (.bl w)) (.ah x) (.ah y) (.ah u)) rfl).trans ?_;unfold leB;cases w<;>subst hw
 . refine (jj (cb rfl)).trans ?_;exact (jj (cb (YT (b:=true) rfl (jC (jh rfl (jn (ds:=[.ai (Y.map rl),v]) (jc rfl (jc rfl rfl)) rfl j) l))))).trans rfl
 . refine (jj (cb (YT (b:=true) rfl (jC (jh rfl (jn (ds:=[.ai (Y.map rl),v]) (jc rfl (jc rfl rfl)) rfl j) l))))).trans ?_;exact (jj (cb rfl)).trans rfl
theorem MV {f a b c e:Slot} {rest:List D} (R:Rs ns Y): ∀(L:List Tr) (t:D) (i j l d:Slot),Ok ns t->Ew Y t L-> ∃m n o h,a5 AB (L.map fw++rest) (pK Y f a b c e t i j l d)=a5 AB rest (pK Y f a b c e (lw t L) m n o h)
 | [],t,i,j,l,d,_,_=>⟨_,_,_,_,rfl⟩
 |x::L,t,i,j,l,d,p,⟨q,r,u⟩=>by
  obtain ⟨m,n,o,h,v⟩:=MV (f:=f) (a:=a) (b:=b) (c:=c) (e:=e) (rest:=rest) R L x.2.2 (.ah (.bl true)) (.ah x.1) (.ah x.2.1) (.ah x.2.2) (Ay R p q r) u;exact ⟨m,n,o,h,(qf (MU (w:=true) R p q rfl)).trans v⟩
theorem MW {f a b c e:Slot} (R:Rs ns Y): ∀(L:List Tr) (t:D) (rest:List D) (i j l d:Slot),Ok ns t->Ew Y t L-> ∃m n o h,a5 AB ((bw t L).reverse++rest) (pK Y f a b c e (lw t L) i j l d)=a5 AB rest (pK Y f a b c e t m n o h)
 | [],t,rest,i,j,l,d,_,_=>⟨_,_,_,_,rfl⟩
 |x::L,t,rest,i,j,l,d,p,⟨q,r,u⟩=>by
  obtain ⟨m,n,o,h,v⟩:=MW (f:=f) (a:=a) (b:=b) (c:=c) (e:=e) R L x.2.2 (.ak [.bl false,x.1,x.2.1,t]::rest) i j l d (Ay R p q r) u;refine ⟨.ah (.bl false),.ah x.1,.ah x.2.1,.ah t,?_⟩;rw [bw,y8,hJ];exact v.trans (qf (MU (w:=false) R p q rfl))
theorem AC (R:Rs ns Y): ∀(L:List Tr) (t:D),Ok ns t->Ew Y t L->(∀d∈L.map fw,Kd ns d)/\ ∀d∈bw t L,Kd ns d
 | [],t,_,_=>⟨(λd h=>by cases h),λd h=>by cases h⟩
 |x::L,t,a,⟨c,i,j⟩=>by
  have e:=Ay R a c i;obtain ⟨l,m⟩:=AC R L x.2.2 e j;obtain ⟨q,k,p,M,s,rfl⟩:=MG (ns:=ns) c;refine ⟨λd hd=>?_,λd hd=>?_⟩
  . rcases bJ.mp hd with rfl|hd
    . exact ⟨true,q.1,k,_,rfl,e⟩
    . exact l d hd
  . rcases bJ.mp hd with rfl|hd
    . exact ⟨false,q.1,k,_,rfl,a⟩
    . exact m d hd
def jkm (t:D) (L:List Tr):(bw t L).length=L.length:=by rw [<-uL,dc,List.length_zip];simp
def c0:D->D
 | .ak [a,_,_,_]=>a
 |_=> .aU
def tD:D->D
 | .ak [_,b,c,_]=> .ak [b,c]
 |_=> .aU
theorem si: ∀(L:List Tr) (t:D),(bw t L).map c0=eP L.length (.bl false)/\(bw t L).map tD=L.map r2
 | [],_=>⟨rfl,rfl⟩
 |x::L,t=>by
  obtain ⟨a,b⟩:=si L x.2.2;exact ⟨by rw [bw,cL,a];rfl,by rw [bw,cL,b];rfl⟩
theorem sj: ∀(L:List Tr),(L.map fw).map c0=eP L.length (.bl true)/\(L.map fw).map tD=L.map r2
 | []=>⟨rfl,rfl⟩
 |x::L=>by
  obtain ⟨a,b⟩:=sj L;exact ⟨by rw [cL,cL,a];rfl,by rw [cL,cL,b];rfl⟩
theorem MX (b:Bool): ∀n:Nat,(eP n [D.bl b]).flatten=eP n (.bl b)
 |0=>rfl
 |n+1=>by rw [pd,qg,MX b n];rfl
def jjF {one i:D} {j L2:List Tr} (R:Rs ns Y) (O:Ok ns one) (r:Ok ns i) (e1:Ew Y one j) (e2:Ew Y i L2) (v:j.length<=200) (w:L2.length<=200) (U:lw one j=lw i L2):
  xW [.ai (Y.map rl),.ai (j.map fw++(bw i L2).reverse),one,i,.ai (j.map r2),.ai (L2.map r2)]= .ok (.bl true):=by
 generalize m:j.map fw++(bw i L2).reverse=F
 have n: ∀d∈F,Kd ns d:=λd l=>by
  rw [<-m] at l;rcases j0.mp l with h|h
  . exact (AC R j one O e1).1 d h
  . exact (AC R L2 i r e2).2 d (List.mem_reverse.mp h)
 have o:F.length<=aS:=jt (by rw [<-m,cP,dc,Ec,jkm];omega);have hk:=jjI n;obtain ⟨u7,u8,u9,y,z⟩:=MV (f:= .ah (.ai F)) (a:= .ah one) (b:= .ah i) (c:= .ah (.ai (j.map r2))) (e:= .ah (.ai (L2.map r2))) (rest:=(bw i L2).reverse) R j one .un .un .un .un O e1;obtain ⟨v7,v8,v9,v10,q⟩:=MW (f:= .ah (.ai F)) (a:= .ah one) (b:= .ah i) (c:= .ah (.ai (j.map r2))) (e:= .ah (.ai (L2.map r2))) R L2 i [] u7 u8 u9 y r e2;rw [fN,<-U] at q;have hw:=z.trans q;rw [m] at hw
 let E:Sl:=[.ah (.ai (Y.map rl)),.ah (.ai F),.ah one,.ah i,.ah (.ai (j.map r2)),.ah (.ai (L2.map r2)),.un,.un,.un,.un,.un]
 have c1:qv false 1 [] (b9 (ae 1)) (gN 0) qi (al (ae 0) (cI 0) aG) E= .ok (.ai (F.map c0)):=xZ c0 (Kd ns) rfl n o λd B ⟨b,p,k,u,e,_⟩=>by subst e;rfl
 have c2:qv false 1 [] (b9 (ae 1)) (gN 0) qi (aN (jb (al (ae 0) (cI 1) aG) (jb (al (ae 0) (cI 2) aG) ag))) E= .ok (.ai (F.map tD)):=xZ tD (Kd ns) rfl n o λd B ⟨b,p,k,u,e,_⟩=>by subst e;rfl
 have f0:F.map c0=eP j.length (.bl true)++eP L2.length (.bl false):=by rw [<-m,rH,List.map_reverse,(sj j).1,(si L2 i).1,List.reverse_replicate]
 have H:F.map tD=j.map r2++(L2.map r2).reverse:=by rw [<-m,rH,List.map_reverse,(sj j).2,(si L2 i).2]
 have Q: ∀(b:Bool) (L:List Tr),L.length<=200->nE (.ai [.bl b]) (.int ((L.map r2).length:Int))= .ok (.ai (eP L.length (.bl b))):=λb L hL=>by
  refine (jl ⟨by omega,by rw [dc];omega,jt (by simp only [bO,dY,dc,lP];omega)⟩).trans ?_;rw [lP,dc,MX]
 have s0:Se 190 (.ai (F.map c0)):=(vC (k:=3) λd l=>by
  obtain ⟨x,I,rfl⟩:=gO.mp l;obtain ⟨b,p,k,u,rfl,_⟩:=n x I
  exact MS b).le (by omega)
 have J:Se 190 (.ai (F.map tD)):=(vC (k:=3) λd l=>by
  obtain ⟨x,I,rfl⟩:=gO.mp l;obtain ⟨b,p,k,u,rfl,_⟩:=n x I
  exact (AA (k:=1) (U9 p) (GA k)).le (by omega)).le (by omega)
 have n0:=s0.ne;have N:=J.ne;have ad: ∀(a b:List D),a.length<=200->b.length<=200->aX (.ai a) (.ai b)= .ok (.ai (a++b)):=λa b h1 h2=>jl (jt (by omega))
 refine qQ ?_;show Jz xX qF E=_;refine (jj ((dG (Kg (zc (jC (jn (jc rfl rfl) rfl hk))) (jC (jh c1 (jh (jh rfl rfl (Q true j v)) (jh rfl rfl (Q false L2 w)) (ad _ _ (by simpa using v) (by simpa using w))) (by rw [<-f0];exact n0))))).trans rfl)).trans ?_;refine (jj ((dG (jC (jh c2 (jh rfl rfl (ad _ _ (by simpa using v) (by simpa using w))) (by rw [<-H];exact N)))).trans rfl)).trans ?_;refine (jj (env':=pK Y (.ah (.ai F)) (.ah one) (.ah i) (.ah (.ai (j.map r2))) (.ah (.ai (L2.map r2))) one .un .un .un .un) rfl).trans ?_;exact (jj ((wH rfl).trans hw)).trans (qm (jh rfl rfl (tz r.1 (k:=190) (by have:=r.2;omega)).eq))
def GC {c:Str} (h:Wd c): ∃z:Str,lX (.exc c)= .ak [.str z,.aU]/\de (.str z) (.str "")= .ok (.bl true):=by
 rcases h with rfl|rfl
 . exact ⟨"great",rfl,rfl⟩
 . exact ⟨"long",rfl,rfl⟩
def MY {c:Str} (h:Wd c):Se 190 (lX (.exc c)):=by
 obtain ⟨z,e,_⟩:=GC h;rw [e];exact (AA (k:=0) (GB z) MT).le (by omega)
def jkN {F:List D} (h: ∀d∈F,Kd ns d):Se 190 (lX (.ok (.ai F))):=(AA (k:=62) (GB "") (vC (k:=61) λd e=>by
 obtain ⟨b,p,k,u,rfl,a⟩:=h d e;refine vB (k:=60) λx c=>?_
 simp only [bJ,eE,or_false] at c;rcases c with rfl|rfl|rfl|rfl
 . exact MS b
 . exact (U9 p).le (by omega)
 . exact GA k
 . exact tz a.1 a.2.1)).le (by omega)
abbrev Ca (Y:List (D×D)) (hs:List D) (one a:D) (m:Int) (l:Bool) (k:Nat) (c d e:Slot):Sl:=[.ah (.ai (Y.map rl)),.ah (bF Y hs),.ah one,.ah a,.ah (.int m),.ah (.bl l),.ah (.int (k:Int)),c,d,e]
def MZ {one a:D} {lim:Int} {left:Bool} (R:Rs ns Y) (L:Ok ns one) (N:Ok ns a) (hl:lim<=200):wM [.ai (Y.map rl),bF Y hs,one,a,.int lim,.bl left]= .ok (.bl true):=by
 obtain ⟨m,k,Q,hk,hE⟩: ∃(m:Int) (k:Nat),m<=200/\(k=1\/k=2/\m=200)/\ ∀g:Sl->ao aW,ap (jr 6 (cI 1)) (ap (bu (ck (ae 5)) (ap (jr 4 (cI 200)) (jr 6 (cI 2))) bo) g) (j4 10 [.ai (Y.map rl),bF Y hs,one,a,.int lim,.bl left])=g (Ca Y hs one a m left k .un .un .un):=by
   cases left
   . exact ⟨lim,1,hl,.inl rfl,λg=>(jj rfl).trans (jj rfl)⟩
   . exact ⟨200,2,by omega,.inr ⟨rfl,rfl⟩,λg=>(jj rfl).trans (jj rfl)⟩
 have n:(∃c,Wd c/\jo [bF Y hs,one,.int m]= .exc c/\zU [bF Y hs,one,a,.int m]= .exc c)\/ ∃l,Ew Y one l/\l.length<=200/\Ok ns (lw one l)/\jo [bF Y hs,one,.int m]= .ok (.ak [.ai (l.map r2),lw one l])/\((∃c,Wd c/\jo [bF Y hs,a,.int m]= .exc c/\zU [bF Y hs,one,a,.int m]= .exc c)\/
     ∃L2,Ew Y a L2/\L2.length<=200/\Ok ns (lw a L2)/\jo [bF Y hs,a,.int m]= .ok (.ak [.ai (L2.map r2),lw a L2])/\zU [bF Y hs,one,a,.int m]= .ok (if bG (lw one l) (lw a L2)=true then .ai (l.map fw++(bw a L2).reverse) else .aU)):=by
   rcases MD (hs:=hs) Q R L with ⟨c,j,h⟩| ⟨l,v,H,p,h⟩
   . exact .inl ⟨c,j,h,jfC h⟩
   . refine .inr ⟨l,v,H,p,h,?_⟩;rcases MD (hs:=hs) Q R N with ⟨c,j,I⟩| ⟨L2,w,J,y,I⟩
     . exact .inl ⟨c,j,I,jfB h I⟩
     . exact .inr ⟨L2,w,J,y,I,jkl R L N v w H J p y h I⟩
 generalize O:zU [bF Y hs,one,a,.int m]=C at n;generalize hA:jo [bF Y hs,one,.int m]=A at n
 have E:Gd C/\Gd A/\Se 190 (lX C):=by
   rcases n with ⟨c,j,rfl,rfl⟩| ⟨l,v,H,p,rfl,⟨c,j,_,rfl⟩| ⟨L2,w,J,y,_,rfl⟩⟩
   . exact ⟨.inr ⟨c,j,rfl⟩,.inr ⟨c,j,rfl⟩,MY j⟩
   . exact ⟨.inr ⟨c,j,rfl⟩,.inl ⟨_,rfl⟩,MY j⟩
   . refine ⟨.inl ⟨_,rfl⟩,.inl ⟨_,rfl⟩,?_⟩
     split
     . exact jkN λd hd=>(j0.mp hd).elim ((AC R l one L v).1 d) λh=>(AC R L2 a N w).2 d (List.mem_reverse.mp h)
     . exact (AA (k:=0) (GB "") MT).le (by omega)
 have U: ∀ {x:D} {r:ao D},jo [bF Y hs,x,.int m]=r->Gd r->zo [bF Y hs,x,.aU,.int m,.int 0]= .ok (lX r):=λ{x r} h g=>K2 (k:=0) (by omega) (show Jd "Rules" "end" 3 [] jo (ae 0) (jb (ae 1) (jb (ae 3) ag)) (n5 (bF Y hs) x .aU m 0 .aU)=r from (YN (i:=1) Yz rfl rfl rfl).trans h) g
 have q1:zo [bF Y hs,one,a,.int m,.int (k:Int)]= .ok (lX C):=by
   rcases hk with rfl| ⟨rfl,rfl⟩
   . exact K2 (by omega) O E.1
   . exact K2 (by omega) O E.1
 have q3:zo [bF Y hs,one,a,.int m,.int 3]= .ok (lX C):=K2 (k:=3) (by omega) O E.1;refine qQ ((hE _).trans ?_);refine (jj (jA (jn (jc rfl (jc rfl (jc rfl (jc rfl (jc rfl rfl))))) rfl q1))).trans ?_;show ap _ _ (Ca Y hs one a m left k (.ah (lX C)) .un .un)=_;refine (jj (cb ((YT (jC (jh (jh rfl rfl rfl) rfl JK)) (jC (jh (jn (jc rfl (jc rfl (jc rfl (jc rfl (jc rfl rfl))))) rfl q3) rfl E.2.2.ne))).trans (by rw [vm])))).trans ?_;refine (jj (jA (jn (jc rfl (jc rfl (jc rfl (jc rfl (jc rfl rfl))))) rfl (U hA E.2.1)))).trans ?_;show ap _ _ (Ca Y hs one a m left k (.ah (lX C)) (.ah (lX A)) .un)=_;have q:=E.2.2.eq;rcases n with ⟨c,j,rfl,rfl⟩| ⟨l,v,H,p,rfl,u⟩
 . obtain ⟨z,e,o⟩:=GC j;rw [e] at q ⊢;exact xJ ((cu (jC (jh (jh rfl rfl fu) rfl o))).trans (qm (jh rfl (zJ (jc (jh rfl rfl fu) (jc rfl rfl)) (jt (by simp))) q)))
 . refine (jj (cb rfl)).trans ?_;generalize hB:jo [bF Y hs,a,.int m]=B at u
   have gB:Gd B:=by
     rcases u with ⟨c,j,rfl,_⟩| ⟨L2,_,_,_,rfl,_⟩
     . exact .inr ⟨c,j,rfl⟩
     . exact .inl ⟨_,rfl⟩
   refine (jj (jA (jn (jc rfl (jc rfl (jc rfl (jc rfl (jc rfl rfl))))) rfl (U hB gB)))).trans ?_;show ap _ _ (Ca Y hs one a m left k (.ah (lX C)) (.ah (.ak [.str "",.ak [.ai (l.map r2),lw one l]])) (.ah (lX B)))=_;rcases u with ⟨c,j,rfl,rfl⟩| ⟨L2,w,J,y,rfl,rfl⟩
   . obtain ⟨z,e,o⟩:=GC j;rw [e] at q ⊢;exact xJ ((cu (jC (jh (jh rfl rfl fu) rfl o))).trans (qm (jh rfl (zJ (jc (jh rfl rfl fu) (jc rfl rfl)) (jt (by simp))) q)))
   . refine (jj (cb rfl)).trans ?_;have o:=Ml p.1 y.1 (by have:=p.2;omega)
     cases e:bG (lw one l) (lw a L2) with
     |false=>
       rw [e] at o q;rw [if_neg eh] at q ⊢;exact xJ ((cu (jC (jh (jh (jh rfl rfl (dg _ _ _)) rfl (dg _ _ _)) (jh (jh rfl rfl (dg _ _ _)) rfl (dg _ _ _)) o))).trans (qm (jh rfl (zJ (jc rfl (jc rfl rfl)) (jt (by simp))) q)))
     |true=>
       rw [e] at o;rw [if_pos rfl];have hw:=jjF R L N v w H J ((jj8 p.1 y.1).mp e);refine (jj (cb (jC (jh (jh (jh rfl rfl (dg _ _ _)) rfl (dg _ _ _)) (jh (jh rfl rfl (dg _ _ _)) rfl (dg _ _ _)) o)))).trans (qm ?_);rw [Uy,show al (al (ae 7) (cI 0) aG) (cS "") ce _= .ok (.bl true) from jh (jh rfl rfl fu) rfl rfl,qy,show jk 6 xW _ _= .ok (.bl true) from jn (jc rfl (jc (jh rfl rfl (dg _ _ _)) (jc rfl (jc rfl (jc (jh (jh rfl rfl (dg _ _ _)) rfl fu) (jc (jh (jh rfl rfl (dg _ _ _)) rfl fu) rfl)))))) rfl hw];rfl
end
section
def yD {c:Int} (h:intBits c<=2^20+1): ∃m:Int,zH [.int c]= .ok (.int m):=by
 obtain ⟨m,e,_⟩:gx (al (al (al (al (ae 0) (cI 43) aX) (al (cI 7) (cI 61) fJ) f6) (al (cI 11) (cI 63) fJ) f6) (al (cI 13) (cI 9) fJ) f6) [.ah (.int c)] (max (2^20+1) 6+1+(3*61+1)+(4*63+1)+(4*9+1)):=
  kJ (kJ (kJ (RK (RM rfl h) (RL (by decide))) (kH (k:=61) (by decide) (by decide) (by decide)) (by decide)) (kH (k:=63) (by decide) (by decide) (by decide)) (by decide)) (kH (k:=9) (by decide) (by decide) (by decide)) (by decide)
 have a:al (cI 10) (cI 60) fJ [.ah (.int c)]= .ok (.int (10^60)):=jh rfl rfl (HX ⟨by decide,by decide,by decide⟩);have i:intBits ((10:Int)^60)<=4*60+1:=intBits_pow_le (by decide) 60;have d:(0:Int)<10^60:=Int.pow_pos (by decide);exact ⟨_,qQ (qm (jh e (jh a a (D6 (show intBits _+intBits _<=_ by omega))) (YB (Int.mul_pos d d))))⟩
def YQ (a:List Int) (k:Nat): ∃c:Int,wD [.ei (a.map D.int),.int (k:Int)]= .ok (.int c)/\(c=0\/c∈a):=by
 have h:aO (al (ae 1) (app (jb (ae 0) ag) aT) ltI) [.ah (.ei (a.map D.int)),.ah (.int (k:Int))]= .ok (decide (k<a.length)):=by
   refine jC (jh rfl (qC (jc rfl rfl) rfl) ?_);show ao.ok (D.bl (decide ((k:Int)< ((a.map D.int).length:Nat))))=_;rw [dc];simp
 by_cases e:k<a.length
 . refine ⟨a[k],Xa (xJ ((cu (h.trans (by rw [decide_eq_true e]))).trans (yz (jh rfl rfl ?_)))),.inr (nY e)⟩;show (match fX (a.map D.int) (k:Int) with|some d=>ao.ok d|none=> .aj)=_;rw [M.cc,iE,cU e];rfl
 . exact ⟨0,qQ ((jj ((dG (h.trans (by rw [decide_eq_false e]))).trans rfl)).trans rfl),.inl rfl⟩
abbrev sk (n:Int) (sz:Int) (f:Str) (a c d e:Slot):Sl:=[.ah (.int n),.ah (.str i6),.ah (.int sz),.ah (.str f),a,c,d,e]
def kK (m:Int): ∃o:List Str,J2 [.int m]= .ok (.ai (o.map .str))/\o.length=4/\ ∀z∈o,isNm (.str z)=true:=by
 have hs:1<=1+m%8/\1+m%8<=8:=by omega
 generalize J:1+m%8=sz at hs
 obtain ⟨ic,l1,q,l,L,rfl,N,w⟩:=WQ (body:=qG (gN 4) (ap (jr 0 (al (ae 0) (cI 26) iU)) (jr 3 (al (ae 3) (al (ae 1) (al (ae 0) (cI 26) bf) aG) aX))))
  (λv p=> ∃(n:Int) (f:Str) (u:Slot),p=sk n sz f u .un .un .un/\f.length+v.length=sz.toNat/\oQ f)
  (by
   rintro d v p ⟨n,f,u,rfl,O,lw⟩;obtain ⟨c,y,r⟩:=sh (z:=i6) (i:=n/26%26) (by omega) (by rw [Ma];omega);simp only [bO] at O;have B:(f++(⟨#[c]⟩:Str)).length=f.length+1:=strLen_append _ _;refine ⟨sk (n/26) sz (f++(⟨#[c]⟩:Str)) (.ah d) .un .un .un,?_,_,_,_,rfl,by rw [B];omega,kR lw (L8 r)⟩
   exact (qU rfl).trans ((jj rfl).trans (jA (jh rfl (jh rfl rfl y) (jl (cY (show f.length+1<=8 by omega) (by decide))))))  )
  (zX 0 sz.toNat) (sk m sz "" .un .un .un .un) ⟨m, "",.un,rfl,by rw [Uj,show ("" :Str).length=0 by decide,pi],λc y=>by cases y⟩
 simp only [dY] at N;have E:0<=q/26%sz/\q/26%sz<sz:=⟨Int.emod_nonneg _ (by omega),Int.emod_lt_of_pos _ (by omega)⟩
 generalize hq:q/26%sz=a at E;obtain ⟨c1,Q,_⟩:=sh (z:=l) (i:=a) E.1 (by omega);have hA:=cY (L9 l none (some a)) (jjR a l.length (by omega));have hB:=cY (L9 l (some (a+1)) none) (jjS (a+1) l.length (by omega))
 obtain ⟨aep,l2,o,k2,s2,rfl,_,U,Y⟩:=WQ (body:=qG (gN 4) (ap (jr 7 (al (ae 1) (al (al (Bi (ae 1) (jb (al (ae 3) (ae 5) aG) ag) Bj) (al (cI 7) (ae 4) f6) aX) (cI 26) bf) aG))
  (jY 6 (al (al (qp (ae 3) wP (zI (ae 5)) eW) (ae 7) aX) (qp (ae 3) (zI (al (ae 5) (cI 1) aX)) wP eW) aX))))
  (λv p=> ∃(o:List Str) (k s:Slot),p=sk q sz l k (.ah (.int a)) (.aw (.ai (o.map .str))) s/\(∀d∈v,∃k:Int,d= .int k/\0<=k/\k<0+(4:Nat))/\o.length+v.length=4/\ ∀z∈o,isNm (.str z)=true)
  (by
   rintro d v p ⟨o,k,s,rfl,I,O,U⟩;obtain ⟨j,rfl,hj0,hj1⟩:=I d (by simp)
   have hm:mo 7 j:=by
     have:j=0\/j=1\/j=2\/j=3:=by omega
     rcases this with rfl|rfl|rfl|rfl<;>decide
   obtain ⟨c,y,r⟩:=sh (z:=i6) (i:=(Txt.find i6 (⟨#[c1]⟩:Str)+7*j)%26) (by omega) (by rw [Ma];omega);simp only [bO] at O;have h1:(cW l none (some a)++(⟨#[c]⟩:Str)).length=(cW l none (some a)).length+1:=strLen_append _ _;have h2:((cW l none (some a)++(⟨#[c]⟩:Str))++cW l (some (a+1)) none).length=(cW l none (some a)++(⟨#[c]⟩:Str)).length+(cW l (some (a+1)) none).length:=strLen_append _ _;have H:20<=aS:=by decide
   refine ⟨sk q sz l (.ah (.int j)) (.ah (.int a)) (.aw (.ai ((o++[(cW l none (some a)++(⟨#[c]⟩:Str))++cW l (some (a+1)) none]).map .str))) (.ah (.str ⟨#[c]⟩)),?_,_,_,_,rfl,λe he=>I e (by simp [he]),by simp only [cP,bO,dY];omega,?_⟩
   . refine (qU rfl).trans ((jj (jA (jh rfl (jh (jh (RG rfl (jc (jh rfl rfl Q) rfl) rfl) (jh rfl rfl (D6 hm)) rfl) rfl rfl) y))).trans ((ZE rfl (jh (jh (wz rfl rfl (wy rfl) rfl) rfl (jl (cY (show _+1<=20 by omega) H))) (wz rfl (wy (jh rfl rfl rfl)) rfl rfl) (jl (by omega))) (by rw [dc];omega)).trans ?_));rw [rH];rfl
   . intro z hz;rcases j0.mp hz with h|h
     . exact U z h
     . simp only [bJ,eE,or_false] at h;rw [h]
       exact jhz (by omega) (by omega) (kR (kR (L7 _ _ w) (L8 r)) (L7 _ _ w)))
  (zX 0 4) (sk q sz l L (.ah (.int a)) (.aw (.ai [])) .un) ⟨[],L,.un,rfl,λd I=>RI I,rfl,λ_ h=>by cases h⟩
 refine ⟨o,qQ ?_,by simpa using U,Y⟩;refine (jj rfl).trans ((jj (env':=[.ah (.int m),.ah (.str i6),.ah (.int sz),.un,.un,.un,.un,.un]) (by rw [<-J];rfl)).trans ((jj rfl).trans ((jj ((wH (by exact jl (by omega))).trans l1)).trans ?_)));refine (jj (env':=sk q sz l L (.ah (.int a)) .un .un) (by rw [<-hq];exact jA (jh rfl rfl (YB (by omega))))).trans ((jj rfl).trans ((jj ((wH rfl).trans l2)).trans rfl))
abbrev dh (a c d e:Str):D:= .ai ([a,c,d,e].map .str)
abbrev dq (a c d e:Str):List Str:=[a,c,d,e]
structure Lt (ns:List Str) (r:Nat) (t:D):Prop where
 tk:tk ns t=true
 h:bz t<=r
 n:num t<2^r
 b: ∀x∈dS t,0<=x/\x<=2
variable {n0 n1 n2 n3:Str}
def M0 {z:Str} (c:z∈dq n0 n1 n2 n3) (r:Nat):Lt (dq n0 n1 n2 n3) (r+1) (.ak [.str z]):=
 ⟨Q3 c (by simp) (λt d=>by cases d),by rw [jZ];simp [bi],by rw [qe];simp [nums],λx a=>by rw [zQ] at a;simp [dH] at a⟩
theorem wb: ∀(n r:Nat) (m:Int),r+1<=n-> ∃t z,jV n [.int m,dh n0 n1 n2 n3,.int ((r+1:Nat):Int)]= .ok (.ak [t,.int z])/\Lt (dq n0 n1 n2 n3) (r+1) t
 |0,r,m,h=>by omega
 |n+1,r,m,h=>by
  let E:Int->Slot->Slot->Sl:=λk a b=>[.ah (.int (m/6)),.ah (dh n0 n1 n2 n3),.ah (.int ((r+1:Nat):Int)),.ah (.int k),a,b]
  obtain ⟨k,B,o,e⟩: ∃k:Int,(0<=k/\k<=5)/\(r=0->k<=3)/\ ∀g:Sl->ao aW,ap (jr 3 (al (ae 0) (cI 6) bf)) (ap (jr 0 (al (ae 0) (cI 6) iU)) (ap (bu (aO (al (ae 2) (cI 1) ce)) (jr 3 (al (ae 3) (cI 4) bf)) bo) g)) (j4 6 [.int m,dh n0 n1 n2 n3,.int ((r+1:Nat):Int)])=g (E k .un .un):=by
    cases r with
    |zero=>exact ⟨m%6%4,by omega,λ_=>by omega,λg=>(jj rfl).trans ((jj rfl).trans (jj rfl))⟩
    |succ r=>exact ⟨m%6,by omega,λh=>by omega,λg=>(jj rfl).trans ((jj rfl).trans (jj ((dG ((jC (jh rfl rfl JK)).trans rfl)).trans rfl)))⟩
  have p:aO (al (ae 3) (cI 2) ltI) (E k .un .un)= .ok (decide (k<2)):=jC (jh rfl rfl rfl);have H:aO (al (ae 3) (cI 4) ltI) (E k .un .un)= .ok (decide (k<4)):=jC (jh rfl rfl rfl)
  by_cases q:k<2
  . refine ⟨.int (m/6%3),m/6/3,qQ ((e _).trans (xJ ((cu (p.trans (by rw [decide_eq_true q]))).trans rfl))),rfl,by simp [bz],by simp only [num];exact Nat.one_lt_two_pow (by omega),λx c=>by rw [jio] at c;simp only [bJ,eE,or_false] at c;omega⟩
  . by_cases I:k<4
    . have:k=2\/k=3:=by omega
      rcases this with rfl|rfl
      . exact ⟨.ak [.str n0],m/6,qQ ((e _).trans rfl),M0 (by simp) r⟩
      . exact ⟨.ak [.str n1],m/6,qQ ((e _).trans rfl),M0 (by simp) r⟩
    . obtain ⟨r,rfl⟩: ∃J,r=J+1:=⟨r-1,by cases r with|zero=>have:=o rfl;omega|succ r=>simp⟩
      obtain ⟨i,j,e1,d⟩:=wb n r (m/6) (by omega);have Q:2^(r+1+1)=2*2^(r+1):=by rw [Nat.pow_succ];omega
      have U:=d.n;have Y:=d.h;have u: ∀ {x:Int} {a b:Slot} {k:Int},jV n [.int x,dh n0 n1 n2 n3,.int ((r+1:Nat):Int)]=jV n [.int x,dh n0 n1 n2 n3,.int (((r+1+1:Nat):Int)-1)]:=λ{x a b k}=>by rw [show (((r+1+1:Nat):Int)-1)=((r+1:Nat):Int) by omega]
      have v:fZ (jk 3 (jV n) (jb (ae 0) (jb (ae 1) (jb (al (ae 2) (cI 1) ii) ag)))) (g2 (gN 4) (gN 0)) (E k .un .un)= .ok (.nx [.ah (.int j),.ah (dh n0 n1 n2 n3),.ah (.int ((r+1+1:Nat):Int)),.ah (.int k),.ah i,.un]):=
        (K8 (jn (ds:=[.int (m/6),dh n0 n1 n2 n3,.int (((r+1+1:Nat):Int)-1)]) (jc rfl (jc rfl (jc (jh rfl rfl rfl) rfl))) rfl ((u (a:= .un) (b:= .un) (k:=0)).symm.trans e1))).trans rfl
      have pre: ∀g:Sl->ao aW,ap (bu (aO (al (ae 3) (cI 2) ltI)) (aJ (aN (jb (al (ae 0) (cI 3) bf) (jb (al (ae 0) (cI 3) iU) ag)))) bo) (ap (bu (aO (al (ae 3) (cI 4) ltI)) (aJ (aN (jb (aN (jb (al (ae 1) (al (ae 3) (cI 2) ii) aG) ag)) (jb (ae 0) ag)))) bo) g) (E k .un .un)=g (E k .un .un):=λg=>(jj (cb (p.trans (by rw [decide_eq_false q])))).trans (jj (cb (H.trans (by rw [decide_eq_false I]))))
      have:k=4\/k=5:=by omega
      rcases this with rfl|rfl
      . refine ⟨.ak [.str n2,i],j,qQ ((e _).trans ((pre _).trans ((jj v).trans rfl))),Q3 (by simp) (by simp) λt l=>by simp only [bJ,eE,or_false] at l;rw [l];exact d.tk,by rw [jZ];simp only [bi];omega,by rw [qe];simp only [nums];omega,λx c=>by rw [zQ] at c;simp only [dH,fN] at c;exact d.b x c⟩
      . obtain ⟨w,y,e2,g2⟩:=wb n r j (by omega);have L:=g2.n;have N:=g2.h
        have O:fZ (jk 3 (jV n) (jb (ae 0) (jb (ae 1) (jb (al (ae 2) (cI 1) ii) ag)))) (M.g2 (gN 5) (gN 0)) [.ah (.int j),.ah (dh n0 n1 n2 n3),.ah (.int ((r+1+1:Nat):Int)),.ah (.int 5),.ah i,.un]= .ok (.nx [.ah (.int y),.ah (dh n0 n1 n2 n3),.ah (.int ((r+1+1:Nat):Int)),.ah (.int 5),.ah i,.ah w]):=
         (K8 (jn (ds:=[.int j,dh n0 n1 n2 n3,.int (((r+1+1:Nat):Int)-1)]) (jc rfl (jc rfl (jc (jh rfl rfl rfl) rfl))) rfl ((u (a:= .un) (b:= .un) (k:=0)).symm.trans e2))).trans rfl
        refine ⟨.ak [.str n3,i,w],y,qQ ((e _).trans ((pre _).trans ((jj v).trans ((jj (cb rfl)).trans ((jj O).trans rfl))))),Q3 (by simp) (by simp) λt l=>by simp only [bJ,eE,or_false] at l;rcases l with rfl|rfl;exact d.tk;exact g2.tk,by rw [jZ];simp only [bi];omega,by rw [qe];simp only [nums];omega,λx c=>by
         rw [zQ] at c;simp only [dH,fN] at c;rcases j0.mp c with h|h
         . exact d.b x h
         . exact g2.b x h⟩
end
section
theorem vh {m p:Type} {n:Nat} {t:TZ} {c:T3} {r:T4} (mk:p->List D->Sl) (i:m->D) (st:m->p) (b:m->Bool) (h:m->D) (u: ∀x s d,t (i x) (mk s d)= .ok (mk (st x) d)) (v: ∀s d,dw n (mk s d)= .ok d) (w: ∀s d l,(mk s d).set n (.aw (.ai l))=mk s l):
  ∀(j:List m) (s:p) (d:List D),(∀x∈j,∀d,c (mk (st x) d)= .ok (b x))->(∀x∈j,∀d,r (mk (st x) d)= .ok (h x))->d.length+j.length<=aS-> ∃o,xa n t c r (j.map i) (mk s d)= .ok (mk o (d++(j.filter b).map h))
 | [],s,d,_,_,_=>⟨s,by simp only [List.filter_nil,q7,fN];rfl⟩
 |x::j,s,d,z,B,H=>by
  simp only [bO] at H;have E:=λa=>vh mk i st b h u v w j (st x) a (λy q=>z y (fM _ q)) (λy q=>B y (fM _ q))
  show∃o,(t (i x) (mk s d)>>=_)=_;rw [u,qy,z x iC,qy,List.filter_cons]
  cases b x with
  |false=>rw [if_neg eh,if_neg eh];exact E d (by omega)
  |true=>
   rw [if_pos rfl,if_pos rfl,B x iC,qy,v,qy,jl (by omega),w];obtain ⟨o,e⟩:=E (d++[h x]) (by rw [cP];simp only [bO,dY];omega);exact ⟨o,by rw [e,cL,hJ];rfl⟩
def jil {j:T1} {c:T3} {l:T4} {i:Sl} {d:List D} (b:D->Bool) (h:D->D) (m:j i= .ok d) (o: ∀x∈d,∀a,c [.ah x,.aw (.ai a)]= .ok (b x)) (p: ∀x∈d,∀a,l [.ah x,.aw (.ai a)]= .ok (h x)) (q:d.length<=10000):qv false 1 [] j (gN 0) c l i= .ok (.ai ((d.filter b).map h)):=by
 obtain ⟨r,e⟩:=vh (n:=1) (t:=gN 0) (λ(s:Slot) a=>[s,.aw (.ai a)]) id .ah b h (λ_ _ _=>rfl) (λ_ _=>rfl) (λ_ _ _=>rfl) d .un [] o p (jt (by simp only [dY];omega));rw [List.map_id] at e;show (j i>>=_)=_;rw [m];show (xa 1 (gN 0) c l d [.un,.aw (.ai [])]>>=_)=_;rw [e];exact jl (c:=false=true->D.dQ ((d.filter b).map h)=true) λz=>by cases z
def M3 {i:T1} {c:T3} {j:T4} {d:Sl} {ps:List (D×D)} (b:D×D->Bool) (h:D×D->D) (l:i d= .ok (ps.map rl)) (m: ∀x∈ps,∀a,c [.ah x.1,.ah x.2,.aw (.ai a)]= .ok (b x)) (o: ∀x∈ps,∀a,j [.ah x.1,.ah x.2,.aw (.ai a)]= .ok (h x)) (p:ps.length<=10000):qv false 2 [] i (g2 (gN 0) (gN 1)) c j d= .ok (.ai ((ps.filter b).map h)):=by
 obtain ⟨q,e⟩:=vh (n:=2) (t:=g2 (gN 0) (gN 1)) (λ(s:Slot×Slot) a=>[s.1,s.2,.aw (.ai a)]) rl (λx=>(.ah x.1,.ah x.2)) b h (λ_ _ _=>rfl) (λ_ _=>rfl) (λ_ _ _=>rfl) ps (.un,.un) [] m o (jt (by simp only [dY];omega));show (i d>>=_)=_;rw [l];show (xa 2 (g2 (gN 0) (gN 1)) c j (ps.map rl) [.un,.un,.aw (.ai [])]>>=_)=_;rw [e];exact jl (c:=false=true->D.dQ ((ps.filter b).map h)=true) λz=>by cases z
variable {ns:List Str}
def Cb {fi:T1} {env:Sl} {t:D} (a:tk ns t=true) (d:num t<=1000) (c:fi env= .ok ((bP t).map i8)):qv false 2 [] fi (g2 (gN 0) (gN 1)) qi (ae 1) env= .ok (.ai (bv t)):=by
 rw [M3 (ps:=(bP t).map λp=>(jJ p.1,p.2)) (λ_=>true) (·.2) (by rw [c,mR];rfl) (λ_ _ _=>rfl) (λ_ _ _=>rfl) (by rw [dc,ZY];omega),List.filter_eq_self.mpr (λ_ _=>rfl),mR,<-Xh t a];rfl
def WP {a:List D} {x:Int}:x∈dH a↔ ∃u∈a,x∈dS u:=by rw [UR,yr]
def jg0: ∀t,tk ns t=true-> ∀q∈bP t,∀x∈dS q.2,x∈dS t:=qV (λi q hq=>by
   rw [QH] at hq;simp only [bJ,eE,or_false] at hq;subst hq;exact λx h=>h) λz e _ _ h q hq x a=>by
 rcases bJ.mp hq with rfl|hq
 . exact a
 . obtain ⟨j,u,p,c,d,rfl⟩:=Q9 hq;rw [zQ,WP];exact ⟨u,QK c,(h u (QK c)).2 p d x a⟩
def jin {c:Int->D}: ∀t,tk ns t=true-> ∀x∈dS (sub c t),∃i∈dS t,x∈dS (c i):=qV (λi x a=>⟨i,by simp [dS],by rw [sub_int] at a;exact a⟩) λz l _ _ h x a=>by
 rw [ZM,zQ,WP] at a;obtain ⟨u,e,a⟩:=a;obtain ⟨v,d,rfl⟩:=gO.mp e;obtain ⟨i,j,a⟩:=(h v d).2 x a;exact ⟨i,by rw [zQ,WP];exact ⟨v,d,j⟩,a⟩
def M4 {c:List D} {d:D} (h: ∀x∈c,Se 60 x) (e:Se 60 d):gC (.ai c) d= .ok (.int (r8 c d)):=by
 obtain ⟨a,b⟩:=yL c h;exact jl ⟨a,e.1,by omega⟩
def GD {t:D} (a:tk ns t=true) (h:bz t<=60): ∀u∈bv t,Se 60 u/\tk ns u=true:=λu c=>by
 rw [<-Xh t a] at c;obtain ⟨q,d,rfl⟩:=gO.mp c;have:=(ZX t a q d).2;have e:=(wA t a q d).2.2;exact ⟨tz e (by omega),e⟩
def jjW {l r:D} (a:Ok ns l) (c:Ok ns r): ∃b,wL [l,r]= .ok (.bl b):=by
 have y:=Z5 64 l a.1 (by have:=a.2;omega) (by have:=a.2;omega) a.2.2;have z:=Z5 64 r c.1 (by have:=c.2;omega) (by have:=c.2;omega) c.2.2;have B:=GD a.1 a.2.1;have v:=GD c.1 c.2.1
 have p: ∀(i:List D) (u:Slot),(∀d∈i,Se 60 d/\tk ns d=true)->(∃b,a5 (qG (gN 4) (bu (ek (a6 (aO (a7 "tuple" (ae 4)))) (aO (al (al (ae 3) (ae 4) gC) (al (cy 2) (ae 4) gC) gw))) (aJ (cB true)) bo)) i [.ah l,.ah r,.aw (.ai (bv l)),.ah (.ai (bv r)),u]= .ok (.rt true (.bl b)))\/ ∃m,a5 (qG (gN 4) (bu (ek (a6 (aO (a7 "tuple" (ae 4)))) (aO (al (al (ae 3) (ae 4) gC) (al (cy 2) (ae 4) gC) gw))) (aJ (cB true)) bo)) i [.ah l,.ah r,.aw (.ai (bv l)),.ah (.ai (bv r)),u]= .ok (.nx [.ah l,.ah r,.aw (.ai (bv l)),.ah (.ai (bv r)),m]):=by
   intro i
   induction i with
   |nil=>exact λu _=> .inr ⟨u,rfl⟩
   |cons d i E=>
     intro u h;obtain ⟨w,H⟩:=h d iC;have n:ek (a6 (aO (a7 "tuple" (ae 4)))) (aO (al (al (ae 3) (ae 4) gC) (al (cy 2) (ae 4) gC) gw)) [.ah l,.ah r,.aw (.ai (bv l)),.ah (.ai (bv r)),.ah d]=_:=YT (zc (jC (by rw [wn];exact Wo H))) (jC (jh (jh rfl rfl (M4 (λx j=>(v x j).1) w)) (jh rfl rfl (M4 (λx j=>(B x j).1) w)) rfl));generalize ((!oS d)&&_)=b at n
     cases b with
     |true=>exact .inl ⟨true,Ro ((qU rfl).trans ((cu n).trans rfl))⟩
     |false=>
      rcases E (.ah d) λx j=>h x (fM _ j) with ⟨b,e⟩| ⟨m,e⟩
      . exact .inl ⟨b,(qf ((qU rfl).trans (cb n))).trans e⟩
      . exact .inr ⟨m,(qf ((qU rfl).trans (cb n))).trans e⟩
 have I:=Cb (fi:=b9 (jk 1 (jH 64) (jb (ae 0) ag))) (env:=[.ah l,.ah r,.un,.un,.un]) a.1 a.2.2 (y9 (jn (jc rfl rfl) rfl y) rfl);have J:=Cb (fi:=b9 (jk 1 (jH 64) (jb (ae 1) ag))) (env:=[.ah l,.ah r,.aw (.ai (bv l)),.un,.un]) c.1 c.2.2 (y9 (jn (jc rfl rfl) rfl z) rfl);have pre: ∀ {o:ao aW} {g:T2},g [.ah l,.ah r,.aw (.ai (bv l)),.aw (.ai (bv r)),.un]=o->ap (b8 2 (qv false 2 [] (b9 (jk 1 (jH 64) (jb (ae 0) ag))) (g2 (gN 0) (gN 1)) qi (ae 1))) (ap (b8 3 (qv false 2 [] (b9 (jk 1 (jH 64) (jb (ae 1) ag))) (g2 (gN 0) (gN 1)) qi (ae 1))) g) [.ah l,.ah r,.un,.un,.un]=o:=λh=>(jj (Qt I)).trans ((jj (Qt J)).trans h)
 have q:aO (al (app (jb (cy 3) ag) aT) (app (jb (cy 2) ag) aT) gw) [.ah l,.ah r,.aw (.ai (bv l)),.aw (.ai (bv r)),.un]= .ok (decide (((bv l).length:Int)< ((bv r).length:Int))):=jC (jh (qC (jc rfl rfl) rfl) (qC (jc rfl rfl) rfl) rfl)
 by_cases h:((bv l).length:Int)< ((bv r).length:Int)
 . exact ⟨true,qQ (pre (xJ ((cu (q.trans (by rw [decide_eq_true h]))).trans rfl)))⟩
 . rcases p (bv r) .un v with ⟨b,e⟩| ⟨m,e⟩
   . exact ⟨b,qQ (pre ((jj (cb (q.trans (by rw [decide_eq_false h])))).trans (xJ ((wH rfl).trans e))))⟩
   . exact ⟨false,qQ (pre ((jj (cb (q.trans (by rw [decide_eq_false h])))).trans ((jj ((wH rfl).trans e)).trans rfl)))⟩
end
section
variable {n0 n1 n2 n3:Str}
structure Rr (ns:List Str) (l r:D) (B:Nat):Prop where
 tk:tk ns r=true
 h:bz r<=B
 n:num r<=B
 b: ∀x∈dS r,x∈dS l
abbrev pL (m:Int) (a l P V r:D) (c d:Slot):Sl:=[.ah (.int m),.ah a,.ah (.int 2),.ah l,.ah P,.ah V,.ah r,c,d]
def so (d:D):Bool:=!oS d
def Cc {P:List D} (h:P≠[]) (i:Int): ∃u∈P,aG (.ai P) (.int (i%(P.length:Int)))= .ok u:=by
 have c:0<P.length:=tx.mpr h;have d:0<=i%(P.length:Int):=Int.emod_nonneg _ (by omega);have e:i%(P.length:Int)<P.length:=Int.emod_lt_of_pos _ (by omega);obtain ⟨k,a⟩: ∃k:Nat,i%(P.length:Int)=(k:Int):=⟨(i%(P.length:Int)).toNat,by omega⟩
 rw [a];exact ⟨P[k]'(by omega),nY _,oU (cU (by omega))⟩
def jlf {f0 f1 f2:T4} {env:Sl} {d0 a d2:D} (c:f0 env= .ok d0) (e:f1 env= .ok a) (h:f2 env= .ok d2) (i:D.dQ [d0,a,d2]=true):By [(0,f0),(1,f1),(2,f2)] env= .ok (.aP [.inl 0,.inl 1,.inl 2] [d0,a,d2]):=by
 show ((f0 env>>=λd=>(f1 env>>=λd=>(f2 env>>=_)>>=_)>>=_)>>=_)=_;rw [c,qy,e,qy,h];exact jl ⟨i,(by decide:([.inl 0,.inl 1,.inl 2]:List aQ).Nodup),(by decide:3<=15)⟩
def Yt (hz: ∀z∈dq n0 n1 n2 n3,isNm (.str z)=true) (m:Int): ∃l r,y7 [.int m,dh n0 n1 n2 n3,.int 2]= .ok (.ak [l,r])/\Ru (dq n0 n1 n2 n3) l r:=by
 obtain ⟨B,m1,e1,g1⟩:=wb (n0:=n0) (n1:=n1) (n2:=n2) (n3:=n3) 6 1 m (by omega);obtain ⟨t2,m2,e2,g2⟩:=wb (n0:=n0) (n1:=n1) (n2:=n2) (n3:=n3) 6 1 (m1/3) (by omega);have a1:=g1.n;have a2:=g2.n;have b1:=g1.h;have b2:=g2.h
 obtain ⟨z,E,n,I,hzz,O,tw,rK,hE⟩: ∃(z:Str) (E:List D) (n:Int) (I:Slot),z∈dq n0 n1 n2 n3/\(E≠[]/\E.length<=9)/\(∀t∈E,Lt (dq n0 n1 n2 n3) 2 t)/\(bi E<=2/\nums E<=6)/\ ∀g:Sl->ao aW,ap (fZ (jk 3 (jV 6) (jb (ae 0) (jb (ae 1) (jb (ae 2) ag)))) (M.g2 (gN 7) (gN 0))) (ap (jr 3 (aN (jb (al (ae 1) (cI 2) aG) (jb (ae 7) ag)))) (ap (bu (aO (al (al (ae 0) (cI 3) bf) (cI 0) gw)) (ap (fZ (jk 3 (jV 6) (jb (al (ae 0) (cI 3) bZ) (jb (ae 1) (jb (ae 2) ag)))) (M.g2 (gN 8) (gN 0))) (jr 3 (aN (jb (al (ae 1) (cI 3) aG) (jb (ae 7) (jb (ae 8) ag)))))) bo) g)) (j4 9 [.int m,dh n0 n1 n2 n3,.int 2])=g [.ah (.int n),.ah (dh n0 n1 n2 n3),.ah (.int 2),.ah (.ak (.str z::E)),.un,.un,.un,.ah B,I]:=by
  have s1:fZ (jk 3 (jV 6) (jb (ae 0) (jb (ae 1) (jb (ae 2) ag)))) (M.g2 (gN 7) (gN 0)) (j4 9 [.int m,dh n0 n1 n2 n3,.int 2])= .ok (.nx [.ah (.int m1),.ah (dh n0 n1 n2 n3),.ah (.int 2),.un,.un,.un,.un,.ah B,.un]):=(K8 (jn (jc rfl (jc rfl (jc rfl rfl))) rfl e1)).trans rfl;have H:aO (al (al (ae 0) (cI 3) bf) (cI 0) gw) [.ah (.int m1),.ah (dh n0 n1 n2 n3),.ah (.int 2),.ah (.ak [.str n2,B]),.un,.un,.un,.ah B,.un]= .ok (decide (0<m1%3)):=jC (jh (jh rfl rfl rfl) rfl rfl)
  by_cases h3:0<m1%3
  . refine ⟨n3,[B,t2],m2,.ah t2,by simp,by simp,λt H=>by simp only [bJ,eE,or_false] at H;rcases H with rfl|rfl;exact g1;exact g2,by simp only [bi,nums];omega,λg=>(jj s1).trans ((jj rfl).trans ((jj ((cu (H.trans (by rw [decide_eq_true h3]))).trans ?_)).trans rfl))⟩;exact (jj (K8 (jn (jc (jh rfl rfl rfl) (jc rfl (jc rfl rfl))) rfl e2))).trans rfl
  . exact ⟨n2,[B],m1,.un,by simp,by simp,λt H=>by simp only [bJ,eE,or_false] at H;rw [H];exact g1,by simp only [bi,nums];omega,λg=>(jj s1).trans ((jj rfl).trans (jj (cb (H.trans (by rw [decide_eq_false h3])))))⟩
 have o:tk (dq n0 n1 n2 n3) (.ak (.str z::E))=true:=Q3 hzz O.2 λt H=>(tw t H).tk
 have hh:=jZ z E;have hn:=qe z E
 have hbl: ∀x∈dS (.ak (.str z::E)),0<=x/\x<=2:=λx j=>by
  rw [zQ,WP] at j;obtain ⟨u,hu,j⟩:=j;exact (tw u hu).b x j
 generalize hl:D.ak (.str z::E)=l at*;have aY:Ok (dq n0 n1 n2 n3) l:=⟨o,by omega,by omega⟩
 obtain ⟨P,Q,hP,U⟩: ∃P:List D,P≠[]/\bv l=l::P/\ ∀u∈P,Rr (dq n0 n1 n2 n3) l u 8:=by
  obtain ⟨P,hP⟩: ∃P,bv l=l::P:=⟨(eA 0 E).map (·.2),by rw [<-Xh l o,<-hl,Xg];rfl⟩
  refine ⟨P,?_,hP,λu hu=>?_⟩
  . rintro rfl;have:=QG l;rw [hP] at this
    cases E with
    |nil=>exact O.1 rfl
    |cons t r=>simp only [bO,dY,nums] at this hn;have:=kI t;omega
  . have:u∈bv l:=by rw [hP];exact fM _ hu
    rw [<-Xh l o] at this;obtain ⟨q,hq,rfl⟩:=gO.mp this;have:=ZX l o q hq;exact ⟨(wA l o q hq).2.2,by omega,by omega,jg0 l o q hq⟩
 have hPl:P.length<=7:=by
  have:=QG l;rw [hP] at this;simp only [bO] at this;omega
 have pl:=Z5 64 l o (by omega) (by omega) (by omega)
 let N:Int:=n/3
 let V:List D:=P.filter so++[.ak [.str n0]]
 have J: ∀v∈V,tk (dq n0 n1 n2 n3) v=true/\bz v=1/\num v=1/\ ∀x∈dS v,x∈dS l:=λv hv=>by
  rcases j0.mp hv with h|h
  . obtain ⟨h1,h2⟩:=List.mem_filter.mp h;have r:=U v h1;rcases j7 r.tk with ⟨i,rfl⟩| ⟨w,us,rfl,_⟩
    . exact ⟨r.tk,by simp [bz],by simp [num],r.b⟩
    . cases h2
  . simp only [bJ,eE,or_false] at h;subst h;exact ⟨Q3 (by simp) (by simp) (λt H=>by cases H),by rw [jZ];rfl,by rw [qe];rfl,λx j=>by rw [zQ] at j;simp [dH] at j⟩
 have y:V≠[]:=by simp [V]
 obtain ⟨p,hpm,hp⟩:=Cc Q (N/4);have a:=U p hpm
 obtain ⟨r,hr,hR⟩: ∃r,Rr (dq n0 n1 n2 n3) l r 9/\ ∀g:Sl->ao aW,ap (bu (aO (al (al (ae 0) (cI 4) bf) (cI 1) ce)) (jr 6 (aN (jb (al (ae 1) (cI 2) aG) (jb (ae 6) ag)))) bo) (ap (bu (aO (al (al (ae 0) (cI 4) bf) (cI 1) gw)) (ap (jr 6 (al (jk 3 (jV 6) (jb (al (ae 0) (cI 4) bZ) (jb (ae 1) (jb (al (ae 2) (cI 1) aX) ag)))) (cI 0) aG)) (jr 6 (jk 2 (qO 64) (jb (ae 6) (jb (By [(0,(al (ae 5) (cI 0) aG)),(1,(al (ae 5) (iT (cI 1)) aG)),(2,(al (ae 5) (al (app (jb (ae 5) ag) aT) (cI 2) bZ) aG))]) ag))))) bo) g) (pL N (dh n0 n1 n2 n3) l (.ai P) (.ai V) p (.ah B) I)=g (pL N (dh n0 n1 n2 n3) l (.ai P) (.ai V) r (.ah B) I):=by
  have q1: ∀x,aO (al (al (ae 0) (cI 4) bf) (cI 1) ce) (pL N (dh n0 n1 n2 n3) l (.ai P) (.ai V) x (.ah B) I)= .ok (N%4==1):=λx=>jC (jh (jh rfl rfl rfl) rfl JK)
  have q2: ∀x,aO (al (al (ae 0) (cI 4) bf) (cI 1) gw) (pL N (dh n0 n1 n2 n3) l (.ai P) (.ai V) x (.ah B) I)= .ok (decide (1<N%4)):=λx=>jC (jh (jh rfl rfl rfl) rfl rfl)
  by_cases h1:N%4=1
  . refine ⟨.ak [.str n2,p],⟨Q3 (by simp) (by simp) λt H=>by simp only [bJ,eE,or_false] at H;rw [H];exact a.tk,?_,?_,λx j=>by rw [zQ] at j;simp only [dH,fN] at j;exact a.b x j⟩,λg=>(jj ((cu ((q1 p).trans (by rw [h1];rfl))).trans rfl)).trans (jj (cb ((q2 _).trans (by rw [h1];rfl))))⟩
    . rw [jZ];simp only [bi];have:=a.h;omega
    . rw [qe];simp only [nums];have:=a.n;omega
  . have f1:(N%4==1)=false:=by simpa using h1
    by_cases h2:1<N%4
    . obtain ⟨t3,m3,e3,L⟩:=wb (n0:=n0) (n1:=n1) (n2:=n2) (n3:=n3) 6 2 (N/4) (by omega)
      obtain ⟨d0,v0,x0⟩: ∃d∈V,aG (.ai V) (.int 0)= .ok d:=by
        obtain ⟨d,h,e⟩:=Cc y 0;exact ⟨d,h,by rw [Int.zero_emod] at e;exact e⟩
      obtain ⟨d2,v2,x2⟩: ∃d∈V,aG (.ai V) (.int ((V.length:Int)/2))= .ok d:=by
        obtain ⟨d,h,e⟩:=Cc y ((V.length:Int)/2);have:=tx.mpr y;exact ⟨d,h,by rw [Int.emod_eq_of_lt (by omega) (by omega)] at e;exact e⟩
      have x1:aG (.ai V) (.int (-1))= .ok (V.getLast y):=MF (List.getLast?_eq_some_getLast y);have v1:V.getLast y∈V:=List.getLast_mem y;generalize V.getLast y=d1 at x1 v1
      have hd: ∀d∈[d0,d1,d2],d∈V:=λd h=>by
        simp only [bJ,eE,or_false] at h;rcases h with rfl|rfl|rfl<;>assumption
      have Y:=λx=>jlf (f0:=al (ae 5) (cI 0) aG) (f1:=al (ae 5) (iT (cI 1)) aG) (f2:=al (ae 5) (al (app (jb (ae 5) ag) aT) (cI 2) bZ) aG) (env:=pL N (dh n0 n1 n2 n3) l (.ai P) (.ai V) x (.ah B) I) (jh rfl rfl x0) (jh rfl rfl x1) (jh rfl (jh (qC (jc rfl rfl) rfl) rfl rfl) x2) (by simp only [D.dQ,uh _ (J _ v0).1,uh _ (J _ v1).1,uh _ (J _ v2).1,Bool.and_self])
      have hf:=Gz (ks:=[.inl 0,.inl 1,.inl 2]) (ds:=[d0,d1,d2]) rfl 64 t3 L.tk (by have:=L.h;omega)
      have lk: ∀i,num (look [.inl 0,.inl 1,.inl 2] [d0,d1,d2] i)<=1:=λi=>by
        unfold look
        cases e:bB [.inl 0,.inl 1,.inl 2] [d0,d1,d2] (.inl i) with
        |none=>simp [num]
        |some d=>exact AO (J d (hd d (YX e))).2.2.1
      refine ⟨_,⟨Gk (jhv λd h=>(J d (hd d h)).1) t3 L.tk,cY (Mh (jeQ (br 1) λd h=>AO (J d (hd d h)).2.1) t3 L.tk) (by have:=L.h;omega),cY (Ms (br 1) lk t3 L.tk) (by have:=L.n;omega),λx j=>?_⟩,λg=>(jj (cb ((q1 p).trans (by rw [f1])))).trans (jj ((cu ((q2 p).trans (by rw [decide_eq_true h2]))).trans ((jj (jA (jh (jn (jc (jh rfl rfl rfl) (jc rfl (jc (jh rfl rfl rfl) rfl))) rfl e3) rfl fu))).trans (jA (jn (jc rfl (jc (Y t3) rfl)) rfl hf)))))⟩;obtain ⟨i,hi,j⟩:=jin t3 L.tk x j;have:=L.b i hi;have:i=0\/i=1\/i=2:=by omega
      rcases this with rfl|rfl|rfl
      . exact (J d0 v0).2.2.2 x j
      . exact (J d1 v1).2.2.2 x j
      . exact (J d2 v2).2.2.2 x j
    . exact ⟨p,⟨a.tk,by have:=a.h;omega,by have:=a.n;omega,a.b⟩,λg=>(jj (cb ((q1 p).trans (by rw [f1])))).trans (jj (cb ((q2 p).trans (by rw [decide_eq_false h2]))))⟩
 have hp9:Rr (dq n0 n1 n2 n3) l p 9:=⟨a.tk,by have:=a.h;omega,by have:=a.n;omega,a.b⟩
 have fin: ∀ {u:D},Rr (dq n0 n1 n2 n3) l u 9->Ru (dq n0 n1 n2 n3) l u:=λ{u} h=>⟨o,h.tk,⟨z,E,hl.symm⟩,by omega,by have:=h.h;omega,by omega,by have:=h.n;omega,h.b,[0,1,2],by simp,by decide,λx j=>by have:=hbl x j;simp only [bJ,eE,or_false];omega⟩
 obtain ⟨b,hb⟩:=jjW aY (r:=r) ⟨hr.tk,by have:=hr.h;omega,by have:=hr.n;omega⟩;have he:=kY hr.tk o (by have:=hr.h;omega);have j:al (ae 4) (al (al (ae 0) (cI 4) bZ) (app (jb (ae 4) ag) aT) bf) aG (pL N (dh n0 n1 n2 n3) l (.ai P) (.ai V) r (.ah B) I)= .ok p:=jh rfl (jh (jh rfl rfl rfl) (qC (jc rfl rfl) rfl) (YB (by have:=tx.mpr Q;omega))) hp;have GF:fq (aO (jk 2 wL (jb (ae 3) (jb (ae 6) ag)))) (aO (al (ae 6) (ae 3) ce)) (pL N (dh n0 n1 n2 n3) l (.ai P) (.ai V) r (.ah B) I)=_:=Kg (jC (jn (jc rfl (jc rfl rfl)) rfl hb)) (jC (jh rfl rfl he))
 obtain ⟨u,hu,hU⟩: ∃u,Rr (dq n0 n1 n2 n3) l u 9/\ap (bu (fq (aO (jk 2 wL (jb (ae 3) (jb (ae 6) ag)))) (aO (al (ae 6) (ae 3) ce))) (jr 6 (al (ae 4) (al (al (ae 0) (cI 4) bZ) (app (jb (ae 4) ag) aT) bf) aG)) bo) (aJ (aN (jb (ae 3) (jb (ae 6) ag)))) (pL N (dh n0 n1 n2 n3) l (.ai P) (.ai V) r (.ah B) I)= .ok (.rt true (.ak [l,u])):=by
  generalize (b||_)=c at GF
  cases c with
  |true=>exact ⟨p,hp9,(jj ((cu GF).trans (jA j))).trans rfl⟩
  |false=>exact ⟨r,hr,(jj (cb GF)).trans rfl⟩
 refine ⟨l,u,qQ ((hE _).trans ?_),fin hu⟩;refine (jj (env':=[.ah (.int N),.ah (dh n0 n1 n2 n3),.ah (.int 2),.ah l,.un,.un,.un,.ah B,I]) rfl).trans ?_;refine (jj (jA (wz (Cb o (by omega) (y9 (jn (jc rfl rfl) rfl pl) rfl)) (wy rfl) rfl (show ao.ok (D.ai (cutD (bv l) (some 1) none))= .ok (.ai P) by rw [hP,nL])))).trans ?_;refine (jj (jA (jh (jil so id rfl (λx j acc=>zc (jC (by rw [wn];exact Wo (U x j).tk))) (λ_ _ _=>rfl) (by omega)) rfl (show aX (.ai _) (.ai [.ak [.str n0]])= .ok (.ai V) by rw [List.map_id];exact jl (jt (by have:=List.length_filter_le so P;simp only [bO,dY];omega)))))).trans ?_;refine (jj (jA (jh rfl (jh (jh rfl rfl rfl) (qC (jc rfl rfl) rfl) (YB (by have:=tx.mpr Q;omega))) hp))).trans ?_;exact (hR _).trans hU
structure Ch (ns:List Str) (k:Nat) (t:D):Prop where
 tk:tk ns t=true
 h:bz t<=k+1
 n:num t<=k+1
 b:dS t=[]
def Ch.up {ns:List Str} {z:Str} {k:Nat} {t:D} (hz:z∈ns) (c:Ch ns k t):Ch ns (k+1) (.ak [.str z,t]):=by
 have a:=c.h;have b:=c.n;exact ⟨Q3 hz (by simp) λu d=>by simp only [bJ,eE,or_false] at d;rw [d];exact c.tk,by rw [jZ];simp only [bi];omega,by rw [qe];simp only [nums];omega,by rw [zQ];simp only [dH,c.b,fN]⟩
def X0 {ns:List Str} {z w:Str} (m:z∈ns) (hw:w∈ns) (k:Nat) (p:k<=1000): ∃t,zV [.str z,.int (k:Int),.ak [.str w]]= .ok t/\Ch ns k t:=by
 have l: ∀(a:List D) (j:Nat) (x:D) (u:Slot),Ch ns j x-> ∃c y,a5 (qG (gN 3) (jr 2 (aN (jb (ae 0) (jb (ae 2) ag))))) a [.ah (.str z),.ah (.int (k:Int)),.ah x,u]= .ok (.nx [.ah (.str z),.ah (.int (k:Int)),.ah y,c])/\Ch ns (j+a.length) y:=by
  intro a
  induction a with
  |nil=>exact λj x u h=>⟨u,x,rfl,h⟩
  |cons d a n=>
   intro j x u h;obtain ⟨c,y,e,i⟩:=n (j+1) _ (.ah d) (h.up m);exact ⟨c,y,(qf rfl).trans e,by rw [bO,show j+(a.length+1)=j+1+a.length by omega];exact i⟩
 obtain ⟨c,y,e,i⟩:=l (zX 0 k) 0 (.ak [.str w]) .un ⟨Q3 hw (by simp) (λt o=>by cases o),by rw [jZ];simp [bi],by rw [qe];simp [nums],by rw [zQ];rfl⟩;rw [Uj,pi] at i;exact ⟨y,Xa ((jj ((wH ((HY (jc rfl rfl) (by omega)).trans (by rw [lP]))).trans e)).trans rfl),i⟩
def M5 (i:Int) (h:0<=i/\i<=300): ∃t,zt [dh n0 n1 n2 n3,.int i]= .ok t/\Ok (dq n0 n1 n2 n3) t:=by
 obtain ⟨t,e,c⟩:=X0 (ns:=dq n0 n1 n2 n3) (z:=n2) (w:=n0) (by simp) (by simp) (i/20).toNat (by omega);obtain ⟨u,j,a⟩:=X0 (ns:=dq n0 n1 n2 n3) (z:=n2) (w:=n0) (by simp) (by simp) (i%20).toNat (by omega);rw [Int.toNat_of_nonneg (by omega)] at e j;have m:=c.h;have n:=c.n;have o:=a.h;have p:=a.n;refine ⟨.ak [.str n3,t,u],qQ ((jj (jA (jn (ds:=[.str n2,.int (i/20),.ak [.str n0]]) (jc rfl (jc rfl (jc rfl rfl))) rfl e))).trans (qm (zJ (jc (d:= .str n3) rfl (jc (d:=t) rfl (jc (jn (ds:=[.str n2,.int (i%20),.ak [.str n0]]) (jc rfl (jc rfl (jc rfl rfl))) rfl j) rfl))) (jt (by simp))))),Q3 (by simp) (by simp) λv l=>by simp only [bJ,eE,or_false] at l;rcases l with rfl|rfl;exact c.tk;exact a.tk,by rw [jZ];simp only [bi];omega,by rw [qe];simp only [nums];omega⟩
def jdL: ∃i:List (D×D),xF [dh n0 n1 n2 n3]= .ok (.ai (i.map rl))/\Rs (dq n0 n1 n2 n3) i:=by
 obtain ⟨t,e,c⟩:=X0 (ns:=dq n0 n1 n2 n3) (z:=n2) (w:=n0) (by simp) (by simp) 19 (by omega);have n:=c.h;have o:=c.n;have d: ∀ {z:Str} {h:List D},z∈dq n0 n1 n2 n3->h.length<=9->(∀t∈h,tk (dq n0 n1 n2 n3) t=true)->tk (dq n0 n1 n2 n3) (.ak (.str z::h))=true:=λa b c=>Q3 a b c
 have j:tk (dq n0 n1 n2 n3) (.ak [.str n2,.int 9])=true:=d (by simp) (by simp) (by simp;rfl);have m:tk (dq n0 n1 n2 n3) (.ak [.str n0])=true:=d (by simp) (by simp) (by simp);refine ⟨[(.ak [.str n3,.int 4,.ak [.str n2,.int 9]],.ak [.str n3,.int 4,.int 9]),(.ak [.str n3,.ak [.str n2,.int 9],.ak [.str n0]],.ak [.str n3,.int 9,t])],qQ ((jj rfl).trans ((jj (jA (zJ (jc rfl (jc rfl (jc (jn (ds:=[.str n2,.int 19,.ak [.str n0]]) (jc rfl (jc rfl (jc rfl rfl))) rfl e) rfl))) (jt (by simp))))).trans rfl)),λp l=>?_,by simp⟩;simp only [bJ,eE,or_false] at l;rcases l with rfl|rfl
 . refine ⟨d (by simp) (by simp) (by simp [j];rfl),d (by simp) (by simp) (by simp;exact ⟨rfl,rfl⟩),⟨_,_,rfl⟩,?_,?_,?_,?_,?_,[4,9],by simp,by decide,?_⟩<;>simp [jZ,qe,bi,nums,bz,num,zQ,dH,dS]
 . refine ⟨d (by simp) (by simp) (by simp [j,m]),d (by simp) (by simp) (by simp [c.tk];rfl),⟨_,_,rfl⟩,?_,?_,?_,?_,?_,[9],by simp,by decide,?_⟩<;>simp [jZ,qe,bi,nums,bz,num,zQ,dH,dS,c.b]<;>omega
def M6 {a:List (D×D)} {f:T4} {env:Sl} (d: ∀z∈dq n0 n1 n2 n3,isNm (.str z)=true) (R:Rs (dq n0 n1 n2 n3) a) (e:f env= .ok (.ai (a.map rl))): ∃c,kQ "Rules" 1 qt (jb (app (jb f ag) Yj) ag) env= .ok (bF a c):=by
 obtain ⟨c,h⟩:=jk2 (ns:=dq n0 n1 n2 n3) rfl d R.1 (by have:=R.2;omega);exact ⟨c,LD (ds:=[.ai (a.map rl)]) (jc (qC (jc e rfl) rfl) rfl) rfl h⟩
def AD:Sl->ao aW:=(ap (jr 7 (jk 1 zH (jb (ae 6) ag))) (ap (jr 8 (al (jk 3 (jV 6) (jb (al (ae 7) (cI 1000) bZ) (jb (ae 2) (jb (cI 3) ag)))) (cI 0) aG)) (ap (jr 9 (al (jk 3 (jV 6) (jb (jk 1 zH (jb (al (ae 6) (cI 1) aX) ag)) (jb (ae 2) (jb (cI 3) ag)))) (cI 0) aG)) (ap (eN 3 (jr 10 (jk 2 qF (jb (ae 3) (jb (ae 8) ag))))) (ap (bu (ek (aO (al (al (ae 7) (cI 2) bf) (cI 0) ce)) (aO (al (ae 10) (ci ag) de))) (jr 9 (al (al (ae 10) (al (al (ae 7) (cI 2) bZ) (app (jb (ae 10) ag) aT) bf) aG) (cI 2) aG)) bo) (ap (jr 11 (mK (al (al (al (ae 7) (cI 4) bZ) (cI 4) bf) (cI 0) ce) (al (app (jb (ae 4) ag) aT) (app (jb (cy 3) ag) aT) ce) true)) (bu (a6 (aO (jk 6 wM (jb (cy 3) (jb (ae 5) (jb (ae 8) (jb (ae 9) (jb (al (al (ae 7) (cI 16) bZ) (cI 11) bf) (jb (ae 11) ag))))))))) (aJ (cB false)) bo)))))))
abbrev n6 (S:D) (m:Int) (h:D) (e:List (D×D)) (i:List D) (j:List D) (l n o p a c d:Slot):Sl:=[.ah S,.ah (.int m),.ah h,.ah (.ai (e.map rl)),.ah (.ai j),.ah (bF e i),l,n,o,p,a,c,d]
def GH {t:D} (h:Lt (dq n0 n1 n2 n3) 3 t):Ok (dq n0 n1 n2 n3) t:=⟨h.tk,by have:=h.h;omega,by have:=h.n;omega⟩
def jeS {S:D} {m:Int} {a:List (D×D)} {hs fl:List D} {c:Int} (R:Rs (dq n0 n1 n2 n3) a) (N:intBits c<=2^20+1) (r:intBits (c+1)<=2^20+1) (O Q U w j e:Slot): ∃Y u8 u9 z B,AD (n6 S m (dh n0 n1 n2 n3) a hs fl (.ah (.int c)) O Q U w j e)= .ok (.nx (n6 S m (dh n0 n1 n2 n3) a hs fl (.ah (.int c)) Y u8 u9 z B e)):=by
 obtain ⟨n,e1⟩:=yD N;obtain ⟨k,e2⟩:=yD r;obtain ⟨t,x,e3,H⟩:=wb (n0:=n0) (n1:=n1) (n2:=n2) (n3:=n3) 6 2 (n/1000) (by omega);obtain ⟨u,y,e4,g4⟩:=wb (n0:=n0) (n1:=n1) (n2:=n2) (n3:=n3) 6 2 k (by omega);have I:=GH H;have J:=MR R I
 let E:D->Sl:=λv=>n6 S m (dh n0 n1 n2 n3) a hs fl (.ah (.int c)) (.ah (.int n)) (.ah t) (.ah v) (.ah (.ai (fD t a))) j e
 obtain ⟨v,hv,L⟩: ∃v,Ok (dq n0 n1 n2 n3) v/\bu (ek (aO (al (al (ae 7) (cI 2) bf) (cI 0) ce)) (aO (al (ae 10) (ci ag) de))) (jr 9 (al (al (ae 10) (al (al (ae 7) (cI 2) bZ) (app (jb (ae 10) ag) aT) bf) aG) (cI 2) aG)) bo (E u)= .ok (.nx (E v)):=by
  have i:=YT (jC (jh (f1:=al (ae 7) (cI 2) bf) (f2:=cI 0) (env:=E u) (jh rfl rfl rfl) rfl JK)) (jC (jh (f1:=ae 10) (f2:=ci ag) (env:=E u) rfl rfl (jjz (fD t a))))
  by_cases l:fD t a=[]
  . rw [show (!(fD t a).isEmpty)=false by rw [l];rfl,vm] at i;exact ⟨u,GH g4,cb i⟩
  . cases o:(n%2==0) with
    |false=>rw [o] at i;exact ⟨u,GH g4,cb i⟩
    |true=>
     rw [o,show (!(fD t a).isEmpty)=true by cases h:fD t a with|nil=>exact absurd h l|cons _ _=>rfl] at i;obtain ⟨d,hd,hx⟩:=Cc l (n/2);obtain ⟨q,k,p,M,s,rfl⟩:=Ub (ns:=dq n0 n1 n2 n3) hd;obtain ⟨a1,a2,a3⟩:=s.tk R I.1;have b1:=(R.1 p (gu s.ik)).hr;have b2:=(R.1 p (gu s.ik)).nr;have b3:=H.h;have b4:=H.n;have b5:num p.2*num t<=30*7:=Nat.mul_le_mul b2 (by omega);exact ⟨_,⟨a1,by omega,by omega⟩,(cu i).trans (jA (jh (jh rfl (jh (jh rfl rfl rfl) (qC (jc rfl rfl) rfl) (YB (by have:=tx.mpr l;omega))) hx) rfl (Ai _ _ _ _)))⟩
 obtain ⟨b,o⟩: ∃b,mK (al (al (al (ae 7) (cI 4) bZ) (cI 4) bf) (cI 0) ce) (al (app (jb (ae 4) ag) aT) (app (jb (cy 3) ag) aT) ce) true (E v)= .ok (.bl b):=by
  rw [Uy,show al (al (al (ae 7) (cI 4) bZ) (cI 4) bf) (cI 0) ce (E v)= .ok (.bl (n/4%4==0)) from jh (jh (jh rfl rfl rfl) rfl rfl) rfl JK,qy,show al (app (jb (ae 4) ag) aT) (app (jb (cy 3) ag) aT) ce (E v)= .ok (.bl (((fl.length:Nat):Int)==(((a.map rl).length:Nat):Int))) from jh (qC (jc rfl rfl) rfl) (qC (jc rfl rfl) rfl) JK];cases n/4%4==0
  . exact ⟨false,rfl⟩
  . exact ⟨_,rfl⟩
 have ha:=MZ (hs:=hs) (lim:=n/16%11) (left:=b) R I hv (by omega);refine ⟨.ah (.int n),.ah t,.ah v,.ah (.ai (fD t a)),.ah (.bl b),(jj (jA (jn (jc rfl rfl) rfl e1))).trans ((jj (jA (jh (jn (jc (jh rfl rfl rfl) (jc rfl (jc rfl rfl))) rfl e3) rfl fu))).trans ((jj (jA (jh (jn (jc (jn (jc (jh rfl rfl rfl) rfl) rfl e2) (jc rfl (jc rfl rfl))) rfl e4) rfl fu))).trans ((jj (env':=E u) (jA (jn (jc rfl (jc rfl rfl)) rfl J))).trans ((jj L).trans ((jj (jA o)).trans ?_)))))⟩;exact cb (zc (jC (jn (jc rfl (jc rfl (jc rfl (jc rfl (jc (jh (jh rfl rfl rfl) rfl rfl) (jc rfl rfl)))))) rfl ha)))
def nP (o:List Int) (hlen:o.length<=63) (hb: ∀i∈o,rE i<=2^20):nG [.ei (o.map D.int)]= .ok (.bl true):=by
 have q: ∀c:Int,c=0\/c∈o->intBits c<=2^20+1:=λc h=>by
  rcases h with rfl|h
  . decide
  . have:=hb c h;omega
 have H: ∀c:Int,c∈o->intBits (c+1)<=2^20+1:=λc h=>by
  have h2:=intBits_add_le (hb c h) (show intBits (1:Int)<=1 by decide);have:max (2^20) 1=2^20:=by decide
  omega
 obtain ⟨c0,hc0,hm0⟩:=YQ o 0;obtain ⟨m,hm⟩:=yD (q c0 hm0);obtain ⟨c1,hc1,Eb⟩:=YQ o 1;obtain ⟨m',hm'⟩:=yD (q c1 Eb);obtain ⟨ns,hnm,hl4,hz⟩:=kK m
 obtain ⟨n0,n1,n2,n3,rfl⟩: ∃n0 n1 n2 n3,ns=dq n0 n1 n2 n3:=by
  match ns,hl4 with
  | [a,b,c,d],_=>exact ⟨a,b,c,d,rfl⟩
 obtain ⟨J,L,hr1,O⟩:=Yt hz (m/1000);obtain ⟨l2,r2',hr2,zM⟩:=Yt hz m';generalize hS:D.ei (o.map D.int)=S at*
 let E0:Slot->Sl:=λs=>[.ah S,.ah (.int m),.ah (dh n0 n1 n2 n3),s,.un,.un,.un,.un,.un,.un,.un,.un,.un]
 obtain ⟨j,R,hps⟩: ∃j,Rs (dq n0 n1 n2 n3) j/\bu (aO (al (al (ae 1) (cI 4) bf) (cI 0) gw)) (jY 3 (jk 3 y7 (jb (jk 1 zH (jb (jk 2 wD (jb (ae 0) (jb (cI 1) ag))) ag)) (jb (ae 2) (jb (cI 2) ag))))) bo (E0 (.aw (.ai [.ak [J,L]])))= .ok (.nx (E0 (.aw (.ai (j.map rl))))):=by
  have ht:aO (al (al (ae 1) (cI 4) bf) (cI 0) gw) (E0 (.aw (.ai [.ak [J,L]])))= .ok (decide (0<m%4)):=jC (jh (jh rfl rfl rfl) rfl rfl)
  by_cases h:0<m%4
  . refine ⟨[(J,L),(l2,r2')],⟨λp v=>?_,by simp⟩,(cu (ht.trans (by rw [decide_eq_true h]))).trans (ZE (ds:=[.ak [J,L]]) rfl (jn (jc (jn (jc (jn (ds:=[S,.int 1]) (jc rfl (jc rfl rfl)) rfl hc1) rfl) rfl hm') (jc rfl (jc rfl rfl))) rfl hr2) (show 1<aS by decide))⟩;simp only [bJ,eE,or_false] at v;rcases v with rfl|rfl
    . exact O
    . exact zM
  . refine ⟨[(J,L)],⟨λp v=>?_,by simp⟩,cb (ht.trans (by rw [decide_eq_false h]))⟩;simp only [bJ,eE,or_false] at v;rw [v];exact O
 have U: ∀p∈j,Ok (dq n0 n1 n2 n3) p.1/\Ok (dq n0 n1 n2 n3) p.2:=λp v=>by
  have r:=R.1 p v;have:=r.hl;have:=r.hr;have:=r.nl;have:=r.nr;exact ⟨⟨r.tl,by omega,by omega⟩,r.tr,by omega,by omega⟩
 have Y:qv false 2 [] (b9 (ae 3)) (g2 (gN 0) (gN 1)) (aO (al (ae 1) (qv false 2 [] (b9 (jk 1 (jH 64) (jb (ae 0) ag))) (g2 (gN 0) (gN 1)) qi (ae 1)) (io false))) (ae 1) (E0 (.ah (.ai (j.map rl))))=_:=M3 (λp=>oK (bv p.1) p.2) (·.2) rfl (λp v acc=>jC (by
  obtain ⟨w,h2⟩:=U p v;refine jh rfl (Cb w.1 w.2.2 (y9 (jn (jc rfl rfl) rfl (Z5 64 p.1 w.1 (by have:=w.2;omega) (by have:=w.2;omega) w.2.2)) rfl)) ?_;obtain ⟨a,b⟩:=yL (bv p.1) λx hx=>(GD w.1 w.2.1 x hx).1
  exact jl ⟨a,(Wx _ h2.1).1,by omega⟩)) (λ_ _ _=>rfl) (by have:=R.2;omega)
 generalize ((j.filter λp=>oK (bv p.1) p.2).map (·.2))=y at Y;obtain ⟨z,hmk⟩:=M6 (f:=ae 3) (env:=[.ah S,.ah (.int m),.ah (dh n0 n1 n2 n3),.ah (.ai (j.map rl)),.ah (.ai y),.un,.un,.un,.un,.un,.un,.un,.un]) hz R rfl
 obtain ⟨ic,w,I,B,v8,E,l,n,rfl,_⟩:=WQ (body:=qG (gN 6) AD)
  (λds env=> ∃(I B v8 E l n:Slot),env=n6 S m (dh n0 n1 n2 n3) j z y I B v8 E l n .un/\ ∀d∈ds,∃c∈o,d= .int c)
  (by
    rintro d ds env ⟨I,B,v8,E,l,n,rfl,N⟩;obtain ⟨c,hc,rfl⟩:=N d (by simp);obtain ⟨w7,w8,w9,w10,w11,h⟩:=jeS (S:=S) (m:=m) (fl:=y) (hs:=z) R (q c (.inr hc)) (H c hc) B v8 E l n .un
    exact ⟨_,(qU rfl).trans h,_,_,_,_,_,_,rfl,λx hx=>N x (by simp [hx])⟩)
  (cutD (o.map D.int) (some 2) (some 12)) (n6 S m (dh n0 n1 n2 n3) j z y .un .un .un .un .un .un .un) ⟨.un,.un,.un,.un,.un,.un,rfl,λd N=>by
    obtain ⟨c,hc,rfl⟩:=gO.mp (List.mem_of_mem_drop (List.mem_of_mem_take N))
    exact ⟨c,hc,rfl⟩⟩
 obtain ⟨qs,hq,Q⟩:=jdL (n0:=n0) (n1:=n1) (n2:=n2) (n3:=n3);obtain ⟨t,ht,ot⟩:=M5 (n0:=n0) (n1:=n1) (n2:=n2) (n3:=n3) (190+m/28%14) (by omega);obtain ⟨u,hu,ou⟩:=M5 (n0:=n0) (n1:=n1) (n2:=n2) (n3:=n3) 0 (by omega);obtain ⟨ks,hk⟩:=M6 (f:=ae 12) (env:=n6 S m (dh n0 n1 n2 n3) j z y I B (.ah t) E l n (.ah (.ai (qs.map rl)))) hz Q rfl;have ha:=MZ (hs:=ks) (lim:=200) (left:=true) Q ot ou (by omega)
 have told:Se 190 (.ai (j.map rl)):=(vC (k:=61) λd N=>by
  obtain ⟨p,v,rfl⟩:=gO.mp N;obtain ⟨a,b⟩:=U p v
  exact AA (tz a.1 a.2.1) (tz b.1 b.2.1)).le (by omega)
 have fin: ∀ {s8 M7:Slot},aJ (al (Qk "Rules" "told" 1 yg (ae 5) oq) (cy 3) ce) (n6 S m (dh n0 n1 n2 n3) j z y I B s8 E l n M7)= .ok (.rt true (.bl true)):=λ{s8 M7}=>qm (jh (x:= .ai (j.map rl)) (ub (ds:=[]) rfl rfl rfl rfl (qQ rfl)) rfl told.eq)
 have hsl:b9 (qp (ae 0) (zI (cI 2)) (zI (cI 12)) EU) (n6 S m (dh n0 n1 n2 n3) j z y .un .un .un .un .un .un .un)= .ok (cutD (o.map D.int) (some 2) (some 12)):=by rw [<-hS];rfl
 have e:aO (al (al (al (ae 1) (cI 7) bZ) (cI 4) bf) (cI 1) ce) (n6 S m (dh n0 n1 n2 n3) j z y I B v8 E l n .un)= .ok (m/7%4==1):=jC (jh (jh (jh rfl rfl rfl) rfl rfl) rfl JK);refine qQ ((jj (jA (jn (jc (jn (ds:=[S,.int 0]) (jc rfl (jc rfl rfl)) rfl hc0) rfl) rfl hm))).trans ((jj (jA (jn (jc rfl rfl) rfl hnm))).trans ?_));refine (jj (env':=E0 (.aw (.ai [.ak [J,L]]))) (Qt (Ua (jc (jn (jc (jh rfl rfl rfl) (jc rfl (jc rfl rfl))) rfl hr1) rfl) (jt (by simp))))).trans ((jj hps).trans ?_);refine (jj (jA (env:=E0 (.ah (.ai (j.map rl)))) Y)).trans ((jj (jA hmk)).trans ((jj ((wH hsl).trans w)).trans ?_))
 cases sJ:(m/7%4==1) with
 |false=>rw [sJ] at e;exact (jj (cb e)).trans fin
 |true=>
  rw [sJ] at e;have f1:jk 6 wM (jb (ae 12) (jb (kQ "Rules" 1 qt (jb (app (jb (ae 12) ag) Yj) ag)) (jb (ae 8) (jb (jk 2 zt (jb (ae 2) (jb (cI 0) ag))) (jb (cI 200) (jb (cB true) ag)))))) (n6 S m (dh n0 n1 n2 n3) j z y I B (.ah t) E l n (.ah (.ai (qs.map rl))))= .ok (.bl true):=jn (jc rfl (jc hk (jc rfl (jc (jn (jc rfl (jc rfl rfl)) rfl hu) (jc rfl (jc rfl rfl)))))) rfl ha;exact (jj ((cu e).trans ((jj (jA (jn (jc rfl rfl) rfl hq))).trans ((jj (jA (jn (jc rfl (jc (jh rfl (jh (jh rfl rfl rfl) rfl rfl) rfl) rfl)) rfl ht))).trans (cb (zc (jC f1))))))).trans fin
end
end G
structure PySem.W.Fast:Prop where
 (tw8876354856683289312 te8471726604488931197 tw1217705008417440692 tw16245702330260613368 tw11942567424833561816 tw7221354612639152592 tw13508326390851465901 tw7775740860298402256 tw17396632154504893518 tw2812226231486682871 tw10826518693378260091 tw15272234334596764578 tw13000710785206319480 tw16290571302181703405 tw16230722843342911530 tw608135947923105696 tw17804119586296537750 tw18361208024217434779 tw6616236129998043878 tw14066820452839029165 tw8917201478211535624 tw4266253347120204429 tw9958373707854667091 tw532824443189419231 tw3982394349476192292 tw13457032906886640636 tw5188829783120493965 tw3220461530452800489 tw16108962478116905933 tw12143071081493388868 tw3907530812652156087 tw16639796158852047627 tw10548171860448787553 tw5514952478804093130 tw8893603536659214216 te5962147922694334933 te13008185544699354975 te9055410727713626634 te11814574710721776656 te12240540035255364827 te5937242410193046551 te2689053561994153541 te5070956575172119834 te11946920187004813978 te6305145351827817063 te7264109969883817403 te9319496225217294180 te7072827964471298264 te6602400909104858531 te17310476438087515033 te12816239348704701378 te1968318338021927405 te8658587394517797758 te3796176406871871226 te18346327931765107187 te15673605975669173818 te8301419406458704175 te18113310620583657125 te1091617674899974298 te4814055195070393718 te17642757014244944685 te3610396065754721299 te12670748484671711046 te2742702594832192508 te11611364639056352203 te7863264368527700241 te5721033094573883698 te16155147226537808625 te15234585701797804218 te17599997749510149231 te9113942469748085161 te16914124530983441765 te2523107452100565525 te9348822294113187055 te4312218574076250457 te9960126279813744561 te17959531207065128512 te12661796685973276444 te17513438284961003560 te4432864896266331633 te14535541215548533950 te9332434814888175638 te2092986419666888414 te3436652210849329334 te5432140796399404698 te11150818701538490752 te13875321643975419168 te8647489217035162725 te12213682551165526898 te4316942412078443744 te16991879168127473073 te8781675446027126808 te4995912660425226140 te13801253789297891806 te3726104519809207400 te1040881041337439210 te18215421111646441102 te7094410771865673330 te9838363940838929762 te15710428183132064505 te15278951703430918016 te6073807889215084101 te1622798763885224264 te10414800769054362463 te628324244162958483 te16170543523525893607 te1521112566851817004 te16705172736976510761 te17527584325028428441 te1445896448986970273 te2552013834811550767 te1486872548811780288 te7281311715870385344 te15114989028829583479 te4728100510501825796 te8512126694409165549 te16099080287972544101 te5542989228829566251 te9807365639652719627 te2964615899758699617 te1848741203802949592 te7433291830525128629 te2841714695824315482 te10164083326377568099 te592275577057812334 te2722462597257163568 te5182540781006096041 te13317310799139173604 te1255476053869121793 te10249391407228075331 te5528753999558765935 te6741352923203746672 te1593381795743754360 te9776360416628732181 te12869403571769618000 te14997476878677877439 te13943758323998653662 te17927034357825158937 te18154445517071739154 te11189424713457746537 te15067465113164298618 te12467886402977921186 te2235046592585468013 te2656140171224364212 te13871938236875722090 te5099938164164694204 te8954751708235302623 te10806986661357327725 te11143423749973429325 te9253486475397458539 te9901075990248950813 te13482365774509467185 te3555651347747735160 te1599978540734806546 te8908014476419136502 te11662030183890823974 te14395738708801161481 te8907606384625963510 te5677519207441384985 te15653259152111458049 te3480962842196757169 te7809951028951539016 te1304621007069425300 te9219381977636300598 te7488644444098514870 te8731002933304330386 te7265924094203350884 te4382462006440992588 te10198709551221045958 te4671311857252047257 te17113600415971103241 te14980844672685213601 te1074096923034127093 te15661374026565698331 te713525860318239124 te11172501434816961512 te10596118074596084290 te7944873792011938440 te3337843608839411006 te13411809091937850861 te9909070707307239547 te15677646659020558317 te12517284551034261480 te1185719287037310839 te15456879256162676553 te8478291568201918911 te999329417262055566 te8530848140582070306 te4586590832946375514 te7143346943059265519 te15500465119978503191 te16402183279334230246 te534046749167075405 te10269094086249410409 te13198241124057234647 te7902695029301366879 te7984268310919497210 te11899805554587301610 te8266950562267011866 te2356151482276885653 te9473318075756418947 te10476836976591315944 te1640653227082683131 te365165920864694236 te11731531682466239804 te16885277708382591700 te2434785922019981470 te16227135682583676293 te7535265974921237003 te8823956682395931164 te6484261233259614032 te7307619774103129100 te6018729459672456413 te12405453361842187394 te11819791456678892695 te10777600942112548801 te6715781841877430365 te9243579043295312161 te18188658190980250643 te15399526588979034219 te2631693501329889773 te5626488245236137537 te1225988448340375464 te4409456001725921141 te2539835238064130210 te3840628900167178031 te8255559861608468561 te6509554657086665851 te2441038354180700294 te8474826424889042765 te8284967951394955405 te13141465702034035838 te1126132105091745806 te9671546049139671768 te6885338354180896759 te17971220329995031824 te2041627808104227225 te10545510889069831951 te16795897526085740182 te9538005655527096606 te16979247837091722721 te1104496044195879350 te1965808303873700512 te15026850058641815246 te14380221379855087736 te9849792000440711400 te2653937957630482805 te2852142081699841929 te10101065957644186953 te157531622290761145 te761777921392067955 te3059612702615314609 te11826452102554863641 te3163763182182890401 te12190256328519106922 te9565411959649868924 te10807726833260272349 te5609483135625570920 te10808168049665939198 te15924284646339223342 te18439844163945271963 te11722359987111348348 te12577966968092176739 te8112688250023751958 te10000495134845154537 te5037820386502987764 te11436270583353262664 te833329964890090106 te17731949110444628573 te14071910817663109472 te15142946360596962363 te5805457855865411931 te4509369315554593146 te7138432364154757041 te16668344343154849619 te12689157662494572086 te8043083396089555813 te5010604427485649277 te12956567368008252127 te12338530299742210264 te7763712011148154886 te18086983797816389506 te972479284136526197 te9491022536050798914 te15292458751104945213 te2070240324166300507 te1090151069480975662 te568683153274051205 te16169275666831213414 te5518205350920529152 te7598538659895609071 te18018228814292483149 te5410842529460542876 te11051728272684755447 te8707773012719050619 te7890140469244552029 te1474458976330137731 te12353657909991412010 te4551906466550974091 te6903306550266107991 te333296027340502449 te9212370983770905376 te15985259276163795921 te6635616777439787113 te15244337594017098934 te3394134478885281538 te15571682058695678446 te12804421738431899298 te11062719637220939656 te15048350530734947907 te7979231626469660123 te8856451298134099174 te14066333550565620977 te15893281796378654096 te2476484931961987640 te10954410096626734139 te15340496015000052964 te13103687803521575993 te6381419329019072360 te13939704721622638956 te3705657461423267402 te1361042201199925713 te10025010980238166280 te9454982235970656513 te7859030444983576093 te14531943645922779319 te6637954254707405945 te2788368276381667679 te14161268498308584924 te15459785903735481160 te2141839747416044743 te11627235451838223244 te13570347111785878819 te16115602557718632052 te15159641757420354822 te5349896464113396331 te11179543989499613046 te348372845252644366 te7766764513482024001 te10380754558374008340 te3359419598621498730 te15598896056280448144 te4503149461663948827 te16581701032666754448 te12825990336876373140 te8959809432714028263 te5071625437470002677 te1060942822378853285 te2536836894483306369 te12071073221020224471 te12998864324219693565 te5259718031020612714 te10507935442563320264 te5260736088028662727 te12635840496709080229 te18383761031842868733 te1768090742116399064 te12811354254729044025 te1651950979470852027 te4486365092900416669 te12673660674521923805 te11820496642631832848 te6819279666788388278 te18438888385833590011 te5890737335747745254 te7132508971628969531 te9570829389448058043 te11072717964446429423 te9418417365049919022 te11507814533848461820 te9742798525033667381 te14866873612215725151 te4170877266067935689 te11513998283184491531 te17972709787056282318 te2292690346834927309 te5528132428661720368 te4744712278223975092 te491077220136700232 te8040117794170894611 te15911797231501403984 te9786018897383333992 te7562400642164992888 te12613909259232019824 te13310832831142619420 te8997486286831011855 te329441713720383346 te5394889682392138068 te16675117702338832347 te17842429976247886807 te6946512124813745291 te12725709968338563471 te13581986373626753815 te2752366482219374724 te3704889799758225512 te3797622777083548420 te15986000194872891375:True)
open PySem PySem.W PyProof.Rows
set_option maxRecDepth 100000 in
set_option maxHeartbeats 0 in
theorem PySem.Challenge.cw_endwise_k64_chains_holds : PySem.Challenge.rw_endwise_k64_chains.Holds := by
  w_on; o_law; k_head; (case hw => w_witness2)
  k_fill
  refine M.nn (l := PySem.Challenge.rw_endwise_k64_chains) (n := 63) (k := 73) (x := "_law_script") (F := G.nG) rfl (by decide) rfl ⟨rfl, by decide, by decide⟩ (fun w h Y => PySem.W.kIn_of Y) ?F G.nP
  case F =>
    intro w mg fa h KX Gn hmg
    refine' G.all_mk KX Gn hmg ?d0 ?d1 ?d2 ?d3 ?d4 ?d5 ?d6 ?d7 ?d8 ?d9 ?Fs ?Ft ?Fv ?Fw ?Fx ?Fy ?Fz ?FA ?BY ?BZ ?B0 ?FC ?FD ?B1 ?B2 ?FE ?FG ?FH ?FK ?FL ?B3 ?B4 ?FM ?FN ?B5 ?B6 ?FP ?FQ ?B7 ?FR ?FS ?FT ?FU ?FV ?FW ?FX ?FY ?Ar ?FZ ?F0 ?F1 ?F3 ?F4 ?F5 ?F6 ?F7 ?F8 ?z0 ?z1 ?z2 ?z3 ?z4 ?z5 ?z6 ?z7 ?z8 ?z9 ?F9 ?Ga ?Gb ?Ge ?fg ?gh ?gG ?iz ?gH ?iA ?iB ?Qh ?Zc ?Zo ?Zb ?Q7 ?xp ?yb ?Kx ?KB ?lI ?mF ?cz ?fb ?bb ?bD ?bN
    (case Qh => k_is)
    (case d0 | d1 | d2 | d3 | d4 | d5 | d6 | d7 | d8 | d9 | Fs | Ft | Fv | Fw | Fx | Fy => exact ⟨_, by k_is, ⟨_, _, _, _, _, _, _, _, _, by k_is, by k_is⟩, by k_is⟩)
    (case Fz => exact ⟨_, by k_is, by k_is, ⟨_, _, _, _, _, _, _, _, _, by k_is, by k_is⟩, by k_is⟩)
    (case FA | BY | BZ | B0 | FC | FD | B1 | B2 | FE | FG | FH | FK => exact ⟨_, by k_is, ⟨_, _, _, _, _, _, _, _, _, by k_is, by k_is⟩, by k_is⟩)
    (case FL => exact ⟨_, by k_is, by k_is, ⟨_, _, _, _, _, _, _, _, _, by k_is, by k_is⟩, by k_is⟩)
    (case B3 | B4 | FM | FN | B5 | B6 | FP => exact ⟨_, by k_is, ⟨_, _, _, _, _, _, _, _, _, by k_is, by k_is⟩, by k_is⟩)
    (case FQ => exact ⟨_, by k_is, by k_is, ⟨_, _, _, _, _, _, _, _, _, by k_is, by k_is⟩, by k_is⟩)
    (case B7 => exact ⟨_, _, _, _, _, _, _, _, _, _, _, _, _, _, _, _, by k_is, by k_is, by k_is, by k_is, by k_is, by k_is⟩)
    (case FR => exact ⟨_, by k_is, by k_is, ⟨_, _, _, _, _, _, _, _, _, by k_is, by k_is⟩, by k_is⟩)
    (case FS | FT | FU => exact ⟨_, by k_is, ⟨_, _, _, _, _, _, _, _, _, by k_is, by k_is⟩, by k_is⟩)
    (case FV => exact ⟨_, by k_is, by k_is, ⟨_, _, _, _, _, _, _, _, _, by k_is, by k_is⟩, by k_is⟩)
    (case FW => exact ⟨_, by k_is, ⟨_, _, _, _, _, _, _, _, _, by k_is, by k_is⟩, by k_is⟩)
    (case FX => exact ⟨_, by k_is, by k_is, ⟨_, _, _, _, _, _, _, _, _, by k_is, by k_is⟩, by k_is⟩)
    (case FY => exact ⟨_, by k_is, ⟨_, _, _, _, _, _, _, _, _, by k_is, by k_is⟩, by k_is⟩)
    (case Ar => exact ⟨_, _, _, _, _, _, _, _, _, _, _, _, _, _, _, _, by k_is, by k_is, by k_is, by k_is, by k_is⟩)
    (case FZ | F0 | F1 | F3 | F4 => exact ⟨_, by k_is, ⟨_, _, _, _, _, _, _, _, _, by k_is, by k_is⟩, by k_is⟩)
    (case F5 | F6 | F7 | F8 | z0 | z1 | z2 | z3 | z4 | z5 | z6 | z7 | z8 | z9 | F9 | Ga | Gb | Ge => k_is)
    (case fg | gh | gG | iz | gH | iA | iB => exact ⟨_, by k_is⟩)
    (case Zc | Zo | Zb | Q7 | xp | yb | Kx | KB | lI | mF => k_is)
    (case cz | fb => k_exc)
    (case bb | bD | bN => kernel_rfl)

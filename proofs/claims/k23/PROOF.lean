import PyProof.Rows.All
import Wide.All
import OpenK.AllK
import Wide.FinOn
import Lean
import PyProof.TupleKey
import PyProof.IsRules
import PyProof.DictKeyH
import PyProof.EqAt
import PyProof.EqKinds
import PyProof.TupleCall
import PyProof.Cells
import PyProof.NeKinds
import KE.IntBitsLaws
import KE.KDictList
import KE.KRevIter
import KE.KSortTup
import KE.KDictSum
import PyProof.EnumMake
import PyProof.EnumFor
import PyProof.LayNew
import PyProof.Rows.EnumRows
import PyProof.SumAny
import PyProof.ListRange
import PyProof.FString5
import PyProof.CollectIter
import PyProof.TupleOfSeq
import PyProof.Rows.Tup
import OpenK.KRaise
import PyProof.StationsW
import KE.KTryMore
import PyProof.NsDelKeeps
import KE.KEqDict
import PyProof.ExcArgs
import PyProof.Draws
import PyProof.ZipIter
import PyProof.Rows.ZipGen
import PyProof.DictWalks
import PyProof.Conv_int_bool
import PyProof.Rows.SeqMore
import PyProof.Rows.SetFrom
import PyProof.SetRoads
import PyProof.MeetsSeq2
import PyProof.FactsAll.NoneType_1
import PyProof.DictFindH
import PyProof.DictRoadsH
import PyProof.AttrMissHeap
import KE.KDictOf
import PyProof.Rows.StrJoin2
import PySem.Challenge.RW_endwise_k23_rows_walked
open Array renaming length_toList -> rT, getElem?_eq_some_iff -> Di, getElem?_toList -> FU, mem_toList_iff -> EI, getD -> yh
open Bool renaming and_eq_true -> dR, false_ne_true -> gd, false_eq_true -> pV, not_true -> Ae, and_eq_false_iff -> IB
open False renaming elim -> gO
open ForInStep renaming yield -> CW
open Int renaming emod_nonneg -> nL, emod_lt_of_pos -> rK, toNat_natCast -> rb, eq_ofNat_of_zero_le -> FT
open List renaming getElem?_eq_getElem -> cU, length_cons -> bN, size_toArray -> cb, mem_cons -> bA, length_append -> dr, getElem?_append_right -> gP, not_mem_nil -> ei, getElem?_eq_some_iff -> ic, getElem?_append_left -> ig, replicate -> dq, mem_cons_of_mem -> gc, length_map -> dQ, length_nil -> eM, getElem?_map -> gY, map_cons -> fh, mem_of_getElem? -> lu, append_assoc -> i9, mem_cons_self -> lE, lookup -> f6, lookup_cons -> lx, getElem?_cons_succ -> o6, getElem?_eq_none -> n5, mem_map -> hG, mem_append_right -> oY, getElem?_replicate -> pD, all_eq_true -> mP, mem_append -> mD, getD_eq_getElem?_getD -> yU, getElem?_set_self -> rS, append_nil -> nS, drop_eq_getElem_cons -> xS, getElem_mem -> pR, replicate_succ -> sr, range -> lC, mem_range -> pd, nodup_cons -> q0, drop_eq_nil_of_le -> Ba, length_take -> sg, zip_cons_cons -> ya, mem_append_left -> Aq, flatten_cons -> wU, eq_nil_of_length_eq_zero -> GV, mem_filterMap -> Ax, pairwise_cons -> BC, set_cons_succ -> Cf, find?_cons -> xn, getElem?_set_ne -> Cy, pairwise_iff_getElem -> FW, mem_flatMap -> Bt, cons_append -> Cg, filterMap_cons -> Cw, map_map -> sY, toArray -> sZ, nil_append -> AW, any_cons -> xo, getElem?_cons_zero -> Iu, nodup_nil -> AY, length_drop -> CL, all_cons -> A2, map_append -> C6, contains_cons -> F9, append_of_mem -> Iz, set_cons_zero -> ID, foldl -> w4
open List.Perm renaming refl -> F1
open Nat renaming le_refl -> bg, lt_of_lt_of_le -> fH, le_trans -> dG, ne_of_lt -> dJ, zero_le -> i8, lt_irrefl -> oV, le_succ -> o4, lt_succ_self -> AJ, zero_add -> yD, ne_of_gt -> CB
open Ne renaming symm -> gm
open Option renaming isSome_iff_exists -> EV, map_eq_some_iff -> E7, getD_none -> CM
open Option.some renaming inj -> fY
open PyProof.Rows renaming boot_tuple -> mv, slot_tuple_getitem -> si, callWith_type1 -> v3, envOfC -> gn, seqObj -> ik, boot_all -> Hq, get?_update_seq -> C8, zipApart_new -> M5, tupleItemsOf_ -> EX, AllBare -> oX, boot_bool -> NR, boot_int -> NQ
open PySem renaming wpAny_bind -> ay, wpAny_pure -> aZ, starEach -> bb, sizeLine -> aP, Shared -> aM, mainGlobals -> cc, Program -> bB, assignEach -> dO, boot_len -> iS, wpAny_newObj_type -> mq, wpAny_holding -> iy, Around -> bH, wpAny_field -> gx, wpAny_callSpecial?_slot -> rc, backTo -> dL, wpAny_call_entry -> nT, wpAny_mono -> ie, bootBuiltins -> lD, wpAny_truthy_bool -> pk, foldedSetIterable -> pv, compareOp -> gV, keywordEach -> lL, binaryOp -> gw, swapsWith -> ix, mem_of_lookup -> sh, attributeBase -> nR, wpAny_typeNameOfWhole_keyiter -> C9, sysModules -> mB, wpAny_Call_Name_kw -> wC, wpAny_setField_rec -> zM, wpAny_setField -> rj, wpAny_seqItems -> rB, wpAny_execs_nil -> rV, wpAny_passesOwn -> rW, Builtin -> g9, wpAny_loadPart' -> sJ, wpAny_typeNameOf_keyiter -> Dc, rawInt -> fK, codeAny_mono -> pB, sizeLine_eq -> oZ, backToKw -> lK, wpAny_pyIter_tuple -> A7, Keyword -> i3, behindInMarks -> r0, wpAny_pyIter_list -> A6, wpAny_binaryOp_repeat_ref -> E5, FuncData -> mH, call_meets -> pK, wpAny_standAt -> xU, wpAny_attempt -> yT, intKind -> mn, sliceBounds -> so, wpAny_pyIter_enum -> Dg, wpAny_isOneOf_keyiter -> FZ, holding -> mE, wpAny_isInstance -> De, wpAny_pyIter_zip -> Du, wpAny_updateSeq_pair -> Gx, strLen_append -> Bi, typeIs_int -> sq, wpAny_rule -> sW, standAt -> nw, PassesOwn -> qO, noteFrame -> rz, scanBound -> rC, assign -> lG, codeAny -> nQ, wpAny_fieldsOf -> Db, getMethod -> r9, wpAny_call -> wm, Paired -> mz, IsPair -> nJ
open PySem.Builtin.Dict renaming showsAll -> Ms
open PySem.Builtin.Dict_items renaming ownsTuple -> Mv
open PySem.Builtin.Frozenset renaming isAnySet -> Dy, difference -> G1, addrOf -> G2, slot1 -> Nm
open PySem.Builtin.Int renaming intBits -> sT
open PySem.Builtin.List renaming listTooLong -> AU
open PySem.Builtin.Slice renaming slicePlaces -> CK, sliceAdjust -> Ln
open PySem.Builtin.SmallTypes renaming nextOf -> rA, ownedTupleIsFree -> Dp, ownedTupleHandOut -> M4
open PySem.Builtin.Str renaming strSliceIndices -> nG, occurrences -> EE
open PySem.Builtin.Tuple renaming tupleItemsOf -> Lo
open PySem.Calls renaming evalArgs_plain -> E1, spliced_cons -> EQ, spliced_nil -> EO
open PySem.F renaming excBase_ValueError -> t3, slot_dict_keyiterator_next -> By, slot_tuple_iterator_next -> Dk, slot_int_rmul -> xi, args_dict_keyiterator_next_1 -> Mu, entry_dict_keyiterator_next -> Mt, plainAttrs_list -> Fk, slot_list_append -> E3, slot_dict_get -> E9, slot_tuple_mul -> C3, slot_list_extend -> E4, slot_dict_setdefault -> Mm, slot_zip_next -> Dq
open PySem.Heap renaming get?_push_of_some -> bI, get?_push_size -> c9, lt_size -> bO, get?_update_other -> nU, size_push -> o3, get?_update_self -> BA, SameBut -> ph, get?_push_cases -> Df
open PySem.Heap.SameBut renaming update -> Dd
open PySem.MeetsSeq2 renaming wpAny_forIn_array -> Nk
open PySem.NameKind renaming free -> sL, cell -> sM
open PySem.Obj renaming data_mapFields -> rk, isFreed_of_fields -> BB, mapSeq -> re, mapFields -> Bz, cls_mapFields -> F0
open PySem.Paired renaming length -> Cu
open PySem.PassesOwn renaming never -> l5, leaving -> B8
open PySem.Value renaming ref -> cX, none -> iq, bool -> qt, isInt_shape -> Ee, type -> vc
open PySem.W renaming Frag -> aC, nsIn -> cT, mg_none_of -> ma, keepIn -> iZ, findIn -> gW, mg_of -> j1, kitOne -> lJ, kia_one -> nz, fnOf -> lM, emptyDict -> qT, exmOne -> o7, callWith_K -> sd, instObj -> qw, hideAll -> rR, codeIn -> ra, of_hideAll -> Ap, plainGet -> AF, makesIn -> AH, hasDictIn -> CG, methodCall_KW -> EU, excIn -> BG, hideAll_get -> Ef, plainGet_of -> EJ, isFn -> AG, lookIn -> CF, looks_findIn -> CH, plainOver -> EK, specialIn -> AK, takerIn -> EL, OpenLaw -> AZ
open PySem.W.Looks renaming ld -> tx
open Sum renaming inl -> pb
open True renaming intro -> ny
noncomputable section
set_option compiler.extract_closed false
set_option bootstrap.genMatcherCode false
set_option genSizeOfSpec false
set_option Elab.async false
set_option linter.all false
set_option maxRecDepth 100000
section
open PySem
abbrev YU (x:Str):Prop:=(x==("__debug__" :Str))=false
abbrev WV (x:Str):Prop:=(x==("__classdict__" :Str))=false
abbrev Vj:=Str->Option Value
abbrev Vi:=Addr->Prop
abbrev Vh:=Value->aM->Prop
theorem T9 {l:List Str} (h:l.Nodup:=by decide+kernel):l.Nodup:=h
end
namespace L2
open PySem PySem.Spec PyProof.Rows
abbrev aR:=Sum Int Str
def kE:aR->Value->Bool
 | .inl k,v=>Value.isInt k v
 | .inr x,v=>Value.isStrOf x v
noncomputable def Ed (w:World):aR->Int
 | .inl k=>hashInt k
 | .inr x=>hashStr w x
theorem qF: ∀ {k:aR} {v:Value},kE k v=true->(∃i t,k=pb i/\v=Value.int i t)\/(∃x t,k=Sum.inr x/\v=Value.str x t)
 | .inl i,v,h=>by
  obtain ⟨t,e⟩:=Ee h;exact .inl ⟨i,t,rfl,e⟩
 | .inr x,v,h=>by
  obtain ⟨t,e⟩:=Value.isStrOf_shape h;exact .inr ⟨x,t,rfl,e⟩
def Pf (i:Int) (t:Tok):kE (.inl i) (.int i t)=true:=by simp [kE,Value.isInt]
def Pg (x:Str) (t:Tok):kE (.inr x) (.str x t)=true:=by simp [kE,Value.isStrOf]
def Ph (a b:Int):decide ((pb a:aR)=pb b)=(a==b):=by
 by_cases e:a=b
 . subst e;simp
 . have h: ¬(pb a:aR)=pb b:=λq=>e (Sum.inl.inj q)
   rw [decide_eq_false h];exact (beq_eq_false_iff_ne.mpr e).symm
def Pj (a b:Str):decide ((Sum.inr a:aR)=Sum.inr b)=decide (a=b):=by
 by_cases e:a=b
 . subst e;simp
 . have h: ¬(Sum.inr a:aR)=Sum.inr b:=λq=>e (Sum.inr.inj q)
   rw [decide_eq_false h,decide_eq_false e]
def Pk (a:Int) (b:Str):decide ((pb a:aR)=Sum.inr b)=false:=decide_eq_false (λq=>nomatch q)
def Pl (a:Str) (b:Int):decide ((Sum.inr a:aR)=pb b)=false:=decide_eq_false (λq=>nomatch q)
def qE (c:bB) (w:World):PySem.KeyKind c w aR where
 is:=kE
 hash:=Ed w
 inj:=λv a b l g=>by
  rcases qF l with ⟨i,t,rfl,rfl⟩| ⟨x,t,rfl,rfl⟩
  . rcases qF g with ⟨j,u,rfl,e⟩| ⟨y,u,rfl,e⟩
    . injection e with e1 _;rw [e1]
    . exact nomatch e
  . rcases qF g with ⟨j,u,rfl,e⟩| ⟨y,u,rfl,e⟩
    . exact nomatch e
    . injection e with e1 _;rw [e1]
 byValue:=λk v h=>by
  rcases qF h with ⟨i,t,rfl,rfl⟩| ⟨x,t,rfl,rfl⟩<;>rfl
 pyHash:=λd h=>by
  rcases qF d with ⟨i,t,rfl,rfl⟩| ⟨x,t,rfl,rfl⟩
  . exact wpAny_pyHash_int h
  . exact wpAny_pyHash_str h
 eqBool:=λn d h=>by
  rcases qF n with ⟨i,t,rfl,rfl⟩| ⟨x,t,rfl,rfl⟩
  . rcases qF d with ⟨j,u,rfl,rfl⟩| ⟨y,u,rfl,rfl⟩
    . rw [Ph] at h;exact wpAny_eqBool_int h
    . rw [Pk] at h;exact SeqAt.EqAt.int_str i t y u _ _ _ _ h
  . rcases qF d with ⟨j,u,rfl,rfl⟩| ⟨y,u,rfl,rfl⟩
    . rw [Pl] at h;exact SeqAt.EqAt.str_int x t j u _ _ _ _ h
    . rw [Pj] at h;exact wpAny_eqBool_str h
 «strs» :=λk x t v h=>by
  rcases qF h with ⟨i,u,rfl,e⟩| ⟨y,u,rfl,e⟩
  . exact nomatch e
  . injection e with e1 _;subst e1;cases v<;>rfl
def kq (a:bB) (w:World) (i:Int) (t:Tok):(qE a w).is (.inl i) (.int i t)=true:=Pf i t
def ko (a:bB) (w:World) (x:Str) (t:Tok):(qE a w).is (.inr x) (.str x t)=true:=Pg x t
inductive V where
 |aU|bl (b:Bool)|int (i:Int)|str (x:Str)|uR (b:Array UInt8)|nM (b:UInt64)|ref (a:Addr)|ty (n:String)
 deriving DecidableEq
def aO:V->Value->Prop
 | .aU,u=>u=iq
 | .bl b,u=>u=qt b
 | .int i,u=> ∃t,u=Value.int i t
 | .str x,u=> ∃t,u=Value.str x t
 | .uR b,u=> ∃t,u=Value.bytes b t
 | .nM b,u=> ∃t,u=Value.float b t
 | .ref a,u=>u=cX a
 | .ty n,u=>u=vc n
abbrev aN:List V->List Value->Prop:=mz aO
def aN.length {xs:List V} {us:List Value} (r:aN xs us):xs.length=us.length:=Cu r
theorem aN.get: ∀ {xs:List V} {us:List Value} {i:Nat} {x:V},aN xs us->xs[i]?=some x-> ∃u,us[i]?=some u/\aO x u
 |_,_,_,_,.nil,e=>by simp at e
 |_,_,0,_,.cons r _,e=>by simp at e;subst e;exact ⟨_,rfl,r⟩
 |_,_,i+1,x,.cons _ t,e=>by
  obtain ⟨u,h1,h2⟩:=aN.get t (by simpa using e);exact ⟨u,by simpa using h1,h2⟩
theorem aN.append: ∀ {a c:List V} {d e:List Value},aN a d->aN c e->aN (a++c) (d++e)
 |_,_,_,_,.nil,s=>s
 |_,_,_,_,.cons r t,s=> .cons r (aN.append t s)
theorem aN.take: ∀ {a:List V} {c:List Value} (n:Nat),aN a c->aN (a.take n) (c.take n)
 |_,_,0,_=> .nil
 |_,_,_+1,.nil=> .nil
 |_,_,n+1,.cons r t=> .cons r (aN.take n t)
theorem aN.drop: ∀ {a:List V} {c:List Value} (n:Nat),aN a c->aN (a.drop n) (c.drop n)
 |_,_,0,r=>r
 |_,_,_+1,.nil=> .nil
 |_,_,n+1,.cons _ t=>aN.drop n t
def dB:Option V->Option Value->Prop
 |some v,some u=>aO v u
 |none,none=>True
 |_,_=>False
def KV {a:Type}:List (a×V)->List (a×Value)->Prop:=mz λ(p:a×V) (q:a×Value)=>p.1=q.1/\aO p.2 q.2
noncomputable def kV:aR->V
 | .inl i=> .int i
 | .inr x=> .str x
inductive HO where
 |ai (xs:List V)
 |ak (xs:List V)
 |dK (cG:List (aR×V))|dT (cG:List (List aR×V))
 |set (S:Int->Bool) (n:Nat)
 |ins (C dx:Addr) (fs:List (Str×V))
 |aw (x:Addr)
 |xd (fs:List (Str×V))
 |met (f x:Addr)
 |Cv (lo hi:Int)
 |bE (o:Obj) (u:HO)
 |pc (ps:Array Value)
 |ext (φ:Heap->Prop)
 |memo (B:List Int) (Φ:Int->Option Int->Prop)
 |dn (rs:List (Addr×List V))
abbrev Hp:=Addr->Option HO
noncomputable def aH (H:Hp) (a:Addr) (o:HO):Hp:=λb=>if b=a then some o else H b
def ju {H:Hp} {a:Addr} {o:HO}:aH H a o a=some o:=by unfold aH;rw [if_pos rfl]
def jF {H:Hp} {a b:Addr} {o:HO} (h:b≠a):aH H a o b=H b:=by unfold aH;rw [if_neg h]
def Pn {H:Hp} {a b:Addr} {o u:HO} (h:H a=some o) (c:H b=some u) (d:o≠u):a≠b:=by
 intro e;subst e;rw [h] at c;exact d (fY c)
def ql {H:Hp} {a b:Addr} {o:HO} (h:H a=some o) (c:H b=none):a≠b:=by
 intro e;subst e;rw [h] at c;cases c
section
variable (P:bB) (w:World)
def a6 (H:Hp) (h:Heap) (a:Addr):HO->Prop
 | .ai e=>e.length<=aP/\ ∃(c:List Value) (n:Nat),aN e c/\h.get? a=some {cls:= .type "list",data:= .seq c.toArray n}
 | .ak e=>e.length<=aP/\ ∃c:List Value,aN e c/\IsTup h a c.toArray
 | .dK d=>d.length<=aP/\(a==mB)=false/\ ∃j,KV d j/\h.DictOf (qE P w) a j
 | .dT d=>d.length<=aP/\(a==mB)=false/\ ∃e:List (List aR×Addr×Value),
  mz (λ(p:List aR×V) (q:List aR×Addr×Value)=>p.1=q.1/\H q.2.1=some (.ak (p.1.map kV))/\aO p.2 q.2.2) d e/\
  ∃o l z,h.get? a=some o/\o.ExactDict/\o.data= .dict l z/\l.toList=e.map (entryOfKey (tupleKind (qE P w)))/\(e.map (·.1)).Nodup
 | .set S n=>h.SetOf (mn P w) a S n
 | .ins C dx fs=>H dx=some (.aw a)/\fs.length<=1000/\dx≠a/\h.get? a=some (qw C dx)/\
  ∃g,h.Ns1 dx g/\(∀f,dB (fs.lookup f) (g f))/\PySem.Within g (fs.map (·.1))
 | .aw _=> ∃o,h.get? a=some o
 | .xd fs=> ∃g,h.Ns1 a g/\ ∀f,dB (fs.lookup f) (g f)
 | .Cv lo B=> ∃t u v,h.get? a=some {cls:= .type "range",data:= .fields #[.int lo t,.int B u,.int 1 v]}
 | .bE o u=>h.get? a=some o/\a6 H h a u
 | .pc E=>h.get? a=some {cls:= .none,data:= .fields E}
 | .met f x=>h.get? a=some (PySem.W.methodObj (.ref f) (.ref x))
 | .ext i=>i h/\(∃o,h.get? a=some o)/\ ∀r y:Heap,i r->(∀o,r.get? a=some o->y.get? a=some o)->i y
 | .memo _ _=>False
 | .dn _=>False
def dD (H:Hp) (h:Heap):Prop:= ∀a o,H a=some o->a6 P w H h a o
end
section
variable {P:bB} {w:World} {H j:Hp} {h I:Heap} {a:Addr} {o:HO}
def a6.lt (x:a6 P w H h a o):a<h.objs.size:=by
 cases o with
 |ai d=>obtain ⟨_,_,_,_,e⟩:=x;exact bO e
 |ak d=>obtain ⟨_,_,_,p⟩:=x;exact p.lt
 |dK c=>obtain ⟨_,_,_,_,o,_,_,e,_⟩:=x;exact bO e
 |dT c=>obtain ⟨_,_,_,_,o,_,_,e,_⟩:=x;exact bO e
 |set S n=>obtain ⟨o,_,_,_,e,_⟩:=x;exact bO e
 |ins C dx fs=>obtain ⟨_,_,_,e,_⟩:=x;exact bO e
 |aw y=>obtain ⟨_,e⟩:=x;exact bO e
 |xd fs=>obtain ⟨_,⟨_,_,_,e,_⟩,_⟩:=x;exact bO e
 |Cv lo g=>obtain ⟨_,_,_,e⟩:=x;exact bO e
 |bE ob u=>obtain ⟨e,_⟩:=x;exact bO e
 |pc i=>exact bO (x)
 |met f y=>exact bO (x)
 |ext l=>obtain ⟨_,⟨_,e⟩,_⟩:=x;exact bO e
 |memo B q=>exact x.elim
 |dn r=>exact x.elim
theorem mz.rQ {e g:Type} {F G:e->g->Prop}: ∀ {c:List e} {d:List g},mz F c d->(∀a b,F a b->G a b)->mz G c d
 |_,_,.nil,_=> .nil
 |_,_,.cons r t,f=> .cons (f _ _ r) (mz.rQ t f)
def a6.a5 (x:a6 P w H h a o) (k: ∀b u,(b=a\/H b=some (.aw a))->h.get? b=some u->I.get? b=some u)
  (O: ∀b,H b=some (.aw a)->j b=some (.aw a)) (Q: ∀b E,H b=some (.ak E)->j b=some (.ak E)):a6 P w j I a o:=by
 induction o with
 |ai E=>obtain ⟨z,l,n,r,e⟩:=x;exact ⟨z,l,n,r,k _ _ (.inl rfl) e⟩
 |ak E=>obtain ⟨z,l,r,ob,e,c⟩:=x;exact ⟨z,l,r,ob,k _ _ (.inl rfl) e,c⟩
 |dK J=>obtain ⟨z,y,U,r,ob,g,i,e,c⟩:=x;exact ⟨z,y,U,r,ob,g,i,k _ _ (.inl rfl) e,c⟩
 |dn rs=>exact x.elim
 |dT J=>
  obtain ⟨z,y,E,r,ob,g,i,e,c⟩:=x;exact ⟨z,y,E,mz.rQ r λp q z=>⟨z.1,Q _ _ z.2.1,z.2.2⟩,ob,g,i,k _ _ (.inl rfl) e,c⟩
 |set S n=>obtain ⟨ob,g,i,t,e,c⟩:=x;exact ⟨ob,g,i,t,k _ _ (.inl rfl) e,c⟩
 |ins C dx fs=>
  obtain ⟨d,z,ne,e,L,⟨N,g,i,e2,c⟩,r⟩:=x;exact ⟨O _ d,z,ne,k _ _ (.inl rfl) e,L,⟨N,g,i,k _ _ (.inr d) e2,c⟩,r⟩
 |aw y=>obtain ⟨ob,e⟩:=x;exact ⟨ob,k _ _ (.inl rfl) e⟩
 |xd fs=>obtain ⟨L,⟨N,g,i,e,c⟩,r⟩:=x;exact ⟨L,⟨N,g,i,k _ _ (.inl rfl) e,c⟩,r⟩
 |Cv lo hi=>obtain ⟨t,u,v,e⟩:=x;exact ⟨t,u,v,k _ _ (.inl rfl) e⟩
 |bE ob u Y=>obtain ⟨e,q⟩:=x;exact ⟨k _ _ (.inl rfl) e,Y q⟩
 |pc ps=>
  have e:=x;exact k a _ (.inl rfl) e
 |met f y=>
  have e:=x;exact k a _ (.inl rfl) e
 |ext φ=>obtain ⟨p,⟨o,e⟩,st⟩:=x;exact ⟨st _ _ p λo q=>k _ _ (.inl rfl) q,⟨o,k _ _ (.inl rfl) e⟩,st⟩
 |memo B Φ=>exact x.elim
def dD.lt (x:dD P w H h) (e:H a=some o):a<h.objs.size:=(x a o e).lt
def dD.fresh (x:dD P w H h) (e:h.objs.size<=a):H a=none:=by
 cases q:H a with
 |none=>rfl
 |some u=>exact absurd (fH (x.lt q) e) (oV _)
def dD.kept (x:dD P w H h) (k: ∀b u,h.get? b=some u->I.get? b=some u):dD P w H I:=λa o e=>
 (x a o e).a5 (λb u _ q=>k b u q) (λ_ q=>q) λ_ _ q=>q
def dD.laid (x:dD P w H h) (k: ∀b u,h.get? b=some u->I.get? b=some u) (i:h.objs.size<=a) (new:a6 P w (aH H a o) I a o):dD P w (aH H a o) I:=λb u e=>by
 have d:=x.fresh i
 by_cases g:b=a
 . subst g;rw [ju] at e;cases e;exact new
 . rw [jF g] at e;exact (x b u e).a5 (λc v _ q=>k c v q) (λc q=>by rw [jF (ql q d)];exact q) λc l q=>by rw [jF (ql q d)];exact q
end
def Rd (H:Hp) (a:Addr) (u:HO):Prop:=H a=some u\/ ∃o,H a=some (.bE o u)
def Rd.of {H:Hp} {a:Addr} {u:HO} (h:H a=some u):Rd H a u:= .inl h
def Rd.ok {P:bB} {w:World} {H:Hp} {h:Heap} {a:Addr} {u:HO} (r:Rd H a u) (x:dD P w H h):a6 P w H h a u:=by
 rcases r with r| ⟨o,r⟩
 . exact x a u r
 . obtain ⟨_,q⟩:=x a _ r;exact q
def nv:Option HO->Prop
 |some (.ai _)=>True
 |some (.dK _)=>True
 |some (.dT _)=>True
 |some (.set _ _)=>True
 |some (.ins _ _ _)=>True
 |some (.ext _)=>True
 |some (.memo _ _)=>True
 |some (.dn _)=>True
 |_=>False
section
variable {P:bB} {w:World} {H:Hp} {h h':Heap} {x e:Addr} {o':HO}
def dD.write (ok:dD P w H h) (i:nv (H x)) (o:e=x\/H e=some (.aw x)) (k: ∀b u,b≠e->h.get? b=some u->h'.get? b=some u) (n: ∃u,h'.get? e=some u)
   (new:a6 P w (aH H x o') h' x o'):dD P w (aH H x o') h':=λb u q=>by
 have d: ∀c y,H c=some (.aw y)->c≠x:=λc y r z=>by subst z;rw [r] at i;exact i
 have g: ∀c j,H c=some (.ak j)->c≠x:=λc j r z=>by subst z;rw [r] at i;exact i
 by_cases l:b=x
 . subst l;rw [ju] at q;cases q;exact new
 . rw [jF l] at q
   by_cases a:b=e
   . have p:H b=some (.aw x):=by
       rcases o with z|z
       . exact absurd (a.trans z) l
       . rw [a];exact z
     rw [q] at p;cases p;obtain ⟨v,B⟩:=n;exact ⟨v,by rw [a];exact B⟩
   . refine (ok b u q).a5 (λc v hc r=>k c v ?_ r) (λc r=>by rw [jF (d c b r)];exact r) λc j r=>by rw [jF (g c j r)];exact r
     rcases hc with rfl|hc
     . exact a
     . rintro rfl;rcases o with z|z
       . exact d c b hc z
       . rw [hc] at z;cases z;exact l rfl
end
structure Un (fs ex:List Addr) (H H':Hp) (h h':Heap):Prop where
 keep: ∀b o,h.get? b=some o->H b=none->b∉fs->b∉ex->h'.get? b=some o
 slot: ∀b o,h.get? b=some o->H b=none->b∈fs->b∉ex-> ∃sl,h'.get? b=some {o with slots:=sl}
 free: ∀b o,h.get? b=some o->H b=none->b∉ex->H' b=none
 there: ∀b o,h.get? b=some o->b∉ex-> ∃o',h'.get? b=some o'
 dE: ∀b xs,H b=some (.ak xs)->H' b=some (.ak xs)
 eA: ∀b o u,H b=some (.bE o u)->H' b=some (.bE o u)
 eP: ∀b ps,H b=some (.pc ps)-> ∃more,H' b=some (.pc (ps++more))
section
variable {fs Po ex ex':List Addr} {H H1 H2:Hp} {h h1 h2 h':Heap} {a x e:Addr} {o:HO}
def Un.any (u:Un fs ex H H1 h h1) {b:Addr} {ob:Obj} (q:h.get? b=some ob) (n:H b=none) (c:b∉ex): ∃g,h1.get? b=some {ob with slots:=g}:=by
 by_cases d:b∈fs
 . exact u.slot b ob q n d c
 . exact ⟨ob.slots,u.keep b ob q n d c⟩
def Un.kept (k: ∀b u,h.get? b=some u->h'.get? b=some u):Un fs ex H H h h':=
 ⟨λb ob q _ _ _=>k b ob q,λb ob q _ _ _=>⟨ob.slots,k b ob q⟩,λ_ _ _ n _=>n,λb ob q _=>⟨ob,k b ob q⟩,λ_ _ q=>q,λ_ _ _ q=>q,λ_ c q=>⟨#[],by rw [q];simp⟩⟩
def Un.refl:Un fs ex H H h h:=Un.kept λ_ _ q=>q
def Un.laid (k: ∀b u,h.get? b=some u->h'.get? b=some u) (d:h.objs.size<=a) (c:H a=none):Un fs ex H (aH H a o) h h' where
 keep:=λb u q _ _ _=>k b u q
 slot:=λb u q _ _ _=>⟨u.slots,k b u q⟩
 free:=λb u q n _=>by rw [jF (dJ (fH (bO q) d))];exact n
 there:=λb u q _=>⟨u,k b u q⟩
 dE:=λb g q=>by rw [jF (ql q c)];exact q
 eA:=λb u g q=>by rw [jF (ql q c)];exact q
 eP:=λb i q=>⟨#[],by rw [jF (ql q c),q];simp⟩
def Un.write (d:nv (H x)) (p:e=x\/H e=some (.aw x)) (k: ∀b u,b≠e->h.get? b=some u->h'.get? b=some u) (g: ∃u,h'.get? e=some u):Un fs ex H (aH H x o) h h':=by
 have j: ∀b,H b=none->b≠x:=λb n z=>by subst z;rw [n] at d;exact d
 have l: ∀b,H b=none->b≠e:=λb n z=>by
   subst z;rcases p with r|r
   . exact j b n r
   . rw [n] at r;cases r
 have i: ∀b u,H b=some u-> ¬nv (some u)->b≠x:=λb u q nm z=>by subst z;rw [q] at d;exact nm d
 refine ⟨λb u q n _ _=>k b u (l b n) q,λb u q n _ _=>⟨u.slots,k b u (l b n) q⟩,λb u q n _=>by rw [jF (j b n)];exact n,λb u q _=>?_,
   λb v q=>by rw [jF (i b _ q λz=>z)];exact q,λb u v q=>by rw [jF (i b _ q λz=>z)];exact q,λb w q=>⟨#[],by rw [jF (i b _ q λz=>z),q];simp⟩⟩
 by_cases c:b=e
 . subst c;exact g
 . exact ⟨u,k b u c q⟩
end
noncomputable def ve (h:Heap) (H:Hp):List Addr:=(lC h.objs.size).filter λa=>(H a).isSome
def i6 (h:Heap) (H:Hp):Heap:=rR h (ve h H)
def Pp (h:Heap) (H:Hp):(i6 h H).objs.size=h.objs.size:=PySem.W.hideAll_size _ _
def Pq {h:Heap} {H:Hp} {b:Addr} {o:Obj} (e:h.get? b=some o) (n:H b=none):(i6 h H).get? b=some o:=
 Ef _ e λa=>by
  have q:=(List.mem_filter.mp a).2;rw [n] at q;simp at q
def Pr {h:Heap} {H:Hp} {b:Addr} {o:Obj} (e:(i6 h H).get? b=some o):h.get? b=some o/\H b=none:=by
 have a:=Ap (ve h H) e;refine ⟨a,?_⟩
 cases q:H b with
 |none=>rfl
 |some x=>
  have z:(i6 h H).get? b=none:=PySem.W.hideAll_none (ve h H) (List.mem_filter.mpr ⟨pd.mpr (bO a),by simp [q]⟩);rw [z] at e;cases e
def Ps (g h:Heap) (L:Addr):List (Addr×Obj):=(lC h.objs.size).filterMap λa=>if a=L\/(g.get? a).isSome=true then none else (h.get? a).map λo=>(a,o)
def rest (g h:Heap) (L d:Addr):List (Addr×Obj):=(Ps g h L).filter λp=>decide (p.1≠d)
structure Mod (K:aC) (mg:Vj) (af:Heap):Prop where
 oW:K.In af
 glob:af.Ns cc mg
 blt: ∃mb,af.Ns builtinsNs mb/\ ∀x:Str,x≠ "__name__" ->mb x=lD x
 nolimit:af.NoLimit
structure Cx where
 prog:bB
 w:World
 K:aC
 mg:Str->Option Value
 af:Heap
 A:bH
 N:List Str
 dF:aM
 i7:Hp
 env:Env
 outer:List Env
 stack:List Env
 ex:List Addr
 fn:Str->Bool
 bM:Bool
 pn:List (Addr×Obj)
 xe:Value->aM->Prop
abbrev UO (X:Cx) (e:Expr) (a:List Expr):Prop:=bb (e::a) X.env=(false,eval e X.env)::bb a X.env
abbrev UN (X:Cx) (p:Pos) (a:List Expr):Prop:=(dL p (bb a X.env)).any (·.1)=false
abbrev UM (X:Cx) (x:Str):Prop:=X.fn x=true\/X.env.scope.names.lookup x=some .local
noncomputable def cH (l:List Env):List Addr:=l.filterMap (·.frame)
abbrev Cx.fs (X:Cx):List Addr:=cH X.outer
def gM (a:Scope) (x:Str):Prop:=a.names.lookup x=some .local\/a.names.lookup x=some .cell\/a.names.lookup x=some .free
def Loc (a:Scope) (x:Str):Prop:=a.names.lookup x=some .local\/a.names.lookup x=some .cell
def Look (env:Env) (h:Heap) (m:Vj) (x:Str) (u:Value):Prop:=
 (env.kindOf x=some .local/\m x=some u)\/((env.kindOf x=some .cell\/env.kindOf x=some .free)/\ ∃c,env.cells.lookup x=some c/\h.IsCell c (some u))
structure Cx.Ok (X:Cx):Prop where
 mod:Mod X.K X.mg X.af
 kind:X.env.scope.kind= .function
 glob:X.env.globals=cc
 blt:X.env.builtins=builtinsNs
 above:X.dF.heap.objs.size<=X.env.locals
 inj: ∀x y c,X.env.cells.lookup x=some c->X.env.cells.lookup y=some c->x=y
 has: ∀x,(X.env.kindOf x=some .cell\/X.env.kindOf x=some .free)-> ∃c,X.env.cells.lookup x=some c
 pe: ∀x c,X.fn x=true->X.env.cells.lookup x=some c->X.dF.heap.objs.size<=c
 hd:X.bM=true->X.A.handled=none
 frames:X.A.frames=some X.stack
 qx:X.stack=X.outer\/(X.stack=X.env::X.outer/\X.env.frame=some X.env.locals)
 qD: ∀b∈X.ex,b≠X.env.locals/\ ∀x c,X.env.cells.lookup x=some c->c≠b
 bs: ∀b o,X.af.get? b=some o->X.dF.heap.get? b=some o/\X.i7 b=none
 mC:X.af.objs.size<=X.dF.heap.objs.size
 ir: ∀b o,X.af.get? b=some o->b∉X.ex
 iu: ∀b∈X.ex,b∉X.fs
 eB:X.dF.heap.FunFrames X.af X.outer
 nN: ∀b∈X.fs,X.i7 b=none
structure aA (X:Cx) (pins:List (Addr×Obj)) (σ:List (Option V)) (H:Hp) (s:aM):Prop where
 ok:X.Ok
 os:s.os=X.dF.os
 bare:oX s.gens
 af:Un X.fs X.ex X.i7 H X.dF.heap s.heap
 loc: ∃m,s.heap.Ns X.env.locals m/\ ∀(i:Nat) (x:Str) (v:V),X.N[i]?=some x->σ[i]?=some (some v)->gM X.env.scope x-> ∃u,aO v u/\Look X.env s.heap m x u
 cell: ∀x c,X.env.cells.lookup x=some c-> ∃v,s.heap.IsCell c v
 free:H X.env.locals=none
 ce: ∀x c,X.env.cells.lookup x=some c->H c=none
 pin: ∀p∈X.pn++pins,s.heap.get? p.1=some p.2/\H p.1=none/\p.1≠X.env.locals/\p.1∉X.fs/\ ∀v,p.2.data≠ .cell v
 aV:dD X.prog X.w H s.heap
 len:σ.length=X.N.length
section
variable {X:Cx} {g:List (Addr×Obj)} {σ:List (Option V)} {H H':Hp} {s:aM} {h':Heap}
def Cx.Ok.Eg (ok:X.Ok) {b:Addr} {o:Obj} (e:X.af.get? b=some o):b∉X.fs:=λa=>by
 have:=(ok.eB.mem a).1;rw [e] at this;cases this
def aA.bs (I:aA X g σ H s): ∀b o,X.af.get? b=some o->s.heap.get? b=some o/\H b=none:=λb o e=>
 ⟨I.af.keep b o (I.ok.bs b o e).1 (I.ok.bs b o e).2 (I.ok.Eg e) (I.ok.ir b o e),I.af.free b o (I.ok.bs b o e).1 (I.ok.bs b o e).2 (I.ok.ir b o e)⟩
def aA.bk (I:aA X g σ H s): ∀b o,X.af.get? b=some o->s.heap.get? b=some o:=λb o e=>(I.bs b o e).1
def aA.mod (I:aA X g σ H s):Mod X.K X.mg X.af:=I.ok.mod
def aA.eD (I:aA X g σ H s):X.K.In s.heap:=I.ok.mod.oW.keeps I.bk
def aA.lt (I:aA X g σ H s):X.env.locals<s.heap.objs.size:=let ⟨_,a,_⟩:=I.loc;a.lt
def aA.sz (I:aA X g σ H s):X.dF.heap.objs.size<=s.heap.objs.size:=dG I.ok.above (Nat.le_of_lt I.lt)
def aA.Eh (I:aA X g σ H s) {a:Addr} (h:s.heap.objs.size<=a):a∉X.fs:=λc=>by
 obtain ⟨_,o,d,_⟩:=I.ok.eB.mem c;exact absurd (fH (bO d) (dG I.sz h)) (oV _)
def aA.nO (I:aA X g σ H s): ∀x c,X.env.cells.lookup x=some c->c≠X.env.locals:=λx c e z=>by
 obtain ⟨v,o,h,hd⟩:=I.cell x c e;obtain ⟨m,⟨i,j,l,a,d,_⟩,_⟩:=I.loc;rw [z,a] at h;cases h;rw [d] at hd;cases hd
def aA.eB (I:aA X g σ H s):s.heap.FunFrames X.af X.outer:=by
 have all: ∀(l:List Env),(∀b∈cH l,b∈X.fs)->X.dF.heap.FunFrames X.af l->s.heap.FunFrames X.af l:=by
  intro l
  induction l with
  |nil=>intro _ _;trivial
  |cons env r i=>
   intro h hl;obtain ⟨hk,⟨L,o,a,j,n,hd⟩,hr⟩:=hl;have c:=h L (by unfold cH;rw [Cw,a];exact lE);obtain ⟨p,e⟩:=I.af.slot L o n (I.ok.nN L c) c λz=>I.ok.iu L z c
   exact ⟨hk,⟨L,_,a,j,e,hd⟩,i (λb d=>h b (by unfold cH;rw [Cw,a];exact gc _ d)) hr⟩
 exact all X.outer (λ_ d=>d) I.ok.eB
def aA.stack (I:aA X g σ H s):s.heap.FunFrames X.af X.stack:=by
 rcases I.ok.qx with e| ⟨e,a⟩
 . rw [e];exact I.eB
 . rw [e];obtain ⟨m,c,_⟩:=I.loc;refine .cons (by rw [I.ok.kind];decide) a c ?_ I.eB;exact Heap.get?_none_of_le (dG I.ok.mC I.ok.above)
def aA.iw (I:aA X g σ H s): ∀b∈cH X.stack,b∈X.env.locals::X.fs:=λb a=>by
 rcases I.ok.qx with e| ⟨e,c⟩
 . rw [e] at a;exact gc _ a
 . rw [e] at a;unfold cH at a;rw [Cw,c] at a;exact a
def aA.cO (I:aA X g σ H s): ∀b∈cH X.stack,H b=none:=λb hb=>by
 rcases bA.mp (I.iw b hb) with e|hb
 . rw [e];exact I.free
 . obtain ⟨_,o,a,_⟩:=I.ok.eB.mem hb;exact I.af.free b o a (I.ok.nN b hb) λz=>I.ok.iu b z hb
def aA.step {g':Array GenState} {t':Nat} {d':Drawn} {ch:List Addr} (I:aA X g σ H s)
   (h: ∀b∈ch,(b∈X.ex\/X.dF.heap.objs.size<=b)/\b≠X.env.locals/\(∀x c,X.env.cells.lookup x=some c->c≠b)/\ ∀p∈X.pn++g,p.1≠b)
   (keep: ∀b o,b≠X.env.locals->b∉X.fs->b∉ch->s.heap.get? b=some o->H b=none->h'.get? b=some o)
   (slot: ∀b o,b≠X.env.locals->b∈X.fs->b∉ch->s.heap.get? b=some o->H b=none-> ∃Q,h'.get? b=some {o with slots:=Q}) (free: ∀b o,b∉ch->s.heap.get? b=some o->H b=none->H' b=none)
   (there: ∀b o,b∉ch->s.heap.get? b=some o-> ∃L,h'.get? b=some L)
   (dE: ∀b B,H b=some (.ak B)->H' b=some (.ak B)) (eA: ∀b o u,H b=some (.bE o u)->H' b=some (.bE o u)) (eP: ∀b O,H b=some (.pc O)-> ∃more,H' b=some (.pc (O++more)))
   (ns: ∀m,s.heap.Ns X.env.locals m->h'.Ns X.env.locals m) (aV:dD X.prog X.w H' h') (hg:oX g'):
   aA X g σ H' {s with heap:=h',gens:=g',drawn:=d',toks:=t'}:=by
 have N: ∀b o,X.dF.heap.get? b=some o->b≠X.env.locals:=λb o e=>dJ (fH (bO e) I.ok.above)
 have y: ∀b o,X.dF.heap.get? b=some o->b∉X.ex->b∉ch:=λb o e a E=>by
   rcases (h b E).1 with z|z
   . exact a z
   . exact absurd (fH (bO e) z) (oV _)
 have j: ∀x c,X.env.cells.lookup x=some c-> ∀v,s.heap.IsCell c v->h'.IsCell c v:=λx c e v ⟨o,J,hd⟩=>by
   have w:c∉ch:=λz=>(h c z).2.2.1 x c e rfl
   by_cases Y:c∈X.fs
   . obtain ⟨Q,q⟩:=slot c o (I.nO x c e) Y w J (I.ce x c e);exact ⟨_,q,hd⟩
   . exact ⟨o,keep c o (I.nO x c e) Y w J (I.ce x c e),hd⟩
 refine ⟨I.ok,I.os,hg,⟨λb o e n E a=>?_,λb o e n E a=>?_,λb o e n a=>?_,λb o e a=>?_,λb B e=>dE b B (I.af.dE b B e),λb o B e=>eA b o B (I.af.eA b o B e),λb O e=>?_⟩,?_,λx c e=>?_,?_,λx c e=>?_,λp hp=>?_,aV,I.len⟩
 . exact keep b o (N b o e) E (y b o e a) (I.af.keep b o e n E a) (I.af.free b o e n a)
 . obtain ⟨Q,e1⟩:=I.af.slot b o e n E a;obtain ⟨U,e2⟩:=slot b _ (N b o e) E (y b o e a) e1 (I.af.free b o e n a);exact ⟨U,e2⟩
 . obtain ⟨L,e1⟩:=I.af.there b o e a;exact free b L (y b o e a) e1 (I.af.free b o e n a)
 . obtain ⟨L,e1⟩:=I.af.there b o e a;exact there b L (y b o e a) e1
 . obtain ⟨m1,e1⟩:=I.af.eP b O e;obtain ⟨m2,e2⟩:=eP b _ e1;exact ⟨m1++m2,by rw [e2,Array.append_assoc]⟩
 . obtain ⟨m,hn,hl⟩:=I.loc;refine ⟨m,ns m hn,λi x v e1 e2 e3=>?_⟩;obtain ⟨u,r,l⟩:=hl i x v e1 e2 e3;refine ⟨u,r,?_⟩;rcases l with l| ⟨k,c,e,z⟩
   . exact .inl l
   . exact .inr ⟨k,c,e,j x c e _ z⟩
 . obtain ⟨v,z⟩:=I.cell x c e;exact ⟨v,j x c e v z⟩
 . obtain ⟨m,⟨o,_,_,J,_⟩,_⟩:=I.loc;exact free _ o (λz=>(h _ z).2.1 rfl) J I.free
 . obtain ⟨v,o,J,hd⟩:=I.cell x c e;exact free c o (λz=>(h c z).2.2.1 x c e rfl) J (I.ce x c e)
 . obtain ⟨e,n,ne,nf,d⟩:=I.pin p hp;have w:p.1∉ch:=λz=>(h p.1 z).2.2.2 p hp rfl
   exact ⟨keep p.1 p.2 ne nf w e n,free p.1 p.2 w e n,ne,nf,d⟩
def aA.un {j:Nat} (I:aA X g σ H s) (u:Un X.fs [] H H' s.heap h') (aV:dD X.prog X.w H' h'):aA X g σ H' {s with heap:=h',toks:=j}:=by
 obtain ⟨m,⟨o,v,w,i,r⟩,_⟩:=id I.loc;obtain ⟨y,l⟩:=u.any i I.free (by simp)
 exact I.step (ch:=[]) (λ_ z=>nomatch z) (λb o _ c _ e n=>u.keep b o e n c (by simp)) (λb o _ c _ e n=>u.slot b o e n c (by simp)) (λb o _ e n=>u.free b o e n (by simp)) (λb o _ e=>u.there b o e (by simp)) u.dE u.eA u.eP (λB p=>by
  obtain ⟨E,d,h,a,q⟩:=p;rw [i] at a;cases a
  exact ⟨_,d,h,l,q⟩) aV I.bare
def aA.call {q:Array GenState} {y:Nat} {B:Drawn} {v:List Addr} (I:aA X g σ H s) (u:Un (cH X.stack) v H H' s.heap h') (aV:dD X.prog X.w H' h') (hg:oX q)
  (d: ∀b∈v,(b∈X.ex\/X.dF.heap.objs.size<=b)/\b≠X.env.locals/\(∀x c,X.env.cells.lookup x=some c->c≠b)/\ ∀p∈X.pn++g,p.1≠b):
  aA X g σ H' {s with heap:=h',gens:=q,drawn:=B,toks:=y}:=by
 obtain ⟨m,⟨o,N,O,w,r⟩,_⟩:=id I.loc;obtain ⟨Q,i⟩:=u.any w I.free λz=>(d _ z).2.1 rfl
 exact I.step d (λb o i E a e n=>u.keep b o e n (λz=>(bA.mp (I.iw b z)).elim i E) a) (λb o _ _ a e n=>u.any e n a) (λb o a e n=>u.free b o e n a) (λb o a e=>u.there b o e a) u.dE u.eA u.eP (λU J=>by
  obtain ⟨Y,j,l,h,L⟩:=J;rw [w] at h;cases h
  exact ⟨_,j,l,i,L⟩) aV hg
def aA.turned {t':Nat} {a:Addr} (I:aA X g σ H s) (k: ∀b o,b≠a->s.heap.get? b=some o->h'.get? b=some o) (j:H a=none) (i:a≠X.env.locals)
   (h1:a∈X.ex\/X.dF.heap.objs.size<=a) (h2: ∀x c,X.env.cells.lookup x=some c->c≠a) (l: ∀p∈X.pn++g,p.1≠a):aA X g σ H {s with heap:=h',toks:=t'}:=by
 have h: ∀b u,H b=some u->b≠a:=λb u e z=>by rw [z,j] at e;cases e
 refine I.step (ch:=[a]) (λb w=>?_) (λb o _ _ d e _=>k b o (λz=>d (by simp [z])) e) (λb o _ _ d e _=>⟨o.slots,k b o (λz=>d (by simp [z])) e⟩) (λ_ _ _ _ n=>n)
   (λb o d e=>⟨o,k b o (λz=>d (by simp [z])) e⟩) (λ_ _ e=>e) (λ_ _ _ e=>e) (λb L e=>⟨#[],by rw [e];simp⟩) (λm y=>?_) (λb u e=>?_) I.bare
 . have e:b=a:=by simpa using w
   subst e;exact ⟨h1,i,h2,l⟩
 . obtain ⟨o,B,E,J,r⟩:=y;exact ⟨o,B,E,k _ o (gm i) J,r⟩
 . refine (I.aV b u e).a5 (λc v d q=>k c v ?_ q) (λ_ q=>q) λ_ _ q=>q
   rcases d with z|z
   . rw [z];exact h b u e
   . exact h c _ z
def aA.tok (I:aA X g σ H s) (t:Nat):aA X g σ H {s with toks:=t}:=I.un Un.refl I.aV
def aA.kept {t':Nat} (I:aA X g σ H s) (k: ∀b u,s.heap.get? b=some u->h'.get? b=some u):aA X g σ H {s with heap:=h',toks:=t'}:=I.un (Un.kept k) (I.aV.kept k)
def aA.laid {a:Addr} {o:HO} {t':Nat} (I:aA X g σ H s) (k: ∀b u,s.heap.get? b=some u->h'.get? b=some u) (c:s.heap.objs.size<=a) (new:a6 X.prog X.w (aH H a o) h' a o):
 aA X g σ (aH H a o) {s with heap:=h',toks:=t'}:=I.un (Un.laid k c (I.aV.fresh c)) (I.aV.laid k c new)
def aA.write {x e:Addr} {o:HO} {h:Nat} (I:aA X g σ H s) (c:nv (H x)) (d:e=x\/H e=some (.aw x)) (k: ∀b u,b≠e->s.heap.get? b=some u->h'.get? b=some u) (a: ∃u,h'.get? e=some u)
 (new:a6 X.prog X.w (aH H x o) h' x o):aA X g σ (aH H x o) {s with heap:=h',toks:=h}:=I.un (Un.write c d k a) (I.aV.write c d k a new)
def aA.mo {a:List (Addr×Obj)} (I:aA X g σ H s) (h: ∀p∈a,s.heap.get? p.1=some p.2/\H p.1=none/\p.1≠X.env.locals/\p.1∉X.fs/\ ∀v,p.2.data≠ .cell v):aA X a σ H s:=
 ⟨I.ok,I.os,I.bare,I.af,I.loc,I.cell,I.free,I.ce,λp c=>(mD.mp c).elim (λz=>I.pin p (Aq _ z)) (h p),I.aV,I.len⟩
def Kf {N:List Str} (c:N.Nodup) {i j:Nat} {x:Str} (a:N[i]?=some x) (b:N[j]?=some x):i=j:=by
 obtain ⟨d,e1⟩:=ic.mp a;obtain ⟨e,e2⟩:=ic.mp b;exact (List.getElem_inj c).mp (e1.trans e2.symm)
def Vd {M:Model} {A:bH} {E:Vh} {i:Nat} {x:Str} {v:V} {u:Value} {Q:Unit->aM->Prop} (I:aA X g σ H s) (hN:X.N.Nodup) (Y:X.N[i]?=some x) (B:Loc X.env.scope x) (r:aO v u)
   (h: ∀s',aA X g (σ.set i (some v)) H s'->(∃a,ph a s.heap s'.heap/\(a=X.env.locals\/X.env.cells.lookup x=some a))->Q () s') (hf:UM X x:=by first|exact .inl rfl|exact .inr rfl|assumption):wpAny M A (storeName X.env x u) Q E s:=by
 obtain ⟨m,hn,hl⟩:=id I.loc;have Ei:(X.env.scope.kind== .class|| (X.env.scope.kind== .module&&X.env.locals !=X.env.globals))=false:=by rw [I.ok.kind];rfl
 have L:i<σ.length:=by rw [I.len];exact (ic.mp Y).1
 have nO:=I.nO
 have w: ∀ {a:Addr} {h':Heap},(∃o,s.heap.get? a=some o/\H a=none)->ph a s.heap h'->dD X.prog X.w H h':=λ{a h'} ha l b ob e=>by
   obtain ⟨_,_,J⟩:=ha;refine (I.aV b ob e).a5 (λc w' hc q=>(l.2 c ?_).trans q) (λ_ q=>q) λ_ _ q=>q
   rintro rfl;rcases hc with rfl|hc
   . rw [J] at e;cases e
   . rw [J] at hc;cases hc
 rcases B with hk|hk
 . refine wpAny_storeName_local hk hn (λh' Pu l=>?_) Ei;obtain ⟨oL,_,_,Pw,_⟩:=id hn;refine h _ ⟨I.ok,I.os,I.bare,⟨λb o e n N B=>?_,λb o e n N B=>?_,I.af.free,λb o e B=>?_,I.af.dE,I.af.eA,I.af.eP⟩,⟨_,Pu,λj y v' e1 e2 e3=>?_⟩,λy c e=>?_,I.free,I.ce,λp hp=>?_,w ⟨oL,Pw,I.free⟩ l,by simpa using I.len⟩ ⟨_,l,.inl rfl⟩
   . exact (l.2 b (dJ (fH (bO e) I.ok.above))).trans (I.af.keep b o e n N B)
   . obtain ⟨sl,e1⟩:=I.af.slot b o e n N B;exact ⟨sl,(l.2 b (dJ (fH (bO e) I.ok.above))).trans e1⟩
   . obtain ⟨o',e1⟩:=I.af.there b o e B;exact ⟨o',(l.2 b (dJ (fH (bO e) I.ok.above))).trans e1⟩
   . by_cases O:j=i
     . subst O;rw [Y] at e1;cases e1;rw [rS L] at e2;cases e2;exact ⟨u,r,.inl ⟨hk,by simp⟩⟩
     . rw [Cy (gm O)] at e2;obtain ⟨u',r',q⟩:=hl j y v' e1 e2 e3;refine ⟨u',r',?_⟩;rcases q with ⟨k,e⟩| ⟨k,c,e,z⟩
       . refine .inl ⟨k,?_⟩;have:y≠x:=λe=>O (Kf hN e1 (e▸Y))
         simp [this,e]
       . exact .inr ⟨k,c,e,z.sameBut l (nO y c e)⟩
   . obtain ⟨w',z⟩:=I.cell y c e;exact ⟨w',z.sameBut l (nO y c e)⟩
   . obtain ⟨e,n,ne,nf,d⟩:=I.pin p hp;exact ⟨(l.2 p.1 ne).trans e,n,ne,nf,d⟩
 . have U:X.fn x=true:=by
     rcases hf with z|z
     . exact z
     . rw [z] at hk;cases hk
   obtain ⟨c,hc⟩:=I.ok.has x (.inl hk);obtain ⟨w',z⟩:=I.cell x c hc;refine wpAny_storeName_cell I.ok.kind hk hc z (λh' vr l=>?_);obtain ⟨oc,K2,Ej⟩:=id z;refine h {s with heap:=h'} ⟨I.ok,I.os,I.bare,⟨λb o e n N B=>?_,λb o e n N B=>?_,I.af.free,λb o e B=>?_,I.af.dE,I.af.eA,I.af.eP⟩,⟨m,hn.sameBut l (gm (nO x c hc)),λj y v' e1 e2 e3=>?_⟩,λy c' e=>?_,I.free,I.ce,λp hp=>?_,w ⟨oc,K2,I.ce x c hc⟩ l,by simpa using I.len⟩ ⟨c,l,.inr hc⟩
   . exact (l.2 b (dJ (fH (bO e) (I.ok.pe x c U hc)))).trans (I.af.keep b o e n N B)
   . obtain ⟨sl,e1⟩:=I.af.slot b o e n N B;exact ⟨sl,(l.2 b (dJ (fH (bO e) (I.ok.pe x c U hc)))).trans e1⟩
   . obtain ⟨o',e1⟩:=I.af.there b o e B;exact ⟨o',(l.2 b (dJ (fH (bO e) (I.ok.pe x c U hc)))).trans e1⟩
   . by_cases O:j=i
     . subst O;rw [Y] at e1;cases e1;rw [rS L] at e2;cases e2;exact ⟨u,r,.inr ⟨.inl hk,c,hc,vr⟩⟩
     . rw [Cy (gm O)] at e2;obtain ⟨u',r',q⟩:=hl j y v' e1 e2 e3;refine ⟨u',r',?_⟩;rcases q with q| ⟨k,c',e,z'⟩
       . exact .inl q
       . refine .inr ⟨k,c',e,z'.sameBut l ?_⟩;rintro rfl;exact O (Kf hN e1 (I.ok.inj _ _ _ e hc▸Y))
   . by_cases K3:c'=c
     . subst K3;exact ⟨_,vr⟩
     . obtain ⟨w2,z2⟩:=I.cell y c' e;exact ⟨w2,z2.sameBut l K3⟩
   . obtain ⟨e,n,ne,nf,d⟩:=I.pin p hp;refine ⟨(l.2 p.1 ?_).trans e,n,ne,nf,d⟩;intro q;rw [q,K2] at e;have q':=fY e;exact d w' (by rw [<-q'];exact Ej)
def WF {M:Model} {A:bH} {E:Vh} {i:Nat} {x:Str} {v:V} {u:Value} {Q:Unit->aM->Prop} (I:aA X g σ H s) (c:X.N.Nodup) (d:X.N[i]?=some x) (e:Loc X.env.scope x) (r:aO v u)
  (h: ∀a,aA X g (σ.set i (some v)) H a->Q () a) (j:UM X x:=by first|exact .inl rfl|exact .inr rfl|assumption):wpAny M A (storeName X.env x u) Q E s:=
 Vd I c d e r (λa l _=>h a l) j
def aA.fZ {s':aM} {d:List Addr} (I:aA X g σ H s) (h:s'.os=s.os) (u:Un (cH X.stack) d H H' s.heap s'.heap) (aV:dD X.prog X.w H' s'.heap) (hg:oX s'.gens)
  (a: ∀b∈d,(b∈X.ex\/X.dF.heap.objs.size<=b)/\b≠X.env.locals/\(∀x c,X.env.cells.lookup x=some c->c≠b)/\ ∀p∈X.pn++g,p.1≠b):aA X g σ H' s':=by
 obtain ⟨h',i,j,l,n⟩:=s';have e:=h;subst e;exact I.call u aV hg a
end
abbrev XK:=Value->Option Addr->Hp->Prop
abbrev St:=List (Option V)
abbrev VK:=V->Hp->Prop
abbrev TE:=St->Hp->VK->Prop
abbrev TT:=St->Hp->(Bool->Hp->Prop)->Prop
abbrev TA:=St->Hp->(List V->Hp->Prop)->Prop
structure Ends where
 nx:St->Hp->Prop
 rt:VK
 bk:St->Hp->Prop:=λ_ _=>False
 ct:St->Hp->Prop:=λ_ _=>False
abbrev TS:=Ends->St->Hp->Prop
def EP (X:Cx) (a:List (Addr×Obj)) (d:St) (Q:VK) (u:Value) (e:aM):Prop:= ∃v c,aA X a d c e/\aO v u/\Q v c
def TP (X:Cx) (a:List (Addr×Obj)) (d:St) (Q:Bool->Hp->Prop) (b:Bool) (e:aM):Prop:= ∃c,aA X a d c e/\Q b c
def AP (X:Cx) (a:List (Addr×Obj)) (e:St) (Q:List V->Hp->Prop) (g:List Value) (h:aM):Prop:= ∃c d,aA X a e d h/\aN c g/\Q c d
def SP (X:Cx) (c:List (Addr×Obj)) (D:Ends) (f:Flow) (e:aM):Prop:=
 match f with
 | .next=> ∃a d,aA X c a d e/\D.nx a d
 | .brk=> ∃a d,aA X c a d e/\D.bk a d
 | .cont=> ∃a d,aA X c a d e/\D.ct a d
 | .ret u=> ∃v a d,aA X c a d e/\aO v u/\D.rt v d
def PE (X:Cx) (e:Expr) (t:TE):Prop:=
 ∀(a:List (Addr×Obj)) (s:aM) (c:St) (H:Hp) (Q:VK),aA X a c H s->t c H Q->wpAny (model X.prog X.w) X.A (eval e X.env) (EP X a c Q) X.xe s
def PT (X:Cx) (e:Expr) (t:TT):Prop:=
 ∀(a:List (Addr×Obj)) (s:aM) (c:St) (H:Hp) (Q:Bool->Hp->Prop),aA X a c H s->t c H Q->wpAny (model X.prog X.w) X.A (isTrue e X.env (eval e X.env)) (TP X a c Q) X.xe s
def PW (X:Cx) (e:Expr) (t:TT):Prop:=
 ∀(whole:Sem Value) (a:List (Addr×Obj)) (s:aM) (c:St) (H:Hp) (Q:Bool->Hp->Prop),aA X a c H s->t c H Q->wpAny (model X.prog X.w) X.A (isTrue e X.env whole) (TP X a c Q) X.xe s
def PW.pt {X:Cx} {e:Expr} {t:TT} (h:PW X e t):PT X e t:=h _
def PA (X:Cx) (e:List Expr) (t:TA):Prop:=
 ∀(c:Pos) (a:List (Addr×Obj)) (s:aM) (d:St) (H:Hp) (Q:List V->Hp->Prop),aA X a d H s->t d H Q->wpAny (model X.prog X.w) X.A (spliced (dL c (bb e X.env))) (AP X a d Q) X.xe s
def PS (X:Cx) (st:Stmt) (t:TS):Prop:=
 ∀(a:List (Addr×Obj)) (s:aM) (c:St) (H:Hp) (D:Ends),aA X a c H s->t D c H->wpAny (model X.prog X.w) X.A (exec st X.env) (SP X a D) X.xe s
def dM (X:Cx) (st:List Stmt) (t:TS):Prop:=
 ∀(a:List (Addr×Obj)) (s:aM) (c:St) (H:Hp) (D:Ends),aA X a c H s->t D c H->wpAny (model X.prog X.w) X.A (execs st X.env) (SP X a D) X.xe s
def bi {c:Type} {t:Sem c} {Q d:c->aM->Prop} {M:Model} {A:bH} {E:Vh} {s:aM} (h:wpAny M A t Q E s) (e: ∀a s,Q a s->d a s):wpAny M A t d E s:=ie h e λ_ _ x=>x
section
variable {X:Cx}
def Ek (i:Nat):TE:=λa H Q=> ∃v,a[i]?=some (some v)/\Q v H
def tC (v:V):TE:=λ_ H Q=>Q v H
def xF {i:Nat} {x:Str} {L:Pos} (p:X.N[i]?=some x) (q:gM X.env.scope x) (j:YU x:=by decide) (n:WV x:=by decide):PE X (.Name x L) (Ek i):=by
 intro g s w H Q I h;obtain ⟨v,e,h⟩:=h;obtain ⟨m,y,z⟩:=I.loc;obtain ⟨u,r,l⟩:=z i x v p e q;have d:EP X g w Q u s:=⟨v,H,I,r,h⟩
 rcases l with ⟨hk,B⟩| ⟨hk,c,o,a⟩
 . exact wpAny_Name (wpAny_loadName_local I.ok.kind hk y B d) j
 . rcases hk with hk|hk
   . exact wpAny_Name (wpAny_loadName_cell I.ok.kind hk o a d) j
   . exact wpAny_Name (wpAny_loadName_free I.ok.kind hk o a d n) j
def Px {i j L}:PE X (.Constant (.int i) j L) (tC (.int i)):=λ_ _ _ H _ I h=>wpAny_Constant_int ⟨.int i,H,I.tok _,⟨_,rfl⟩,h⟩
def Py {b j L}:PE X (.Constant (.bool b) j L) (tC (.bl b)):=λ_ _ _ H _ I h=>Constant_bool ⟨.bl b,H,I,rfl,h⟩
def K4 {j L}:PE X (.Constant .none j L) (tC .aU):=λ_ _ _ H _ I h=>Constant_none ⟨.aU,H,I,rfl,h⟩
def Pz {x j L}:PE X (.Constant (.str x) j L) (tC (.str x)):=λ_ _ _ H _ I h=>Calls.Constant_str ⟨.str x,H,I.tok _,⟨_,rfl⟩,h⟩
def Gl (X:Cx) (x:Str):Prop:=X.env.kindOf x=some .globalImplicit
def yO {E:Vh} {a:List (Addr×Obj)} {s:aM} {c:St} {H:Hp} {x:Str} {u:Value} {L:Pos} {Q:Vh} (I:aA X a c H s) (d:Gl X x) (e:X.mg x=some u) (h:Q u s)
  (g:YU x:=by decide):wpAny (model X.prog X.w) X.A (eval (.Name x L) X.env) Q E s:=
 Calls.Name_function_global I.ok.kind d (Calls.loadGlobal_global (by rw [I.ok.glob];exact I.mod.glob.keeps I.bk) e h) g
def Wr {E:Vh} {a:List (Addr×Obj)} {s:aM} {c:St} {H:Hp} {x:Str} {u:Value} {L:Pos} {Q:Vh} (I:aA X a c H s) (d:Gl X x) (e:X.mg x=none) (g:lD x=some u) (h:Q u s)
  (i:x≠ "__name__" :=by decide) (j:YU x:=by decide):wpAny (model X.prog X.w) X.A (eval (.Name x L) X.env) Q E s:=by
 obtain ⟨o,l,n⟩:=I.mod.blt;exact Calls.Name_function_global I.ok.kind d (Calls.loadGlobal_builtin (by rw [I.ok.glob];exact I.mod.glob.keeps I.bk) e (by rw [I.ok.blt];exact l.keeps I.bk) ((n x i).trans g) h) j
def U0 {x:Str} {v:V} {u:Value} {L:Pos} (a:Gl X x) (c:X.mg x=some u) (r:aO v u) (d:YU x:=by decide):PE X (.Name x L) (tC v):=
 λ_ _ _ H _ I h=>yO I a c ⟨v,H,I,r,h⟩ d
def PB {x:Str} {v:V} {u:Value} {L:Pos} (a:Gl X x) (c:X.mg x=none) (d:lD x=some u) (r:aO v u) (e:x≠ "__name__" :=by decide) (g:YU x:=by decide):PE X (.Name x L) (tC v):=
 λ_ _ _ H _ I h=>Wr I a c d ⟨v,H,I,r,h⟩ e g
variable {a b:Expr} {J z:TE} {L:Pos}
def tB (t:TE):TT:=λd H Q=>t d H λx e=> ∃c,x= .bl c/\Q c e
def El {e:Expr} {t:TE} (h:PE X e t) (i: ∀whole,isTrue e X.env whole=(do let v<-whole;nw e.pos;mE [v] (truthy v)):=by intro _;rfl):PT X e (tB t):=by
 intro c s j H Q I hw;refine isTrue_plain (bi (h c s j H _ I hw) λv r g=>?_) (i _);obtain ⟨x,l,n,o,p⟩:=g;obtain ⟨d,rfl,q⟩:=p;cases o;exact pk ⟨l,n,q⟩
variable {tA B:TT} {rest:List Expr}
def Em (t u:TT):TT:=λd H Q=>t d H λc e=>if c=true then u d e Q else Q false e
def PC (t u:TT):TT:=λd H Q=>t d H λc e=>if c=true then Q true e else u d e Q
def Ar (t:TT):TT:=λd H Q=>t d H λc e=>Q (!c) e
def PD (g:PT X a tA):PW X (.BoolOp .And [a] L) tA:=by
 intro j d s i H Q I h;refine isTrue_and (bi (g d s i H Q I h) λc l e=>?_)
 cases c with
 |true=>exact isTrue_and_nil e
 |false=>exact e
def PF (g:PT X a tA):PW X (.BoolOp .Or [a] L) tA:=by
 intro j d s i H Q I h;refine isTrue_or (bi (g d s i H Q I h) λc l e=>?_)
 cases c with
 |false=>exact isTrue_or_nil e
 |true=>exact e
def PH (n:PT X a tA) (o:PW X (.BoolOp .And (b::rest) L) B):PW X (.BoolOp .And (a::b::rest) L) (Em tA B):=by
 intro p d s g H Q I h;refine isTrue_and (bi (n d s g H _ I h) λc q e=>?_);obtain ⟨i,j,l⟩:=e
 cases c with
 |true=>exact o p d q g i Q j l
 |false=>exact ⟨i,j,l⟩
def PJ (n:PT X a tA) (o:PW X (.BoolOp .Or (b::rest) L) B):PW X (.BoolOp .Or (a::b::rest) L) (PC tA B):=by
 intro p d s g H Q I h;refine isTrue_or (bi (n d s g H _ I h) λc q e=>?_);obtain ⟨i,j,l⟩:=e
 cases c with
 |true=>exact ⟨i,j,l⟩
 |false=>exact o p d q g i Q j l
def La (e:PT X a tA):PT X (.UnaryOp .Not a L) (Ar tA):=by
 intro d s g H Q I h;exact isTrue_not (e d s g H (λc i=>Q (!c) i) I h)
def PK (J z:TE):TE:=λd H Q=>J d H λx e=> ∃c,x= .bl c/\if c=true then z d e Q else Q (.bl false) e
def PL (J:TE):TE:=λd H Q=>J d H λx e=> ∃c,x= .bl c/\Q (.bl (!c)) e
def PM {d} {t:TE} (h:PE X a t):PE X (.BoolOp d [a] L) t:=λc s e H Q I hw=>BoolOp_one (h c s e H Q I hw)
def PN (n:PE X a J) (o:PE X (.BoolOp .And (b::rest) L) z):PE X (.BoolOp .And (a::b::rest) L) (PK J z):=by
 intro d s i H Q I h;refine BoolOp_and (bi (n d s i H _ I h) λv p g=>?_);obtain ⟨x,j,l,q,e⟩:=g;obtain ⟨c,rfl,e⟩:=e;cases q;refine pk ?_
 cases c with
 |true=>exact o d p i j Q l e
 |false=>exact ⟨.bl false,j,l,rfl,e⟩
def PP (i:PE X a J):PE X (.UnaryOp .Not a L) (PL J):=by
 intro d s j H Q I h;refine UnaryOp_ (bi (i d s j H _ I h) λv p e=>?_);obtain ⟨x,l,n,o,g⟩:=e;obtain ⟨c,rfl,g⟩:=g;cases o;exact not_of (pk ⟨.bl (!c),l,n,rfl,g⟩)
def PQ (t:TT) (J z:TE):TE:=λd H Q=>t d H λc e=>if c=true then J d e Q else z d e Q
def vK {c:Expr} (p:PT X c tA) (q:PE X a J) (r:PE X b z):PE X (.IfExp c a b L) (PQ tA J z):=by
 intro e s g H Q I h;refine wpAny_IfExp (bi (p e s g H _ I h) λd j i=>?_);obtain ⟨l,n,o⟩:=i
 cases d with
 |true=>exact q e j g l Q n o
 |false=>exact r e j g l Q n o
end
def cY (K:aC) (H:Hp) (a:Addr) (d:List V):Prop:=
 Rd H a (.ai d)\/
  ∃(o:Obj) (c:Array Value) (n:Nat),K.lookup a=some o/\o.cls= .type "list" /\o.dict=none/\o.data= .seq c n/\c.size<=aP/\aN d c.toList
def eQ (K:aC) (H:Hp) (a:Addr) (d:List V):Prop:=
 Rd H a (.ak d)\/
  ∃(o:Obj) (c:Array Value) (n:Nat),K.lookup a=some o/\o.cls= .type "tuple" /\o.data= .seq c n/\c.size<=aP/\aN d c.toList
noncomputable def En:Value->Option V
 | .none=>some .aU
 | .bool b=>some (.bl b)
 | .int i _=>some (.int i)
 | .str x _=>some (.str x)
 | .bytes b _=>some (.uR b)
 | .float b _=>some (.nM b)
 | .ref a=>some (.ref a)
 | .type n=>some (.ty n)
 |_=>none
def aO.abs {x:V} {u:Value} (r:aO x u):En u=some x:=by
 cases x with
 |aU=>cases r;rfl
 |bl _=>cases r;rfl
 |int _=>obtain ⟨t,rfl⟩:=r;rfl
 |str _=>obtain ⟨t,rfl⟩:=r;rfl
 |uR _=>obtain ⟨t,rfl⟩:=r;rfl
 |nM _=>obtain ⟨t,rfl⟩:=r;rfl
 |ref _=>cases r;rfl
 |ty _=>cases r;rfl
def aO.inj {x y:V} {u:Value} (r:aO x u) (q:aO y u):x=y:=fY (r.abs.symm.trans q.abs)
theorem aN.inj: ∀ {a c:List V} {d:List Value},aN a d->aN c d->a=c
 |_,_,_,.nil,.nil=>rfl
 |_,_,_,.cons r t,.cons e g=>by rw [r.inj e,aN.inj t g]
section
variable {X:Cx} {q:List (Addr×Obj)} {σ:St} {H:Hp} {s:aM} {a:Addr} {xs ys:List V}
def cY.of {K:aC} (h:H a=some (.ai xs)):cY K H a xs:= .inl (.inl h)
def eQ.of {K:aC} (h:H a=some (.ak xs)):eQ K H a xs:= .inl (.inl h)
def aA.list (I:aA X q σ H s) (h:cY X.K H a xs): ∃c:List Value,aN xs c/\PlainL s.heap a c.toArray/\xs.length<=aP:=by
 rcases h with h| ⟨o,c,n,hk,d,hd,g,hz,r⟩
 . obtain ⟨z,c,n,r,e⟩:=h.ok I.aV;exact ⟨c,r,⟨_,n,e,rfl,rfl,rfl⟩,z⟩
 . refine ⟨c.toList,r,⟨o,n,I.eD a o hk,d,hd,by simpa using g⟩,?_⟩;have e:=r.length;simp only [rT] at e;omega
def aA.tuple (I:aA X q σ H s) (h:eQ X.K H a xs): ∃c:List Value,aN xs c/\IsTup s.heap a c.toArray/\xs.length<=aP:=by
 rcases h with h| ⟨o,c,n,hk,d,g,hz,r⟩
 . obtain ⟨z,c,r,p⟩:=h.ok I.aV;exact ⟨c,r,p,z⟩
 . refine ⟨c.toList,r,⟨o,I.eD a o hk,d,n,by simpa using g⟩,?_⟩;have e:=r.length;simp only [rT] at e;omega
def aA.nP (I:aA X q σ H s) (h:cY X.K H a xs) (l:cY X.K H a ys):xs=ys:=by
 obtain ⟨g,r,⟨o,n,e,_,_,d⟩,_⟩:=I.list h;obtain ⟨c,p,⟨v,w,i,_,_,j⟩,_⟩:=I.list l;rw [e] at i;cases i;rw [d] at j;injection j with u _;have:g=c:=by simpa using congrArg Array.toList u
 subst this;exact r.inj p
def aA.mF (I:aA X q σ H s) (h:eQ X.K H a xs) (l:eQ X.K H a ys):xs=ys:=by
 obtain ⟨g,r,⟨o,e,_,n,d⟩,_⟩:=I.tuple h;obtain ⟨c,p,⟨v,i,_,w,j⟩,_⟩:=I.tuple l;rw [e] at i;cases i;rw [d] at j;injection j with u _;have:g=c:=by simpa using congrArg Array.toList u
 subst this;exact r.inj p
end
noncomputable abbrev Cx.gU (X:Cx) (E:Vh):Cx:={X with xe:=E}
abbrev Cx.lF (X:Cx):Cx:=X.gU λ_ _=>False
def Cx.Ok.gU {X:Cx} (ok:X.Ok) (E:Vh):(X.gU E).Ok:=
 ⟨ok.mod,ok.kind,ok.glob,ok.blt,ok.above,ok.inj,ok.has,ok.pe,ok.hd,ok.frames,ok.qx,ok.qD,ok.bs,ok.mC,ok.ir,ok.iu,ok.eB,ok.nN⟩
def Cx.Ok.dN {X:Cx} {E:Vh} (ok:(X.gU E).Ok):X.Ok:=
 ⟨ok.mod,ok.kind,ok.glob,ok.blt,ok.above,ok.inj,ok.has,ok.pe,ok.hd,ok.frames,ok.qx,ok.qD,ok.bs,ok.mC,ok.ir,ok.iu,ok.eB,ok.nN⟩
section
variable {X:Cx} {pins:List (Addr×Obj)} {σ:St} {H:Hp} {s:aM} {E:Vh}
def aA.gU (I:aA X pins σ H s) (E:Vh):aA (X.gU E) pins σ H s:=⟨I.ok.gU E,I.os,I.bare,I.af,I.loc,I.cell,I.free,I.ce,I.pin,I.aV,I.len⟩
def aA.dN (I:aA (X.gU E) pins σ H s):aA X pins σ H s:=⟨I.ok.dN,I.os,I.bare,I.af,I.loc,I.cell,I.free,I.ce,I.pin,I.aV,I.len⟩
def SP.dN {D:Ends} {f:Flow} {d:aM} (h:SP (X.gU E) pins D f d):SP X pins D f d:=by
 cases f with
 |next=>obtain ⟨a,c,I,q⟩:=h;exact ⟨a,c,I.dN,q⟩
 |brk=>obtain ⟨a,c,I,q⟩:=h;exact ⟨a,c,I.dN,q⟩
 |cont=>obtain ⟨a,c,I,q⟩:=h;exact ⟨a,c,I.dN,q⟩
 |ret u=>obtain ⟨v,a,c,I,r,q⟩:=h;exact ⟨v,a,c,I.dN,r,q⟩
def dM.lF {st:List Stmt} {t:TS} (h:dM X.lF st t):dM X st t:=λpins s σ H D I hw=>
 ie (h pins s σ H D (I.gU _) hw) (λ_ _ q=>q.dN) λ_ _ z=>gO z
end
section
variable {X:Cx} {st:Stmt} {rest:List Stmt} {t u:TS} {e:Expr} {n:TE} {y:Pos}
def PR:TS:=λD a H=>D.nx a H
def Eo (t u:TS):TS:=λD a H=>t {D with nx:=u D} a H
def UU:dM X [] PR:=λ_ _ a H _ I h=>rV ⟨a,H,I,h⟩
def WG (d:PS X st t) (g:dM X rest u):dM X (st::rest) (Eo t u):=by
 intro a s i H D I h;refine wpAny_execs_cons (bi (d a s i H {D with nx:=u D} I h) λf j q=>?_)
 cases f with
 |next=>
  obtain ⟨c,l,o,q⟩:=q;exact g a j c l D o q
 |ret v=>exact q
 |brk=>exact q
 |cont=>exact q
def ZW (c:PS X st t):dM X [st] t:=by
 intro a s d H D I h;refine wpAny_execs_cons (bi (c a s d H D I h) λf g q=>?_)
 cases f with
 |next=>exact rV q
 |ret v=>exact q
 |brk=>exact q
 |cont=>exact q
def aA.quiet {a:List (Addr×Obj)} {c:St} {H:Hp} {s:aM} (I:aA X a c H s):interactive X.env=false:=by simp [interactive,I.ok.kind]
def PU (n:TE):TS:=λD a H=>n a H λ_ c=>D.nx a c
def ZX (d:PE X e n) (g:ix e none y.line X.env=pure false:=by rfl):PS X (.Expr e y) (PU n):=by
 intro a s c H D I h;exact wpAny_Expr_any (bi (d a s c H _ I h) λv o ⟨x,i,j,p,l⟩=>⟨c,i,j,l⟩) I.quiet g
def Ep (n:TE):TS:=λD a H=>n a H D.rt
def Q0 (d:PE X e n):PS X (.Return (some e) y) (Ep n):=by
 intro a s c H D I h;exact wpAny_Return_some (bi (d a s c H _ I h) λv o ⟨x,g,i,j,l⟩=>⟨x,c,g,i,j,l⟩)
def Er (c:TT) (t u:TS):TS:=λD a H=>c a H λb d=>if b=true then t D a d else u D a d
def vu {c:Expr} {a b:List Stmt} {l:TT} (v:PT X c l) (w:dM X a t) (z:dM X b u):PS X (.If c a b y) (Er l t u):=by
 intro g s i H D I h;refine wpAny_If (bi (v g s i H _ I h) λd o j=>?_);obtain ⟨p,q,r⟩:=j
 cases d with
 |true=>exact w g o i p D q r
 |false=>exact z g o i p D q r
end
abbrev TG:=V->St->Hp->(St->Hp->Prop)->Prop
abbrev qN:=List V->St->Hp->(St->Hp->Prop)->Prop
def PG (X:Cx) (a:Expr) (t:TG):Prop:=
 ∀(c:List (Addr×Obj)) (s:aM) (e:St) (H:Hp) (v:V) (u:Value) (Q:St->Hp->Prop),aA X c e H s->aO v u->t v e H Q->
  wpAny (model X.prog X.w) X.A (lG a X.env u) (λ_ h=> ∃d g,aA X c d g h/\Q d g) X.xe s
def Au (X:Cx) (i:List Expr) (t:qN):Prop:=
 ∀(a:List (Addr×Obj)) (s:aM) (d:St) (H:Hp) (e:List V) (g:List Value) (Q:St->Hp->Prop),aA X a d H s->aN e g->t e d H Q->
  wpAny (model X.prog X.w) X.A (assignInOrder ((dO i X.env).map (·.2)) g) (λ_ j=> ∃c h,aA X a c h j/\Q c h) X.xe s
abbrev Cz:=V->V->Hp->VK->Prop
def Es (X:Cx) (d:Operator) (t:Cz):Prop:=
 ∀(a:List (Addr×Obj)) (s:aM) (c:St) (H:Hp) (x y:V) (v u:Value) (Q:VK),aA X a c H s->aO x v->aO y u->t x y H Q->
  wpAny (model X.prog X.w) X.A (inplaceOp d v u) (EP X a c Q) X.xe s
section
variable {X:Cx} {d:Pos}
def Lb (i:Nat):TG:=λv a H Q=>Q (a.set i (some v)) H
def UZ {i:Nat} {x:Str} (c:X.N.Nodup) (e:X.N[i]?=some x) (g:Loc X.env.scope x) (j:UM X x:=by first|exact .inl rfl|exact .inr rfl|assumption):PG X (.Name x d) (Lb i):=by
 intro a s n H v u Q I r h;exact wpAny_assign_Name (WF I c e g r (λo l=>⟨_,H,l,h⟩) j)
def Et:qN:=λa c H Q=>a=[]/\Q c H
def PV (t:TG) (u:qN):qN:=λc e H Q=> ∃v r,c=v::r/\t v e H λa g=>u r a g Q
def Y1:Au X [] Et:=by
 intro a s c H g i Q I r h;obtain ⟨e,h⟩:=h;subst e;cases r;exact assignInOrder_nil ⟨c,H,I,h⟩
def xh {e:Expr} {c:List Expr} {t:TG} {u:qN} (j:PG X e t) (l:Au X c u)
  (n:(dO (e::c) X.env).map (·.2)=lG e X.env::(dO c X.env).map (·.2):=by rfl):Au X (e::c) (PV t u):=by
 intro a s o H B E Q I r h;obtain ⟨v,J,e1,h⟩:=h;subst e1
 cases r with
 |cons r p=>
  rw [n];refine assignInOrder_cons (bi (j a s o H _ _ _ I r h) λ_ q g=>?_);obtain ⟨i,w,y,z⟩:=g;exact l a q i w _ _ Q y p z
def Eu (K:aC) (n:Nat) (t:qN):TG:=λv e H Q=> ∃a c,v= .ref a/\eQ K H a c/\c.length=n/\t c e H Q
def Ev {g:List Expr} {k:Nat} {t:qN} {n:Nat} (l:X.bM=true) (h:Au X g t)
  (p:(dO g X.env).length=n:=by rfl) (i:(dO g X.env).findIdx? (·.1)=none:=by rfl):PG X (.Tuple g k d) (Eu X.K n t):=by
 intro c s q H v u Q I r hw;obtain ⟨a,w,e1,y,z,hw⟩:=hw;subst e1;cases r;obtain ⟨B,j,E,L⟩:=I.tuple y;refine assign_Tuple_tuple (I.ok.hd l) E (by simp [p,<-z,j.length]) i λN J=>?_
 exact h c _ q H w _ Q (I.kept (t':=s.toks) λb o e=>J b o (dJ (bO e)) e) (by simpa using j) hw
def Aw (c:TE) (g:TG):TS:=λD a H=>c a H λx e=>g x a e D.nx
def PX {c e:Expr} {j:TE} {g:TG} (n:PE X e j) (o:PG X c g) (p:swapsWithSole [c] e d.line X.env=pure false:=by rfl) (hw:swappedStores [c] e X.env=pure none:=by rfl)
  (r:(dO [c] X.env).map (·.2)=[lG c X.env]:=by rfl):PS X (.Assign [c] e d) (Aw j g):=by
 intro a s l H D I h;refine wpAny_Assign_stores (bi (n a s l H _ I h) λv u i=>?_) p hw;obtain ⟨x,w,y,z,B⟩:=i;rw [r];exact bi (o a u l w x v _ y z B) λ_ E q=>q
def vG {i:Nat} {x:Str} {e:Expr} {j:TE} {a:Pos} (l:X.N.Nodup) (n:X.N[i]?=some x) (o:Loc X.env.scope x) (p:PE X e j) (q:ix e (some (.Name x a)) d.line X.env=pure false:=by rfl) (r:UM X x:=by first|exact .inl rfl|exact .inr rfl|assumption):
  PS X (.Assign [.Name x a] e d) (Aw j (Lb i)):=by
 intro c s u H D I h;refine wpAny_Assign_Name (bi (p c s u H _ I h) λv L g=>?_) q;obtain ⟨y,w,z,B,E⟩:=g;exact WF z l n o B (λN J=>⟨_,w,J,E⟩) r
def Ew (i:Nat) (c:TE) (e:Cz):TS:=λD a H=> ∃x,a[i]?=some (some x)/\c a H λy g=>e x y g λz h=>D.nx (a.set i (some z)) h
def PY {i:Nat} {x:Str} {e:Expr} {J:TE} {q:Operator} {L:Cz} {n:Pos} (Q:X.N.Nodup) (N:X.N[i]?=some x) (B:Loc X.env.scope x) (U:PE X e J) (Y:Es X q L) (hf:UM X x:=by first|exact .inl rfl|exact .inr rfl|assumption):
   PS X (.AugAssign (.Name x n) q e d) (Ew i J L):=by
 intro a s O H D I h;obtain ⟨v,e1,h⟩:=h;obtain ⟨m,hn,hl⟩:=I.loc;have E:gM X.env.scope x:=by rcases B with k|k;exact .inl k;exact .inr (.inl k)
 obtain ⟨u,r,l⟩:=hl i x v N e1 E;refine wpAny_AugAssign_Name ?_
 have go:wpAny (model X.prog X.w) X.A (eval e X.env) (λw o=>wpAny (model X.prog X.w) X.A (inplaceOp q u w) (λr p=>wpAny (model X.prog X.w) X.A (storeName X.env x r) (λ_=>SP X a D .next) X.xe p) X.xe o) X.xe s:=by
   refine bi (U a s O H _ I h) λw s1 g=>?_;obtain ⟨y,H1,I1,r1,q1⟩:=g
   refine bi (Y a s1 O H1 v y u w _ I1 r r1 q1) λz s2 g=>?_;obtain ⟨zv,H2,I2,r2,q2⟩:=g
   exact WF I2 Q N B r2 (λs3 I3=>⟨_,H2,I3,q2⟩) hf
 rcases l with ⟨hk,hm⟩| ⟨hk,c,hc,j⟩
 . exact wpAny_loadName_local I.ok.kind hk hn hm go
 . rcases hk with hk|hk
   . exact wpAny_loadName_cell I.ok.kind hk hc j go
   . rcases B with k|k
     . have:X.env.scope.names.lookup x=some .free:=hk;rw [k] at this;cases this
     . have:X.env.scope.names.lookup x=some .free:=hk;rw [k] at this;cases this
def Lc (f:Int->Int->Int):Cz:=λx y H Q=> ∃i j,x= .int i/\y= .int j/\Q (.int (f i j)) H
def Ld:Es X .Add (Lc λi j=>i+j):=by
 intro a s g H x y v u Q I c e h;obtain ⟨i,j,e1,e2,q⟩:=h;subst e1;subst e2;obtain ⟨t,rfl⟩:=c;obtain ⟨l,rfl⟩:=e;exact iadd_int ⟨.int _,H,I.tok _,⟨_,rfl⟩,q⟩
def PZ (c:TT) (j:TS):TS:=λD a H=> ∃W:Nat->St->Hp->Prop,(∃m,W m a H)/\ ∀m a H,W m a H->
 c a H λb g=>if b=true then∃N:St->Hp->Prop,(∀e h,N e h-> ∃i,i<m/\W i e h)/\j {D with nx:=N,ct:=N,bk:=D.nx} a g else D.nx a g
def vF {c:Expr} {i:List Stmt} {E:TT} {J:TS} (L:qO (model X.prog X.w) X.A X.env X.xe) (hc:PT X c E) (hb:dM X i J):PS X (.While c i [] d) (PZ E J):=by
 intro a s σ H D I h;obtain ⟨W,⟨m0,w0⟩,j⟩:=h;refine wpAny_While (codeAny_whileLoop (λn s'=> ∃l O,aA X a l O s'/\W n l O) ?_ m0 ⟨σ,H,I,w0⟩);rintro n s1 ⟨g,Q,I1,w1⟩;refine rW L (bi (hc a s1 g Q _ I1 (j n g Q w1)) λb s2 r=>?_);obtain ⟨U,Y,p⟩:=r
 cases b with
 |true=>
  obtain ⟨N,hN,p⟩:=p;refine rW L (bi (hb a s2 g U _ Y p) λf s3 q=>?_)
  cases f with
  |next=>
   obtain ⟨e,o,u,w⟩:=q;obtain ⟨y,z,B⟩:=hN e o w;exact ⟨y,z,e,o,u,B⟩
  |cont=>
   obtain ⟨e,o,u,w⟩:=q;obtain ⟨y,z,B⟩:=hN e o w;exact ⟨y,z,e,o,u,B⟩
  |brk=>exact q
  |ret v=>exact q
 |false=>
  exact rV ⟨g,U,Y,p⟩
end
structure It where
 go:Nat->Hp->Prop
 CA:Nat->Hp->V->Hp->Prop
 stop:Nat->Hp->Prop
def cZ (X:Cx) (a:List (Addr×Obj)) (H:Hp) (b:Addr):Prop:=
 H b=none/\b≠X.env.locals/\b∉X.fs/\(b∈X.ex\/X.dF.heap.objs.size<=b)/\(∀x c,X.env.cells.lookup x=some c->c≠b)/\ ∀p∈X.pn++a,p.1≠b
def aA.fb {X:Cx} {a:List (Addr×Obj)} {h:St} {H g:Hp} {s:aM} {b:Addr} (I:aA X a h H s) (d:s.heap.objs.size<=b) (i:g b=none):cZ X a g b:=by
 refine ⟨i,CB (fH I.lt d),I.Eh d,.inr (dG I.sz d),λx c e z=>?_,λp j z=>?_⟩
 . obtain ⟨v,q⟩:=I.cell x c e;exact absurd (fH q.lt (by rw [z];exact d)) (oV _)
 . exact absurd (fH (bO (I.pin p j).1) (by rw [z];exact d)) (oV _)
structure Turn (P:bB) (w:World) (K:aC) (tg:Expr) (J:It) (fp:List Addr) (it:Addr) (tn:Nat->Heap->Prop):Prop where
 mem:it∈fp
 obj: ∀i h,tn i h-> ∀b∈fp,∃o,h.get? b=some o/\ ∀v,o.data≠ .cell v
 keep: ∀i h h',tn i h->(∀b∈fp,∀o,h.get? b=some o->h'.get? b=some o)->tn i h'
 item: ∀(X:Cx),X.prog=P->X.w=w->X.K=K->X.bM=true-> ∀(i:Nat) (pins:List (Addr×Obj)) (s:aM) (σ:St) (H:Hp) (E:Vh),aA X pins σ H s->(∀b∈fp,cZ X pins H b)->tn i s.heap->J.go i H->
  wpAny (model P w) X.A (pyNext (.ref it)) (λr s1=> ∃u,r=some u/\
   wpAny (model P w) X.A (letOwnedTupleGo tg (.ref it) u) (λ_ s2=> ∃x H',aA X pins σ H' s2/\aO x u/\J.CA i H x H'/\tn (i+1) s2.heap/\ ∀b∈fp,H' b=none) E s1) E s
 done: ∀(X:Cx),X.prog=P->X.w=w->X.K=K->X.bM=true-> ∀(i:Nat) (pins:List (Addr×Obj)) (s:aM) (σ:St) (H:Hp) (E:Vh),aA X pins σ H s->(∀b∈fp,cZ X pins H b)->tn i s.heap->J.stop i H->
  wpAny (model P w) X.A (pyNext (.ref it)) (λr s1=>r=none/\aA X pins σ H s1) E s
 self: ∀(A:bH) (i:Nat) (s:aM) (Q:Vh) (E:Vh),tn i s.heap->Q (.ref it) s->wpAny (model P w) A (pyIter (.ref it)) Q E s
abbrev TI:=St->Hp->(It->Hp->Prop)->Prop
def Ex (X:Cx) (a:List (Addr×Obj)) (j:St) (l:Expr) (R:It->Hp->Prop) (c:Value) (e:aM):Prop:=
 ∃(g:Addr) (h:List Addr) (i:Nat->Heap->Prop) (J:It) (d:Hp),c= .ref g/\aA X a j d e/\Turn X.prog X.w X.K l J h g i/\i 0 e.heap/\(∀b∈h,cZ X a d b)/\R J d
def PI (X:Cx) (d iter:Expr) (e:TI):Prop:=
 ∀(a:List (Addr×Obj)) (s:aM) (c:St) (H:Hp) (R:It->Hp->Prop),aA X a c H s->e c H R->
  wpAny (model X.prog X.w) X.A (eval iter X.env) (λv g=>wpAny (model X.prog X.w) X.A (pyIter v) (Ex X a c d R) X.xe g) X.xe s
def vw {M : Model} {A : bH} {E : Value -> aM -> Prop} {s : aM} {c : Expr} {d : Addr} {u : Value} {o : Obj} {n : String} {e : Array Value} {Q : Unit -> aM -> Prop} (g : s.heap.get? d = some o) (i : o.cls = .type n) (j : o.data = .fields e)
    (l : ["enumerate", "zip", "dict_itemiterator", "dict_reverseitemiterator", "odict_iterator", "itertools.zip_longest", "itertools.pairwise"].contains n = false) (a : Q () s) : wpAny M A (letOwnedTupleGo c (.ref d) u) Q E s := by
  cases c <;> first
    | exact aZ a
    | (cases u <;> first
        | exact aZ a
        | (
          refine ay (wpAny_load g ?_)
          rw [i, j]
          show wpAny M A (if (["enumerate", "zip", "dict_itemiterator", "dict_reverseitemiterator", "odict_iterator", "itertools.zip_longest", "itertools.pairwise"].contains n && e[0]? == some (fK _)) = true then _ else _) Q E s
          rw [if_neg (by intro h; rw [l, Bool.false_and] at h; cases h)]
          exact aZ a))
def P0 (K:aC) (a:Addr):It:=
 ⟨λi H=> ∃c x,cY K H a c/\c[i]?=some x,λi H x d=>d=H/\ ∀c,cY K H a c->c[i]?=some x,λi H=> ∃c,cY K H a c/\c.length<=i⟩
def P1 (K:aC) (a:Addr):It:=
 ⟨λi H=> ∃c x,eQ K H a c/\c[i]?=some x,λi H x d=>d=H/\ ∀c,eQ K H a c->c[i]?=some x,λi H=> ∃c,eQ K H a c/\c.length<=i⟩
def CC (lo:Int) (n:Nat):It:=⟨λi _=>i<n,λi H x a=>a=H/\x= .int (lo+i),λi _=>n<=i⟩
def Vb {P:bB} {w:World} {K:aC} {tg:Expr} (a g:Addr):Turn P w K tg (P0 K a) [g] g (λi h=>h.IsListIter g a i) where
 mem:=by simp
 obj:=λi h st b j=>by
  have e:b=g:=by simpa using j
  subst e;obtain ⟨o,e,c,d⟩:=st;exact ⟨o,e,λv z=>by rw [d] at z;cases z⟩
 keep:=λi h h' st k=>st.at λo e=>k g (by simp) o e
 item:=by
  intro X y hw B hc i l s σ H E I q st J;subst y hw B;obtain ⟨xs,x,r,L⟩:=J;obtain ⟨N,O,p,hz⟩:=I.list r;obtain ⟨u,hu,ru⟩:=O.get L;obtain ⟨Q,U,f2,Y,f4,f5⟩:=q g (by simp);refine wpAny_pyNext_list_item st p.isList (by simpa using hu) λh' n sb=>?_
  obtain ⟨o,e,c,d⟩:=id n;exact ⟨u,rfl,vw e c d (by decide) ⟨x,H,(I.turned (t':=s.toks) (λb o j e=>(sb.2 b j).trans e) Q U Y f4 f5),ru,⟨rfl,λys hy=>by rw [I.nP hy r];exact L⟩,n,λb j=>(q b j).1⟩⟩
 done:=by
  intro X y hw B hc i l s σ H E I q st J;subst y hw B;obtain ⟨xs,r,L⟩:=J;obtain ⟨N,O,p,hz⟩:=I.list r;obtain ⟨Q,U,f2,Y,f4,f5⟩:=q g (by simp);have hl:=O.length;exact wpAny_pyNext_list_end (I.ok.hd hc) st p.isList (by simp;omega) λh' eb=>⟨rfl,I.turned (λb o j e=>eb b o j e) Q U Y f4 f5⟩
 self:=λ_ _ _ _ _ st h=>wpAny_pyIter_listiter st h
def uV {P:bB} {w:World} {K:aC} {tg:Expr} (a g:Addr):Turn P w K tg (P1 K a) [g] g (λi h=>h.IsTupleIter g a i) where
 mem:=by simp
 obj:=λi h st b j=>by
  have e:b=g:=by simpa using j
  subst e;obtain ⟨o,e,c,d⟩:=st;exact ⟨o,e,λv z=>by rw [d] at z;cases z⟩
 keep:=λi h h' st k=>st.at λo e=>k g (by simp) o e
 item:=by
  intro X y hw B hc i l s σ H E I q st J;subst y hw B;obtain ⟨xs,x,r,L⟩:=J;obtain ⟨N,O,p,hz⟩:=I.tuple r;obtain ⟨u,hu,ru⟩:=O.get L;obtain ⟨Q,U,f2,Y,f4,f5⟩:=q g (by simp);refine wpAny_pyNext_tuple_item st (p) (by simpa using hu) λh' n sb=>?_
  obtain ⟨o,e,c,d⟩:=id n;exact ⟨u,rfl,vw e c d (by decide) ⟨x,H,(I.turned (t':=s.toks) (λb o j e=>(sb.2 b j).trans e) Q U Y f4 f5),ru,⟨rfl,λys hy=>by rw [I.mF hy r];exact L⟩,n,λb j=>(q b j).1⟩⟩
 done:=by
  intro X y hw B hc i l s σ H E I q st J;subst y hw B;obtain ⟨xs,r,L⟩:=J;obtain ⟨N,O,p,hz⟩:=I.tuple r;obtain ⟨Q,U,f2,Y,f4,f5⟩:=q g (by simp);have hl:=O.length;exact wpAny_pyNext_tuple_end (I.ok.hd hc) st (p) (by simp;omega) λh' eb=>⟨rfl,I.turned (λb o j e=>eb b o j e) Q U Y f4 f5⟩
 self:=λ_ _ _ _ _ st h=>wpAny_pyIter_tupleiter st h
def uW {P:bB} {w:World} {K:aC} {O:Expr} (a:Addr) (lo:Int) (n:Nat):Turn P w K O (CC lo n) [a] a (λi h=>IsRangeIter h a (lo+(i:Nat)*1) ((n:Int)-(i:Nat)) 1) where
 mem:=by simp
 obj:=λi h st b c=>by
  have e:b=a:=by simpa using c
  subst e
  exact ⟨_,st,λv z=>by
   have Q:=z
   cases Q⟩
 keep:=λi h J st k=>k a (by simp) _ st
 item:=by
  intro X L hw N l i d s U H E I j st p;subst L hw N;obtain ⟨q,r,Y,u,y,B⟩:=j a (by simp);refine (Walks.range (prog:=X.prog) (w:=X.w) (I.ok.hd l) a lo 1 n).item i s _ _ p st λv J tk hv g kk=>?_
  obtain ⟨t,rfl⟩:=hv;refine ⟨_,rfl,vw g rfl rfl (by decide) ⟨.int (lo+i),H,(I.turned (λb o c e=>kk b o (by simpa using c) e) q r u y B),⟨t,?_⟩,⟨rfl,rfl⟩,g,λb c=>(j b c).1⟩⟩;rw [Int.mul_one]
 done:=by
  intro X L hw N l i d s U H E I j st p;obtain ⟨q,r,Y,u,y,B⟩:=j a (by simp);exact wpAny_pyNext_range_end (I.ok.hd l) st (by have:n<=i:=p;omega) λJ eb=>⟨rfl,I.turned (λb o c e=>eb b o c e) q r u y B⟩
 self:=λ_ _ _ _ _ st h=>wpAny_pyIter_rangeiter st h
section
variable {X:Cx} {l:Expr}
def P2 {c:List (Addr×Obj)} {d:St} {H:Hp} {s:aM} {R:It->Hp->Prop} {E:Vh} {lo a:Int} {t u v:Tok} {tk:Nat} (I:aA X c d H s) (h: -(2^62)<=lo) (i:lo<2^62) (j: -(2^62)<=a) (n:a<2^62)
   (q:R (CC lo (a-lo).toNat) H):wpAny (model X.prog X.w) X.A (pyIter (.ref s.heap.objs.size)) (Ex X c d l R) E {s with heap:=s.heap.push {cls:= .type "range",data:= .fields #[.int lo t,.int a u,.int 1 v]},toks:=tk}:=by
 refine wpAny_pyIter_range (IsRange.new ..) (small_one h i j n) ?_;have g:aA X c d H {s with heap:=s.heap.push {cls:= .type "range",data:= .fields #[.int lo t,.int a u,.int 1 v]},toks:=tk}:=I.kept λb o e=>bI _ e
 refine ⟨(s.heap.push {cls:= .type "range",data:= .fields #[.int lo t,.int a u,.int 1 v]}).objs.size,[(s.heap.push {cls:= .type "range",data:= .fields #[.int lo t,.int a u,.int 1 v]}).objs.size],_,_,H,rfl,
   g.kept λb o e=>bI _ e,uW _ lo (a-lo).toNat,?_,λb p=>?_,q⟩
 . have e1:lo+((0):Int)*1=lo:=by simp
   have e2:(((a-lo).toNat:Nat):Int)-((0):Int)=Builtin.Range.rangeSize lo a 1:=by rw [rangeSize_one];split<;>omega
   show IsRangeIter _ _ (lo+((0):Int)*1) ((((a-lo).toNat:Nat):Int)-((0):Int)) 1;rw [e1,e2];exact c9 _ rfl
 . have e:b=(s.heap.push {cls:= .type "range",data:= .fields #[.int lo t,.int a u,.int 1 v]}).objs.size:=by simpa using p
   subst e;exact g.fb (bg _) (g.aV.fresh (bg _))
def P4 (a:TA):TI:=λc H R=>a c H λd e=> ∃j:Int,d=[.int j]/\ -(2^62)<=j/\j<2^62/\R (CC 0 j.toNat) e
def P5 {a:Expr} {n:TA} {p c:Pos} (o:Gl X "range") (u:X.mg "range" =none) (v:PA X [a] n) (w:bb [a] X.env=[(false,eval a X.env)]:=by rfl):PI X l (.Call (.Name "range" p) [a] [] c) (P4 n):=by
 intro d s y H R I h;refine Call_ (Wr I o u boot_range (v3 (bi (v c d s y H _ I h) λL N g=>?_) w rfl));obtain ⟨O,Q,z,B,i⟩:=g;obtain ⟨j,e,i,E,q⟩:=i;subst e
 cases B with
 |cons r J=>
  cases J;obtain ⟨t,rfl⟩:=r;exact call_range_1 (P2 z (by omega) (by omega) i E (by simpa using q))
def Ey (j:TI) (g:TG) (n:TS):TS:=λD a H=>j a H λJ o=> ∃W:Nat->Nat->St->Hp->Prop,(∃m,W 0 m a o)/\ ∀i m a H,W i m a H->
 (J.stop i H/\D.nx a H)\/(J.go i H/\ ∃N:St->Hp->Prop,(∀c d,N c d-> ∃h,h<m/\W (i+1) h c d)/\ ∀x d,J.CA i H x d->g x a d λe p=>n {D with nx:=N,ct:=N,bk:=D.nx} e p)
def Vp (a:List Addr) (h:Heap):List (Addr×Obj):=a.filterMap λb=>(h.get? b).map λo=>(b,o)
def J0 {a:List Addr} {h:Heap} {b:Addr} {o:Obj} (c:b∈a) (e:h.get? b=some o):(b,o)∈Vp a h:=Ax.mpr ⟨b,c,by rw [e];rfl⟩
def P6 {a:List Addr} {h:Heap} {p:Addr×Obj} (c:p∈Vp a h):p.1∈a/\h.get? p.1=some p.2:=by
 obtain ⟨b,d,e⟩:=Ax.mp c
 cases q:h.get? b with
 |none=>rw [q] at e;cases e
 |some o=>
  rw [q] at e;have g:=fY e;subst g;exact ⟨d,q⟩
def aA.pinned {a:List (Addr×Obj)} {g:St} {H:Hp} {s:aM} {c:List Addr} (I:aA X a g H s) (j: ∀b∈c,cZ X a H b) (n: ∀b∈c,∃o,s.heap.get? b=some o/\ ∀v,o.data≠ .cell v):aA X (a++Vp c s.heap) g H s:=
 I.mo λp q=>(mD.mp q).elim (λz=>I.pin p (oY _ z)) λz=>by
  obtain ⟨h,e⟩:=P6 z;obtain ⟨r,u,w,_⟩:=j p.1 h;obtain ⟨o,i,d⟩:=n p.1 h;rw [e] at i;cases i;exact ⟨e,r,u,w,d⟩
def aA.fg {a d:List (Addr×Obj)} {c:St} {H:Hp} {s:aM} (I:aA X (a++d) c H s):aA X a c H s:=I.mo λp e=>I.pin p (oY _ (Aq _ e))
def vH {iter:Expr} {L:List Stmt} {wi:TI} {g:TG} {tb:TS} {pos:Pos} (U:qO (model X.prog X.w) X.A X.env X.xe) (hc:X.bM=true) (hi:PI X l iter wi) (hg:PG X l g) (p:dM X L tb)
   (hs: ∀x,pv iter X.env x=pure x:=by intro _;rfl):PS X (.For l iter L [] pos) (Ey wi g tb):=by
 intro a s σ H D I h;refine wpAny_For (bi (hi a s σ H _ I h) λv s1 h1=>bi h1 λP7 s2 h2=>?_) hs;obtain ⟨it,Y,tn,J,H2,e,I2,T,Ay,f2,W,⟨m0,w0⟩,turn⟩:=h2;subst e;have q: ∀ {E:Hp},(∀b∈Y,E b=none)-> ∀b∈Y,cZ X a E b:=λhn b p=>⟨hn b p,(f2 b p).2⟩
 refine codeAny_forLoop_any (λn s'=> ∃i w E,aA X a w E s'/\tn i s'.heap/\(∀b∈Y,E b=none)/\W i n w E) ?_ m0 ⟨0,σ,H2,I2,Ay,λb p=>(f2 b p).1,w0⟩;rintro n s3 ⟨i,y,H3,I3,Le,Lg,w3⟩;rcases turn i n y H3 w3 with ⟨stop,qn⟩| ⟨go,N,hN,step⟩
 . refine rW U (bi (T.done X rfl rfl rfl hc i a s3 y H3 X.xe I3 (q Lg) Le stop) λr s4 j=>?_);obtain ⟨hr,I4⟩:=j;subst hr;exact rV ⟨y,H3,I4,qn⟩
 . refine rW U (bi (T.item X rfl rfl rfl hc i a s3 y H3 X.xe I3 (q Lg) Le go) λr s4 j=>?_);obtain ⟨u,hr,h4⟩:=j;subst hr;refine rW U (bi h4 λ_ s5 j=>?_);obtain ⟨x,H5,I5,r5,y5,Q,Ez⟩:=j;refine rW U (bi (hg _ s5 y H5 x u _ (I5.pinned (q Ez) (T.obj _ _ Q)) r5 (step x H5 y5)) λ_ s6 j=>?_);obtain ⟨rX,H6,I6,q6⟩:=j;refine rW U (bi (p _ s6 rX H6 _ I6 q6) λf s7 O=>?_)
   have again: ∀ {c:St} {z:Hp},aA X (a++Vp Y s5.heap) c z s7->N c z-> ∃m,m<n/\ ∃i w E,aA X a w E s7/\tn i s7.heap/\(∀b∈Y,E b=none)/\W i m w E:=λ{c z} B n7=>by
    obtain ⟨m',hm,w7⟩:=hN c z n7;refine ⟨m',hm,i+1,c,z,B.fg,T.keep _ _ _ Q λb p o e=>(B.pin (b,o) (oY _ (oY _ (J0 p e)))).1,λb p=>?_,w7⟩;obtain ⟨o,e,d⟩:=T.obj _ _ Q b p;exact (B.pin (b,o) (oY _ (oY _ (J0 p e)))).2.1
   cases f with
   |next=>obtain ⟨c,z,B,n7⟩:=O;exact again B n7
   |cont=>obtain ⟨c,z,B,n7⟩:=O;exact again B n7
   |brk=>obtain ⟨c,z,B,O⟩:=O;exact ⟨c,z,B.fg,O⟩
   |ret v=>obtain ⟨x7,c,z,B,r7,O⟩:=O;exact ⟨x7,c,z,B.fg,r7,O⟩
end
abbrev R2:=V->V->Hp->VK->Prop
def ck (X:Cx) (f:Value->Value->Sem Value) (r:R2):Prop:=
 ∀(a:List (Addr×Obj)) (s:aM) (c:St) (H:Hp) (x y:V) (v u:Value) (Q:VK),aA X a c H s->aO x v->aO y u->r x y H Q->
  wpAny (model X.prog X.w) X.A (f v u) (EP X a c Q) X.xe s
def EA (X:Cx) (f:Value->Sem Value) (r:V->Hp->VK->Prop):Prop:=
 ∀(a:List (Addr×Obj)) (s:aM) (c:St) (H:Hp) (x:V) (v:Value) (Q:VK),aA X a c H s->aO x v->r x H Q->
  wpAny (model X.prog X.w) X.A (f v) (EP X a c Q) X.xe s
def bC (X:Cx) (f:Value) (r:List V->Hp->VK->Prop):Prop:=
 ∀(a:List (Addr×Obj)) (s:aM) (c:St) (H:Hp) (d:List V) (e:List Value) (Q:VK),aA X a c H s->aN d e->r d H Q->
  wpAny (model X.prog X.w) X.A (call f e) (EP X a c Q) X.xe s
def EB (X:Cx) (r:V->Hp->(Bool->Hp->Prop)->Prop):Prop:=
 ∀(a:List (Addr×Obj)) (s:aM) (c:St) (H:Hp) (x:V) (v:Value) (Q:Bool->Hp->Prop),aA X a c H s->aO x v->r x H Q->
  wpAny (model X.prog X.w) X.A (truthy v) (TP X a c Q) X.xe s
def wh (r:R2) (c d:TE):TE:=λa H Q=>c a H λx e=>d a e λy g=>r x y g Q
def P8 (r:V->Hp->VK->Prop) (a:TE):TE:=λc H Q=>a c H λx d=>r x d Q
def rI (C:Int->Int->Prop) (g:Int->Int->V):R2:=λx y H Q=> ∃i j,x= .int i/\y= .int j/\C i j/\Q (g i j) H
def ls (g:Int->Int->V):R2:=λx y H Q=> ∃i j,x= .int i/\y= .int j/\Q (g i j) H
def rU (g:Int->V):V->Hp->VK->Prop:=λx H Q=> ∃i,x= .int i/\Q (g i) H
section
variable {X:Cx} {a b c:Expr} {Y U N:TE} {O:Pos}
def rY (p:PE X a Y) (q:PE X b U) {d:List (Addr×Obj)} {s:aM} {g:St} {H:Hp} {R:V->V->Hp->Prop} (I:aA X d g H s)
  (h:Y g H λx o=>U g o λy i=>R x y i) {Q:Vh} {f:Value->Value->Sem Value}
  (r: ∀v u n x y i,aA X d g i n->aO x v->aO y u->R x y i->wpAny (model X.prog X.w) X.A (f v u) Q X.xe n):
  wpAny (model X.prog X.w) X.A (eval a X.env) (λv j=>wpAny (model X.prog X.w) X.A (eval b X.env) (λu l=>wpAny (model X.prog X.w) X.A (f v u) Q X.xe l) X.xe j) X.xe s:=by
 refine bi (p d s g H _ I h) λv w e=>?_;obtain ⟨x,o,z,B,E⟩:=e
 refine bi (q d w g o _ z E) λu n e=>?_;obtain ⟨y,i,J,L,q2⟩:=e
 exact r v u n x y i J B L q2
def EC {e:Operator} {r:R2} (g:ck X (gw e) r) (i:PE X a Y) (j:PE X b U):PE X (.BinOp a e b O) (wh r Y U):=by
 intro d s l H Q I h;exact wpAny_BinOp (rY i j I h λv u n x y o p w z q=>g d n l o x y v u Q p w z q)
def P9 {e:UnaryOp} {r:V->Hp->VK->Prop} (i:EA X (unaryOp e) r) (j:PE X a Y):PE X (.UnaryOp e a O) (P8 r Y):=by
 intro d s g H Q I h;exact UnaryOp_ (bi (j d s g H _ I h) λv l ⟨x,n,o,p,q⟩=>i d l g n x v Q o p q)
def CD {f:Value->Value->Sem Value} {C:Int->Int->Prop} {g:Int->Int->Int}
  (rule: ∀(i j:Int) (t u:Tok) (s:aM) (Q:Vh) (E:Vh),C i j->Q (.int (g i j) s.toks) {s with toks:=s.toks+1}->wpAny (model X.prog X.w) X.A (f (.int i t) (.int j u)) Q E s):
  ck X f (rI C λi j=> .int (g i j)):=by
 intro d s p H x y v u Q I e l h;obtain ⟨i,j,rfl,rfl,n,q⟩:=h;obtain ⟨t,rfl⟩:=e;obtain ⟨o,rfl⟩:=l;exact rule i j t o s _ _ n ⟨.int (g i j),H,I.tok _,⟨_,rfl⟩,q⟩
def Az {f:Value->Value->Sem Value} {g:Int->Int->Int}
  (rule: ∀(i j:Int) (t u:Tok) (s:aM) (Q:Vh) (E:Vh),Q (.int (g i j) s.toks) {s with toks:=s.toks+1}->wpAny (model X.prog X.w) X.A (f (.int i t) (.int j u)) Q E s):
  ck X f (ls λi j=> .int (g i j)):=by
 intro d s o H x y v u Q I e l h;obtain ⟨i,j,rfl,rfl,q⟩:=h;obtain ⟨t,rfl⟩:=e;obtain ⟨n,rfl⟩:=l;exact rule i j t n s _ _ ⟨.int (g i j),H,I.tok _,⟨_,rfl⟩,q⟩
def pz {f:Value->Value->Sem Value} {g:Int->Int->Bool}
  (rule: ∀(i j:Int) (t u:Tok) (s:aM) (Q:Vh) (E:Vh),Q (.bool (g i j)) s->wpAny (model X.prog X.w) X.A (f (.int i t) (.int j u)) Q E s):
  ck X f (ls λi j=> .bl (g i j)):=by
 intro d s o H x y v u Q I e l h;obtain ⟨i,j,rfl,rfl,q⟩:=h;obtain ⟨t,rfl⟩:=e;obtain ⟨n,rfl⟩:=l;exact rule i j t n s _ _ ⟨.bl (g i j),H,I,rfl,q⟩
def AA (i j:Int):Prop:=0<j/\j<1073741824
def AB (i j:Int):Prop:=0<=j/\j<=1000000/\i.natAbs<2^64
def rZ:ck X (gw .Add) (ls λi j=> .int (i+j)):=Az λ_ _ _ _ _ _ _ q=>add_int q
def Q7:ck X (gw .Sub) (ls λi j=> .int (i-j)):=Az λ_ _ _ _ _ _ _ q=>sub_int q
def xG:ck X (gw .Mod) (rI (λ_ j=>0<j) λi j=> .int (i%j)):=CD λi j _ _ _ _ _ d q=>by
 exact mod_int' (by omega) (by rw [Int.fmod_eq_emod_of_nonneg i (by omega)];exact q)
def vO:ck X (gw .Pow) (rI AB λi j=> .int (i^j.toNat)):=CD λ_ _ _ _ _ _ _ d q=>pow_int_small d.1 d.2.1 d.2.2 q
def Qb {f:Value->Sem Value} {g:Int->Int}
  (rule: ∀(i:Int) (t:Tok) (s:aM) (Q:Vh) (E:Vh),Q (.int (g i) s.toks) {s with toks:=s.toks+1}->wpAny (model X.prog X.w) X.A (f (.int i t)) Q E s):
  EA X f (rU λi=> .int (g i)):=by
 intro d s j H x v Q I e h;obtain ⟨i,rfl,q⟩:=h;obtain ⟨t,rfl⟩:=e;exact rule i t s _ _ ⟨.int (g i),H,I.tok _,⟨_,rfl⟩,q⟩
def Qk:EA X (unaryOp .USub) (rU λi=> .int (-i)):=Qb λ_ _ _ _ _ q=>neg_int q
def ED {d:List (Addr×Obj)} {g:St} {H:Hp} {s:aM} {Q:VK} {k h:Bool} (I:aA X d g H s) (q:Q (.bl k) H) (e:k=h):EP X d g Q (.bool h) s:=by
 subst e;exact ⟨.bl k,H,I,rfl,q⟩
def AC:ck X (gV .Lt) (ls λi j=> .bl (decide (i<j))):=pz λ_ _ _ _ _ _ _ q=>lt_int q
def Vt:ck X (gV .LtE) (ls λi j=> .bl (decide (i<=j))):=pz λ_ _ _ _ _ _ _ q=>le_int q
def AD:ck X (gV .Gt) (ls λi j=> .bl (decide (j<i))):=pz λ_ _ _ _ _ _ _ q=>gt_int q
def QA:ck X (gV .GtE) (ls λi j=> .bl (decide (j<=i))):=pz λ_ _ _ _ _ _ _ q=>ge_int q
def QB:ck X (gV .In) (λx y H Q=> ∃i j,x= .str i/\y= .str j/\Q (.bl (!(EE j i 0 j.length 1).isEmpty)) H):=by
 intro d s l H x y v u Q I e g h;obtain ⟨i,j,rfl,rfl,q⟩:=h;obtain ⟨t,rfl⟩:=e;obtain ⟨n,rfl⟩:=g;exact in_str (ED I q rfl)
def Lh:ck X (gV .Is) (λx y H Q=>y= .aU/\Q (.bl (decide (x= .aU))) H):=by
 intro d s i H x y v u Q I e g h;obtain ⟨rfl,q⟩:=h;cases g;refine is_none_gen (ED I q ?_)
 cases x<;>first
  | (cases e;rfl)
  | (obtain ⟨t,rfl⟩:=e;rfl)
def Li:ck X (gV .IsNot) (λx y H Q=>y= .aU/\Q (.bl (!decide (x= .aU))) H):=by
 intro d s i H x y v u Q I e g h;obtain ⟨rfl,q⟩:=h;cases g;refine isnot_none_gen (ED I q ?_)
 cases x<;>first
  | (cases e;rfl)
  | (obtain ⟨t,rfl⟩:=e;rfl)
def ck.or {f:Value->Value->Sem Value} {r e:R2} (h:ck X f r) (l:ck X f e):ck X f (λx y H Q=>r x y H Q\/e x y H Q):=by
 intro d s g H x y v u Q I i j q;rcases q with q|q
 . exact h d s g H x y v u Q I i j q
 . exact l d s g H x y v u Q I i j q
def EF (b:Expr) {d:CmpOp} (h:d≠ .In:=by decide) (e:d≠ .NotIn:=by decide):r0 d b=false:=by
 have e1:(d==CmpOp.In)=false:=by cases d<;>first|rfl|exact absurd rfl h
 have e2:(d==CmpOp.NotIn)=false:=by cases d<;>first|rfl|exact absurd rfl e
 cases b<;>simp [r0,e1,e2]
def Lj {e:CmpOp} {r:R2} (g:ck X (gV e) r) (i:PE X a Y) (j:PE X b U) (l:r0 e b=false):PE X (.Compare a [e] [b] O) (wh r Y U):=by
 intro d s n H Q I h;exact wpAny_Compare1 (rY i j I h λv u o x y p w z B q=>g d o n p x y v u Q w z B q) l
def EG (t:TE):TT:=λd H Q=>t d H λx e=> ∃k,x= .bl k/\Q k e
def QC {g:CmpOp} {r:R2} (j:ck X (gV g) r) (l:PE X a Y) (n:PE X b U) (o:r0 g b=false):PT X (.Compare a [g] [b] O) (EG (wh r Y U)):=by
 intro d s i H Q I h
 refine wpAny_isTrue_Compare1 (bi (l d s i H _ I h) λv p ⟨x,q,w,B,E⟩=>bi (n d p i q _ w E) λu J ⟨y,L,I2,r2,q2⟩=>
  bi (j d J i L x y v u _ I2 B r2 q2) λc s3 ⟨z,H3,I3,r3,k,e,q3⟩=>?_) o
 subst e;cases r3;exact pk ⟨H3,I3,q3⟩
def EH (r g:R2) (Y U N:TE):TE:=λd H Q=>Y d H λx h=>U d h λy i=>r x y i λz e=> ∃k,z= .bl k/\
 (if k=true then N d e λj l=>g y j l Q else Q (.bl false) e)
def QM {l i:CmpOp} {r o:R2} (E:ck X (gV l) r) (n:ck X (gV i) o) (J:PE X a Y) (L:PE X b U) (hc:PE X c N)
  (hm:lastMarks [l,i] [b,c]=false:=by with_unfolding_all rfl):PE X (.Compare a [l,i] [b,c] O) (EH r o Y U N):=by
 intro g s j H Q I h
 refine Compare_chain (bi (J g s j H _ I h) λv s1 ⟨x,H1,I1,r1,q1⟩=>chain_link (bi (L g s1 j H1 _ I1 q1) λu s2 ⟨y,H2,I2,p,q2⟩=>
  bi (E g s2 j H2 x y v u _ I2 r1 p q2) λd s3 ⟨z,q,w,r3,k,e,B⟩=>?_)) hm
 subst e;cases r3;refine pk ?_
 cases k with
 |false=>exact ite_ff ⟨.bl false,q,w,rfl,B⟩
 |true=>exact ite_tt (chain_last (bi (hc g s3 j q _ w B) λw' s4 ⟨z',H4,I4,r4,q4⟩=>n g s4 j H4 y z' u w' Q I4 p r4 q4))
def QN {l i:CmpOp} {r p:R2} (J:ck X (gV l) r) (n:ck X (gV i) p) (L:PE X a Y) (hb:PE X b U) (hc:PE X c N)
  (hm:lastMarks [l,i] [b,c]=false:=by with_unfolding_all rfl):PT X (.Compare a [l,i] [b,c] O) (EG (EH r p Y U N)):=by
 intro g s j H Q I h
 refine isTrue_chain (bi (L g s j H _ I h) λv s1 ⟨x,H1,I1,r1,q1⟩=>test_link (bi (hb g s1 j H1 _ I1 q1) λu s2 ⟨y,H2,I2,q,q2⟩=>
  bi (J g s2 j H2 x y v u _ I2 r1 q q2) λd s3 ⟨z,w,B,r3,k,e,E⟩=>?_)) hm
 subst e;cases r3;refine pk ?_
 cases k with
 |false=>
  obtain ⟨k',e',q'⟩:=E;cases e';exact ite_ff ⟨w,B,q'⟩
 |true=>
  refine ite_tt (test_last (bi (hc g s3 j w _ B E) λw' s4 ⟨z',H4,I4,r4,q4⟩=>bi (n g s4 j H4 y z' u w' _ I4 q r4 q4) λd' s5 o=>?_));obtain ⟨z2,H5,I5,r5,k2,e2,q5⟩:=o;subst e2;cases r5;exact pk ⟨H5,I5,q5⟩
def r8 (K:aC) (x:V) (H:Hp) (k:Bool):Prop:=
 match x with
 | .aU=>k=false
 | .bl b=>k=b
 | .int i=>k=(i !=0)
 | .str y=>y.length<=aP/\k=((y.length:Int) !=0)
 | .uR y=>y.size<=aP/\k=((y.size:Int) !=0)
 | .ref p=>(∃d,cY K H p d/\k=!d.isEmpty)\/(∃d,eQ K H p d/\k=!d.isEmpty)\/ ∃e,H p=some (.dK e)/\k=!e.isEmpty
 |_=>False
def QO {e:Type} {d:List (e×V)} {g:List (e×Value)} (r:KV d g):(!g.isEmpty)=!d.isEmpty:=by
 cases r<;>rfl
def Yt {e:List V} {d:List Value} (r:aN e d):(!d.toArray.isEmpty)=!e.isEmpty:=by
 cases r<;>simp
def VM:(aP:Nat)<2^63:=by rw [oZ];decide
def QP:EB X (λx H Q=> ∃k,r8 X.K x H k/\Q k H):=by
 intro z s σ H x v Q I j h;obtain ⟨k,e,q⟩:=h;have hs:=oZ
 cases x with
 |aU=>
  cases j;have d:=e;subst d;exact truthy_none ⟨H,I,q⟩
 |bl b=>
  cases j;have d:=e;subst d;exact pk ⟨H,I,q⟩
 |int i=>
  obtain ⟨t,rfl⟩:=j;have d:=e;subst d;exact PySem.P.truthy_int ⟨H,I,q⟩
 |str y=>
  obtain ⟨t,rfl⟩:=j;obtain ⟨E,d⟩:y.length<=aP/\k=((y.length:Int) !=0):=e;subst d;exact PySem.P.truthy_str (by omega) ⟨H,I.tok _,q⟩
 |uR y=>
  obtain ⟨t,rfl⟩:=j;obtain ⟨E,d⟩:y.size<=aP/\k=((y.size:Int) !=0):=e;subst d;exact PySem.W.truthy_bytes (by omega) ⟨H,I.tok _,q⟩
 |ref p=>
  cases j;have d:=e;rcases d with ⟨J,l,d⟩| ⟨J,l,d⟩| ⟨n,l,d⟩
  . subst d;obtain ⟨o,r,u,B⟩:=I.list l;have g:=r.length;exact wpAny_truthy_list u.isList (by simp only [cb];omega) ⟨H,I.tok _,by rw [Yt r];exact q⟩
  . subst d;obtain ⟨o,r,u,B⟩:=I.tuple l;have g:=r.length;exact truthy_tuple u (by simp only [cb];omega) ⟨H,I.tok _,by rw [Yt r];exact q⟩
  . subst d;obtain ⟨B,L,w,r,m⟩:n.length<=aP/\(p==mB)=false/\ ∃w,KV n w/\s.heap.DictOf (qE X.prog X.w) p w:=I.aV p _ l;have g:=Cu r;exact wpAny_truthy_dict L m (by omega) ⟨H,I.tok _,by rw [QO r];exact q⟩
 |_=>exact (e).elim
def QQ (i:PE X a Y) (j: ∀whole,isTrue a X.env whole=(do let v<-whole;nw a.pos;mE [v] (truthy v))):
  PT X a (λe H Q=>Y e H λx g=> ∃k,r8 X.K x g k/\Q k g):=by
 intro d s e H Q I h;exact isTrue_plain (bi (i d s e H _ I h) λv l ⟨x,n,o,p,q⟩=>QP d l e n x v Q o p q) (j _)
def lH:ck X (gw .Add) (λx y H Q=> ∃i j,x= .str i/\y= .str j/\i.length+j.length<=aP/\Q (.str (i++j)) H):=by
 intro d s o H x y v u Q I e g h;obtain ⟨i,j,rfl,rfl,l,q⟩:=h;obtain ⟨t,rfl⟩:=e;obtain ⟨n,rfl⟩:=g;exact add_str (λn tk=>⟨.str (i++j),H,I.tok _,⟨_,rfl⟩,q⟩) l
def Wx {x:V} {d:List Value} (r:aN [x] d): ∃u,d=[u]/\aO x u:=by
 cases r with
 |cons e g=>cases g;exact ⟨_,rfl,e⟩
def AE {x y:V} {d:List Value} (r:aN [x,y] d): ∃u e,d=[u,e]/\aO x u/\aO y e:=by
 cases r with
 |cons g h=>
  cases h with
  |cons i j=>cases j;exact ⟨_,_,rfl,g,i⟩
def qU:bC X (.builtin "divmod") (λd H Q=> ∃i j,d=[.int i,.int j]/\AA i j/\ ∀p,H p=none->Q (.ref p) (aH H p (.ak [.int (i/j),.int (i%j)]))):=by
 intro g s l H d n Q I r h;obtain ⟨i,j,rfl,⟨v,w⟩,q⟩:=h;obtain ⟨u,y,rfl,⟨t,rfl⟩,⟨z,rfl⟩⟩:=AE r;refine divmod_int (by omega) ?_ (.inl (PyProof.noPylong_small (by omega)));rw [Int.fdiv_eq_ediv_of_nonneg i (by omega),Int.fmod_eq_emod_of_nonneg i (by omega)];refine ⟨.ref s.heap.objs.size,_,?_,rfl,q _ (I.aV.fresh (bg _))⟩;refine I.laid (λb o e=>bI _ e) (bg _) ⟨by simp only [bN,eM];rw [oZ];decide,[.int (i/j) s.toks,.int (i%j) (s.toks+1)],.cons ⟨_,rfl⟩ (.cons ⟨_,rfl⟩ .nil),?_⟩;exact ⟨_,c9 s.heap rfl,rfl,0,rfl⟩
end
structure lI (h:Heap) (x dx C:Addr) (mA:Vj):Prop where
 obj:h.get? x=some (qw C dx)
 ns:h.Ns1 dx mA
 ne:dx≠x
def QT {h:Heap} {dx:Addr} {d:Vj} (n:h.Ns1 dx d): ∃g,h.get? dx=some g/\ ∀name,CF name g=some (d name):=by
 obtain ⟨o,i,w,j,l,p,_,r⟩:=n;refine ⟨o,j,λname=>?_⟩;have e:=r name;unfold nsFind findBy at e;rw [<-Array.find?_toList] at e;unfold CF;rw [l];dsimp only
 split
 . rename_i y q;rw [q] at e;exact congrArg some e
 . rename_i q;rw [q] at e
   have a:i.toList.any (·.refKey)=false:=by
    rw [List.any_eq_false];intro y u;obtain ⟨z,t,c⟩:=p y (EI.mp u);simp [DictEntry.refKey,c]
   have v: ¬i.toList.any (·.refKey)=true:=by rw [a];exact gd
   rw [if_neg v];exact congrArg some e
def lI.look {h:Heap} {x dx C:Addr} {c:Vj} (I:lI h x dx C c): ∃a,PySem.W.InstAt h x (qw C dx) C (some a)/\ ∀name,CF name a=some (c name):=
 let ⟨a,d,hl⟩:=QT I.ns
 ⟨a,⟨I.obj,rfl,rfl,d⟩,hl⟩
section
variable {prog:bB} {w:World} {A:bH} {E:Vh} {s:aM} {K:aC} {x dx C f:Addr} {mA:Vj} {name:Str} {v:Value}
def QU {a:Bool} {Q:Vh} (X:K.In s.heap) (I:lI s.heap x dx C mA) (d:AF K C name=true) (e:CG K C=true)
  (g:gW K (.ref C) name=some none) (i:mA name=some v) (c:PySem.W.handedIn v=true) (h:Q v {s with toks:=s.toks+1}):
  wpAny (model prog w) A (getAttr (.ref x) name a) Q E s:=by
 obtain ⟨l,J,j⟩:=I.look;exact PySem.W.get_value X J (EJ d).1 (PySem.W.findObj_own e g rfl (by rw [j,i])) c h
def Ra {c:Sem Bool} {Q:Value×List Value->aM->Prop} (X:K.In s.heap) (I:lI s.heap x dx C mA) (a:AF K C name=true)
  (d:gW K (.ref C) name=some (some (.ref f))) (e:AG K (.ref f)=true) (g:mA name=none) (h:Q (.ref f,[.ref x]) s):
  wpAny (model prog w) A (r9 (.ref x) name c) Q E s:=by
 obtain ⟨i,J,j⟩:=I.look;exact PySem.W.method_fn X J (EJ a).1 (EJ a).2 d (beq_iff_eq.mp e) (by show (CF name i).map (·.isSome)=some false;rw [j,g];rfl) h
def Rb {j:List Str} {Q:Unit->aM->Prop} (X:K.In s.heap) (I:lI s.heap x dx C mA)
  (l:gW K (.ref C) "__setattr__" =some (some (.builtin "object.__setattr__"))) (n:EK K C=true) (o:EL K C name=some none) (p:CG K C=true)
  (hw:PySem.Within mA j) (q:j.length<=aP)
  (h: ∀d,lI d x dx C (λy=>if y=name then some v else mA y)->ph dx s.heap d->Q () {s with heap:=d,toks:=s.toks+2}):
  wpAny (model prog w) A (setAttr (.ref x) name v) Q E s:=by
 obtain ⟨B,J,H⟩:=I.look;refine PySem.W.set_plain X J l (PySem.W.osa_open X J n o λb=>?_);obtain ⟨L,r,e⟩:=PySem.W.any_some p;refine ay (aZ (ay (ay (wpAny_loadPart (I.obj) (ay (PySem.W.Looks.here (PySem.W.looks_clsIn X r) ?_))))));rw [e];refine aZ (ay (aZ (ay ?_)));refine wpAny_nsSet1 I.ns λd a c=>?_
 obtain ⟨N,u,z,g,qS,i⟩:=a.count (PySem.Within.cons name v hw);refine ay (wpAny_lookBehind g (by rw [qS];exact pastItsLine_dict (dG i (by rw [bN];omega))) ?_);exact aZ (h _ ⟨(c.2 _ (gm I.ne)).trans I.obj,a,I.ne⟩ c)
def Rc {R:Result->aM->Prop} {a:List Value} {c:List (Str×Value)} (X:K.In s.heap) (e:AH K C=true)
  (i:gW K (.ref C) "__init__" =some (some (.ref f))) (j:PySem.W.typeIn K (.ref f)=some (.type "function"))
  (h:nQ (model prog w) (A.under (.builtin "type.__call__" ⟨.ref C::a,c⟩)) (.call (.ref f) ⟨.ref (s.heap.objs.size+1)::a,c⟩) (PySem.W.InitBack (s.heap.objs.size+1) R)
   {s with heap:=(s.heap.push qT).push (qw C s.heap.objs.size)}):
  nQ (model prog w) A (.call (.ref C) ⟨a,c⟩) R s:=by
 obtain ⟨l,g,d,t,os⟩:=s;exact PySem.W.make_core (PySem.W.makes_of X e) (CH X i) (λself=>PySem.W.bind_fn X self j) (.inl rfl) h
end
noncomputable def cR (f:Str) (v:V):List (Str×V)->List (Str×V)
 | []=>[(f,v)]
 | (g,x)::r=>if g=f then (g,v)::r else (g,x)::cR f v r
theorem Xm (f g:Str) (v:V): ∀fs:List (Str×V),(cR f v fs).lookup g=if g=f then some v else fs.lookup g
 | []=>by
  show f6 g [(f,v)]=_
  by_cases h:g=f
  . have a:=beq_iff_eq.mpr h;simp only [f6,a,if_pos h]
  . have a:=beq_eq_false_iff_ne.mpr h;simp only [f6,a,if_neg h]
 | (k,x)::r=>by
  rw [show cR f v ((k,x)::r)=(if k=f then (k,v)::r else (k,x)::cR f v r) from rfl]
  by_cases c:k=f
  . rw [if_pos c]
    by_cases h:g=k
    . have a:=beq_iff_eq.mpr h;simp only [f6,a,if_pos (h.trans c)]
    . have a:=beq_eq_false_iff_ne.mpr h;simp only [f6,a,if_neg (λe:g=f=>h (e.trans c.symm))]
  . rw [if_neg c]
    by_cases h:g=k
    . have a:=beq_iff_eq.mpr h;simp only [f6,a,if_neg (λe:g=f=>c (h.symm.trans e))]
    . have a:=beq_eq_false_iff_ne.mpr h;simp only [f6,a];exact (Xm f g v r)
theorem Xp (f:Str) (v:V): ∀fs:List (Str×V),f∈(cR f v fs).map (·.1)/\ ∀g,g∈fs.map (·.1)->g∈(cR f v fs).map (·.1)
 | []=>⟨by simp [cR],λg h=>by simp at h⟩
 | (k,x)::r=>by
  obtain ⟨c,d⟩:=Xp f v r;rw [show cR f v ((k,x)::r)=(if k=f then (k,v)::r else (k,x)::cR f v r) from rfl]
  by_cases a:k=f
  . rw [if_pos a];subst a;exact ⟨by simp,λg h=>by simpa using h⟩
  . rw [if_neg a];refine ⟨?_,λg h=>?_⟩
    . rw [fh];exact gc _ c
    . rw [fh] at h ⊢;rcases bA.mp h with e|e
      . exact bA.mpr (.inl e)
      . exact gc _ (d g e)
theorem Xn (f:Str) (v:V): ∀fs:List (Str×V),(cR f v fs).length<=fs.length+1
 | []=>by simp [cR]
 | (k,x)::r=>by
  have c:=Xn f v r;rw [show cR f v ((k,x)::r)=(if k=f then (k,v)::r else (k,x)::cR f v r) from rfl]
  by_cases a:k=f
  . rw [if_pos a,bN,bN];omega
  . rw [if_neg a,bN,bN];omega
def dB.some_of {v:V} {o:Option Value} (r:dB (some v) o): ∃u,o=some u/\aO v u:=by
 cases o with
 |none=>exact (r).elim
 |some u=>exact ⟨u,rfl,r⟩
def dB.none_of {o:Option Value} (r:dB none o):o=none:=by
 cases o with
 |none=>rfl
 |some u=>exact (r).elim
def Rf {v:V} {u:Value} (r:aO v u):PySem.W.handedIn u=true:=by
 cases v with
 |aU=>cases (r);rfl
 |bl b=>cases (r);rfl
 |int i=>obtain ⟨t,e⟩:=(r);cases e;rfl
 |str x=>obtain ⟨t,e⟩:=(r);cases e;rfl
 |uR b=>obtain ⟨t,e⟩:=(r);cases e;rfl
 |nM b=>obtain ⟨t,e⟩:=(r);cases e;rfl
 |ref a=>cases (r);rfl
 |ty n=>cases (r);rfl
section
variable {P:bB} {w:World} {H H':Hp} {h h':Heap} {a C dx:Addr} {fs Po:List (Str×V)}
def Ko (g:dD P w H h) (e:H a=some (.ins C dx fs)): ∃c,lI h a dx C c/\(∀f,dB (fs.lookup f) (c f))/\PySem.Within c (fs.map (·.1))/\fs.length<=1000/\H dx=some (.aw a):=by
 obtain ⟨d,z,ne,ob,c,n,r,q⟩:=(g a _ e)
 exact ⟨c,⟨ob,n,ne⟩,r,q,z,d⟩
end
structure f7 (K:aC) (C:Addr):Prop where
 pg:AF K C Str.empty=true
 hd:CG K C=true
 po:EK K C=true
 sa:gW K (.ref C) "__setattr__" =some (some (.builtin "object.__setattr__"))
def f7.get {K:aC} {C:Addr} (c:f7 K C) (f:Str):AF K C f=true:=c.pg
def dP (K:aC) (C:Addr) (f:Str):Prop:=gW K (.ref C) f=some none
def dP.AI {K:aC} {C:Addr} {f:Str} (n:dP K C f):EL K C f=some none:=by
 unfold EL;rw [show gW K (.ref C) f=some none from n];rfl
structure Meth (K:aC) (C:Addr) (m:Str) (f:Addr):Prop where
 at_:gW K (.ref C) m=some (some (.ref f))
 fn:AG K (.ref f)=true
 kp:iZ K (.ref f)=true
section
variable {X:Cx} {pins:List (Addr×Obj)} {σ:St} {H:Hp} {s:aM} {a C dx:Addr} {fs:List (Str×V)} {f:Str} {v:V} {A:bH} {E:Vh}
def Rg {b:Bool} {Q:Vh} (I:aA X pins σ H s) (e:H a=some (.ins C dx fs)) (c:f7 X.K C) (n:dP X.K C f) (l:fs.lookup f=some v)
  (h: ∀u d,aA X pins σ H d->aO v u->Q u d):wpAny (model X.prog X.w) A (getAttr (.ref a) f b) Q E s:=by
 obtain ⟨j,O,r,_,_,_⟩:=Ko I.aV e;obtain ⟨u,i,g⟩:=dB.some_of (by rw [<-l];exact r f);exact QU I.eD O (c.get f) c.hd n i (Rf g) (h u _ (I.tok _) g)
def Z9 {m:Str} {g:Addr} {d:Sem Bool} {Q:Value×List Value->aM->Prop} (I:aA X pins σ H s) (e:H a=some (.ins C dx fs)) (c:f7 X.K C) (k:Meth X.K C m g) (l:fs.lookup m=none)
  (h:Q (.ref g,[.ref a]) s):wpAny (model X.prog X.w) A (r9 (.ref a) m d) Q E s:=by
 obtain ⟨i,O,r,_,_,_⟩:=Ko I.aV e;exact Ra I.eD O (c.get m) k.at_ k.fn (dB.none_of (by rw [<-l];exact r m)) h
def u6 {y:V} {u:Value} {Q:Unit->aM->Prop} (I:aA X pins σ H s) (e:H a=some (.ins C dx fs)) (c:f7 X.K C) (n:dP X.K C f) (hl:fs.length<1000) (w:aO y u)
   (h: ∀i,aA X pins σ (aH H a (.ins C dx (cR f y fs))) i->Q () i):wpAny (model X.prog X.w) A (setAttr (.ref a) f u) Q E s:=by
 obtain ⟨j,O,r,l,_,p⟩:=Ko I.aV e;have B:(fs.map (·.1)).length<=aP:=by rw [dQ,oZ];omega
 refine Rb I.eD O c.sa c.po n.AI c.hd l B λJ d L=>h _ ?_
 have N: ∃o,J.get? dx=some o:=let ⟨o,_,_,U,_⟩:=d.ns;⟨o,U⟩
 refine I.write (by rw [e];exact ny) (.inr p) (λb q Y z=>(L.2 b Y).trans z) N ?_;refine ⟨by rw [jF O.ne];exact p,?_,O.ne,d.obj,_,d.ns,λg=>?_,λg hg=>?_⟩
 . have:=Xn f y fs;omega
 . show dB ((cR f y fs).lookup g) (if g=f then some u else j g);rw [Xm]
   by_cases q:g=f
   . rw [if_pos q,if_pos q];exact w
   . rw [if_neg q,if_neg q];exact r g
 . by_cases q:g=f
   . rw [q];exact (Xp f y fs).1
   . refine (Xp f y fs).2 g (l g λz=>hg ?_);show (if g=f then some u else j g)=none;rw [if_neg q];exact z
def aA.made (I:aA X pins σ H s):aA X pins σ (aH (aH H s.heap.objs.size (.aw (s.heap.objs.size+1))) (s.heap.objs.size+1) (.ins C s.heap.objs.size []))
  {s with heap:=(s.heap.push qT).push (qw C s.heap.objs.size)}:=by
 have e1:(s.heap.push qT).get? s.heap.objs.size=some qT:=c9 s.heap rfl
 have e2:((s.heap.push qT).push (qw C s.heap.objs.size)).get? (s.heap.objs.size+1)=some (qw C s.heap.objs.size):=by
  have:=c9 (s.heap.push qT) (o:=qw C s.heap.objs.size) rfl
  rwa [o3] at this
 have c:(s.heap.push qT).Ns s.heap.objs.size (λ_=>none):=⟨qT, #[],_,e1,rfl,(λe d=>absurd d (by simp)),λ_=>rfl⟩
 refine (I.laid (o:= .aw (s.heap.objs.size+1)) (t':=s.toks) (λb u q=>bI _ q) (bg _) ⟨_,e1⟩).laid (λb u q=>bI _ q) (Nat.le_of_eq (o3 _ _)) ?_;have ne:s.heap.objs.size≠s.heap.objs.size+1:=dJ (AJ _);refine ⟨by rw [jF ne,ju],i8 _,ne,e2,λ_=>none,(Heap.Ns1.of_empty c).at λo q=>bI _ q,λ_=>ny,λy g=>absurd rfl g⟩
def Rh {c:bB} {w:World} {env:Env} {e:Expr} {f:Str} {g:Pos} {s:aM} {Q:Vh} (i:nR e f env (eval e env)=eval e env)
  (h:wpAny (model c w) A (eval e env) (λo d=>wpAny (model c w) A (getAttr o f true) Q E d) E s):wpAny (model c w) A (eval (.Attribute e f g) env) Q E s:=
 Attribute_any_ h (by rw [arm_eval_Attribute,i])
end
def EM (K:aC) (d:TE) (f:Str):TE:=λe H Q=>d e H λx c=> ∃a C dx fs v,x= .ref a/\c a=some (.ins C dx fs)/\f7 K C/\dP K C f/\fs.lookup f=some v/\Q v c
def EN (K:aC) (e g:TE) (f:Str):TS:=λD c H=>g c H λy h=>e c h λx d=> ∃a C dx fs,x= .ref a/\d a=some (.ins C dx fs)/\f7 K C/\dP K C f/\fs.length<1000/\
 D.nx c (aH d a (.ins C dx (cR f y fs)))
section
variable {X:Cx} {o e value:Expr} {f:Str} {pos pos' gX:Pos} {ta tv:TE}
def Ri (i:PE X e ta) (j:nR e f X.env (eval e X.env)=eval e X.env):PE X (.Attribute e f pos) (EM X.K ta f):=by
 intro d s p H Q I h;refine Rh j (bi (i d s p H _ I h) λu L g=>?_);obtain ⟨x,r,w,y,a,C,dx,fs,v,z,B,c,n,l,q⟩:=g;subst z;obtain rfl:u=cX a:=y;exact Rg w B c n l λN O E J=>⟨v,r,E,J,q⟩
def Rj (j:PE X o ta) (p:PE X value tv) (r:ix value (some (.Attribute o f pos')) pos.line X.env=pure false):PS X (.Assign [.Attribute o f pos'] value pos) (EN X.K ta tv f):=by
 intro d s g H D I h;refine plainObj_wpAny_Assign_Attribute (bi (p d s g H _ I h) λu v ⟨y,w,z,B,q⟩=>bi (j d v g w _ z q) λE Y i=>?_) r;obtain ⟨x,H2,J,L,a,C,dx,fs,N,O,c,n,l,Q⟩:=i;subst N;obtain rfl:E=cX a:=L;exact u6 J O c n l B λs3 U=>⟨g,_,U,Q⟩
end
section
variable {X:Cx} {pins:List (Addr×Obj)} {σ:St} {H:Hp} {s:aM} {A:bH} {E:Vh} {Q:Vh} {c:Value} {b:Bool}
inductive fL (K:aC) (H:Hp):V->Value->Prop where
 |aU:fL K H .aU (.type "NoneType")
 |bl (x:Bool):fL K H (.bl x) (.type "bool")
 |int (i:Int):fL K H (.int i) (.type "int")
 |str (x:Str):fL K H (.str x) (.type "str")
 |nM (x:UInt64):fL K H (.nM x) (.type "float")
 |ai {a:Addr} {xs:List V} (e:H a=some (.ai xs)):fL K H (.ref a) (.type "list")
 |bE {a:Addr} {o:Obj} {xs:List V} (e:H a=some (.bE o (.ai xs))):fL K H (.ref a) (.type "list")
 |ak {a:Addr} {xs:List V} (e:H a=some (.ak xs)):fL K H (.ref a) (.type "tuple")
 |dK {a:Addr} {cG:List (aR×V)} (e:H a=some (.dK cG)):fL K H (.ref a) (.type "dict")
 |dT {a:Addr} {cG:List (List aR×V)} (e:H a=some (.dT cG)):fL K H (.ref a) (.type "dict")
 |ins {a C dx:Addr} {fs:List (Str×V)} (e:H a=some (.ins C dx fs)) (cl:f7 K C) (ha:gW K (.ref C) "__class__" =some (some (.builtin "object.__class__")))
  (hn:AK K (.builtin "object.__class__") "__get__" =some (some (.builtin "getset_descriptor.__get__"))) (htk:PySem.W.takesIn K (.builtin "object.__class__")=some true)
  (hm:PySem.W.mroIn K C (.type "object")=some true):fL K H (.ref a) (.ref C)
def Rk {x:V} {u t:Value} (I:aA X pins σ H s) (d:aO x u) (L:fL X.K H x t) (e:lJ X.K t c=some b) (h: ∀tk,Q (.bool b) {s with toks:=tk}):
  wpAny (model X.prog X.w) A (call (.builtin "isinstance") [u,c]) Q E s:=by
 cases L with
 |aU=>cases (d);exact nz PySem.W.kitx_none I.eD ny e (λz=>nomatch z) h
 |bl y=>cases (d);exact nz PySem.W.kitx_bool I.eD ny e (λz=>nomatch z) h
 |int i=>obtain ⟨t,q⟩:=(d);cases q;exact nz PySem.W.kitx_int I.eD ny e (λz=>nomatch z) h
 |str y=>obtain ⟨t,q⟩:=(d);cases q;exact nz PySem.W.kitx_str I.eD ny e (λz=>nomatch z) h
 |nM y=>obtain ⟨t,q⟩:=(d);cases q;exact nz PySem.W.kitx_float I.eD ny e (λz=>nomatch z) h
 | @ai a r g=>
  cases (d);obtain ⟨_,_,n,_,j⟩:=(I.aV a _ g)
  exact nz PySem.W.kitx_list I.eD ⟨_,j,rfl⟩ e (λz=>nomatch z) h
 | @bE a ob r g=>
  cases (d);obtain ⟨_,_,_,n,_,j⟩:=(I.aV a _ g)
  exact nz PySem.W.kitx_list I.eD ⟨_,j,rfl⟩ e (λz=>nomatch z) h
 | @ak a r g=>
  cases (d);obtain ⟨_,_,_,p⟩:=(I.aV a _ g)
  obtain ⟨o,j,l,_⟩:=p;exact nz PySem.W.kitx_tuple I.eD ⟨o,j,l⟩ e (λz=>nomatch z) h
 | @dK a v g=>
  cases (d);obtain ⟨_,_,vs,_,p⟩:=(I.aV a _ g)
  obtain ⟨o,N,U,j,l,_⟩:=p;exact nz PySem.W.kitx_dict I.eD ⟨o,j,l.1⟩ e (λz=>nomatch z) h
 | @dT a v g=>
  cases (d);obtain ⟨_,_,r,_,o,N,U,j,l,_⟩:=(I.aV a _ g)
  exact nz PySem.W.kitx_dict I.eD ⟨o,j,l.1⟩ e (λz=>nomatch z) h
 | @ins a C dx fs g B Y hn w hm=>
  cases (d);obtain ⟨mA,O,_⟩:=Ko I.aV g;obtain ⟨od,J,_⟩:=O.look;exact nz (PySem.W.kitx_own (B.get _) B.hd Y hn w hm) I.eD J e (λz=>nomatch z) h
end
structure aI (k:Nat) (A:bH):Prop where
 hd:A.handled=none
 dp:A.depth+3*k+5<recursionLimit
 un:A.units+16*k+200<cLine
def aI.mono {j k:Nat} {A:bH} (r:aI k A) (h:j<=k):aI j A:=⟨r.hd,by have:=r.dp;omega,by have:=r.un;omega⟩
def aI.deeper {k:Nat} {A:bH} (r:aI (k+1) A) (env:Env):aI k (A.deeper env):=
 ⟨r.hd,by have:=r.dp;show A.depth+1+3*k+5<_;omega,by have:=r.un;show A.units+3+16*k+200<_;omega⟩
def Rl {A:bH} {C:Addr} {a:List Value} {c:List (Str×Value)}:(A.under (.builtin "type.__call__" ⟨.ref C::a,c⟩)).depth=A.depth+1:=by
 first|rfl|simp [Around.under,Code.weight,Code.isCreation,Code.isGuard,Code.isCaller,Code.frames,Code.isFrame,guardIds]
def Rm {A:bH} {C:Addr} {a:List Value} {c:List (Str×Value)}:(A.under (.builtin "type.__call__" ⟨.ref C::a,c⟩)).units=A.units+1:=by
 first|rfl|simp [Around.under,Code.cUnits,Code.frames,Code.isFrame]
def aI.make {k:Nat} {A:bH} (r:aI (k+1) A) (C:Addr) (a:List Value) (c:List (Str×Value)):aI k (A.under (.builtin "type.__call__" ⟨.ref C::a,c⟩)):=
 ⟨r.hd,by have:=r.dp;rw [Rl];omega,by have:=r.un;rw [Rm];omega⟩
def aI.depth {k:Nat} {A:bH} (r:aI k A):A.depth<recursionLimit:=by have:=r.dp;omega
def aI.units {k:Nat} {A:bH} (r:aI k A):A.units+64<cLine:=by have:=r.un;omega
def AL:TA:=λ_ H Q=>Q [] H
def Rn (c:TE) (d:TA):TA:=λa H Q=>c a H λx e=>d a e λg h=>Q (x::g) h
section
variable {X:Cx} {e:Expr} {es:List Expr} {te:TE} {t:TA} {pos:Pos}
def wo:PA X [] AL:=λ_ _ _ _ H Q I h=>EO ⟨[],H,I,.nil,h⟩
def qc (g:PE X e te) (i:PA X es t) (j:UO X e es:=by rfl):PA X (e::es) (Rn te t):=by
 intro pos a s d H Q I h;rw [j];refine EQ (bi (g a s d H _ I h) λu l c=>?_);obtain ⟨x,n,o,p,q⟩:=c;exact bi (i pos a l d n _ o q) λB E ⟨r,v,w,y,z⟩=>⟨x::r,v,w,.cons p y,z⟩
def ER (t:TA):TE:=λd H Q=>t d H λa c=>a.length<=aP/\ ∀p,c p=none->Q (.ref p) (aH c p (.ak a))
def ES (t:TA):TE:=λd H Q=>t d H λa c=>a.length<=aP/\ ∀p,c p=none->Q (.ref p) (aH c p (.ai a))
def Lk {g} (h:PA X es t):PE X (.Tuple es g pos) (ER t):=by
 intro a s i H Q I j;refine wpAny_Tuple_spliced (bi (h pos a s i H _ I j) λl c ⟨n,o,d,r,z,q⟩=>⟨by rw [<-r.length];exact z,?_⟩);refine ⟨.ref c.heap.objs.size,aH o c.heap.objs.size (.ak n),d.laid (λb u e=>bI _ e) (bg _) ?_,rfl,q _ (d.aV.fresh (bg _))⟩;exact ⟨z,l,r,⟨_,c9 _ rfl,rfl,_,rfl⟩⟩
def Ro (h:PA X es t):PE X (.List es pos) (ES t):=by
 intro a s g H Q I i;refine wpAny_List_spliced (bi (h pos a s g H _ I i) λj c ⟨l,n,d,r,z,q⟩=>⟨by rw [<-r.length];exact z,?_⟩);refine ⟨.ref c.heap.objs.size,aH n c.heap.objs.size (.ai l),d.laid (λb u e=>bI _ e) (bg _) ?_,rfl,q _ (d.aV.fresh (bg _))⟩;exact ⟨z,j,0,r,c9 _ rfl⟩
end
abbrev Sp:=List V->Hp->VK->XK->Prop
abbrev nA:=List Env->Hp->aM->XK->Value->aM->Prop
structure mG (P:bB) (w:World) (K:aC) (mg:Vj) (af:Heap) (A:bH) (outer:List Env) (s:aM) (H:Hp):Prop where
 frames:A.frames=some outer
 mod:Mod K mg af
 bs: ∀b o,af.get? b=some o->s.heap.get? b=some o/\H b=none
 mC:af.objs.size<=s.heap.objs.size
 eB:s.heap.FunFrames af outer
 nN: ∀b∈cH outer,H b=none
 aV:dD P w H s.heap
 bare:oX s.gens
def CE (a:List Env) (P:bB) (w:World) (H:Hp) (s:aM) (Q:VK) (u:Value) (c:aM):Prop:=
 ∃v d,c.os=s.os/\oX c.gens/\Un (cH a) [] H d s.heap c.heap/\dD P w d c.heap/\aO v u/\Q v d
def CR (d:nA) (a:List Env) (P:bB) (w:World) (H:Hp) (s:aM) (Q:VK) (E:XK) (r:Result) (c:aM):Prop:=
 match r with
 | .ok (.ret u)=>CE a P w H s Q u c
 | .ok _=>False
 | .error e=>d a H s E e c
structure bX (P:bB) (w:World) (K:aC) (mg:Vj) (af:Heap) (CX:nA) (k:Nat) (f:Addr) (fd:mH) (ps:List Str) (sp:Sp):Prop where
 len: ∀vs H Q E,sp vs H Q E->vs.length=ps.length
 run: ∀(A:bH) (outer:List Env) (s:aM) (H:Hp) (args:Args) (us:List Value) (vs:List V) (Q:VK) (E:XK),aI k A->mG P w K mg af A outer s H->BindsTo s fd args (ps.zip us)->aN vs us->sp vs H Q E->
  nQ (model P w) A (.call (.ref f) args) (CR CX outer P w H s Q E) s
def bX.mono {P:bB} {w:World} {K:aC} {mg:Vj} {af:Heap} {a:nA} {j k:Nat} {f:Addr} {c:mH} {d:List Str} {e:Sp} (F:bX P w K mg af a j f c d e) (h:j<=k):
 bX P w K mg af a k f c d e:=⟨F.len,λA outer s H args g i Q E hr=>F.run A outer s H args g i Q E (hr.mono h)⟩
def mG.make {P:bB} {w:World} {K:aC} {mg:Vj} {af:Heap} {A:bH} {outer:List Env} {s:aM} {H:Hp} (e:mG P w K mg af A outer s H) (C:Addr) (a:List Value) (c:List (Str×Value)):
 mG P w K mg af (A.under (.builtin "type.__call__" ⟨.ref C::a,c⟩)) outer s H:=⟨by first|exact e.frames| (simpa [Around.under,Code.envs,Code.isFrame,pushEnvs] using e.frames),e.mod,e.bs,e.mC,e.eB,e.nN,e.aV,e.bare⟩
section
variable {X:Cx} {pins:List (Addr×Obj)} {σ:St} {H:Hp} {s s':aM}
def aA.pA (I:aA X pins σ H s):mG X.prog X.w X.K X.mg X.af X.A X.stack s H:=
 ⟨I.ok.frames,I.ok.mod,I.bs,dG I.ok.mC I.sz,I.stack,I.cO,I.aV,I.bare⟩
def aA.after {Q:VK} {u:Value} (I:aA X pins σ H s) (h:CE X.stack X.prog X.w H s Q u s'):EP X pins σ Q u s':=by
 obtain ⟨v,c,os,bare,un,aV,r,q⟩:=h;obtain ⟨e,g,d,t,a⟩:=s';obtain rfl:a=s.os:=os;exact ⟨v,c,I.call un aV bare (λb z=>absurd z (by simp)),r,q⟩
end
def Rp (a:Sp) (fI:List V) (E:XK) (t:TA):TE:=λc H Q=>t c H λd e=>a (d++fI) e Q E
def Ll (C:Addr) (m:Str) (e:Sp) (fI:List V) (E:XK) (g:TE) (t:TA):TE:=λc H Q=>g c H λx d=> ∃a dx fs,x= .ref a/\d a=some (.ins C dx fs)/\fs.lookup m=none/\
 t c d λh i=>e (x::(h++fI)) i Q E
def Rq (C:Addr) (c:Sp) (fI:List V) (E:XK) (t:TA):TE:=λd H Q=>t d H λe a=> ∀x dx,a x=none->a dx=none->dx≠x->
 c (.ref x::(e++fI)) (aH (aH a dx (.aw x)) x (.ins C dx [])) (λv g=>v= .aU/\Q (.ref x) g) E
def Binds (K:aC) (d:mH) (c:List Str) (ds:List Value):Prop:=
 ∀(s:aM) (a:List Value),K.In s.heap->(a++ds).length=c.length->BindsTo s d ⟨a,[]⟩ (c.zip (a++ds))
def Binds.all {K:aC} {d:mH} {c:List Str} (h: ∀a:List Value,a.length=c.length->bindArgs d ⟨a,[]⟩=pure (c.zip a)):Binds K d c []:=λs a _ hl=>by
 rw [nS] at hl ⊢;exact .of_eq (h a hl)
def Zz (d:nA) (X:Cx) (E:XK):Prop:= ∀(a:List (Addr×Obj)) (g:St) (H:Hp) (s:aM) (e:Value) (c:aM),aA X a g H s->d X.stack H s E e c->X.xe e c
section
variable {X:Cx} {CX:nA} {k:Nat} {f C:Addr} {fd:mH} {ps:List Str} {sp:Sp} {fI:List V} {ds:List Value} {E:XK} {x m:Str} {p i apos:Pos} {e o:Expr} {es:List Expr} {ta:TE} {t:TA}
def ET {a:List (Addr×Obj)} {g:St} {H:Hp} {s:aM} {Q:VK} {c:List Value} {vs:List V} (F:bX X.prog X.w X.K X.mg X.af CX k f fd ps sp) (l:aI k X.A) (n:Binds X.K fd ps ds) (q:aN fI ds) (v:Zz CX X E)
  (I:aA X a g H s) (r:aN vs c) (h:sp (vs++fI) H Q E):wpAny (model X.prog X.w) X.A (call (.ref f) c) (EP X a g Q) X.xe s:=by
 have j:=r.append q;have w:(c++ds).length=ps.length:=by rw [<-j.length];exact F.len _ _ _ _ h
 refine wm (pB (F.run X.A X.stack s H ⟨c,[]⟩ (c++ds) (vs++fI) Q E l I.pA (n s c I.eD w) j h) λr y d=>?_)
 cases r with
 |error e=>exact v a g H s e y I d
 |ok z=>
  cases z with
  |ret u=>exact I.after d
  |next=>exact gO d
  |brk=>exact gO d
  |cont=>exact gO d
def U1 (F:bX X.prog X.w X.K X.mg X.af CX k f fd ps sp) (j:aI k X.A) (l:Gl X x) (n:X.mg x=some (.ref f)) (u:iZ X.K (.ref f)=true) (v:Binds X.K fd ps ds) (w:aN fI ds) (y:Zz CX X E)
  (z:PA X (e::es) t) (c:YU x:=by decide) (B:UO X e es:=by rfl) (d:UN X i es:=by rfl):
  PE X (.Call (.Name x p) (e::es) [] i) (Rp sp fI E t):=by
 intro a s J H Q I h;refine wC (yO I l n ?_ c);refine sd I.ok.mod.oW u (bi (z i a s J H _ I h) λL N ⟨O,U,g,r,q⟩=>⟨g.eD,?_⟩) B d;exact ET F j v w y g r q
def Rr {J:Sem Bool} (L:PE X o ta) (c:f7 X.K C) (v:Meth X.K C m f) (F:bX X.prog X.w X.K X.mg X.af CX k f fd ps sp) (N:aI k X.A) (O:Binds X.K fd ps ds) (U:aN fI ds) (Y:Zz CX X E) (ha:PA X (e::es) t)
  (g:UO X e es:=by rfl) (j:UN X i es:=by rfl)
  (ht:eval (.Call (.Attribute o m apos) (e::es) [] i) X.env=(do
   let w<-eval o X.env
   nw apos.atName
   let (f,first)<-mE [w] (r9 w m J)
   callWith i f first (dL i (bb (e::es) X.env)) (lK i (lL [] X.env))):=by rfl):
  PE X (.Call (.Attribute o m apos) (e::es) [] i) (Ll C m sp fI E ta t):=by
 intro d s y H Q I h;refine EU (bi (L d s y H _ I h) λu s1 n=>?_) ht;obtain ⟨x,H1,z,rx,a,dx,fs,ex,ea,l,q⟩:=n;subst ex;obtain rfl:u=cX a:=rx;refine Z9 z ea c v l ?_;refine sd I.ok.mod.oW v.kp (bi (ha i d s1 y H1 _ z q) λus s2 ⟨vs,H2,B,r,q2⟩=>⟨B.eD,?_⟩) g j;exact ET (vs:= .ref a::vs) F N O U Y B (.cons rfl r) q2
def Rs {v:Sem Bool} (w:PE X o ta) (c:f7 X.K C) (n:Meth X.K C m f) (F:bX X.prog X.w X.K X.mg X.af CX k f fd ps sp) (y:aI k X.A) (z:Binds X.K fd ps ds) (B:aN fI ds) (J:Zz CX X E)
  (L:eval (.Call (.Attribute o m apos) [] [] i) X.env=(do
   let r<-eval o X.env
   nw apos.atName
   let (f,first)<-mE [r] (r9 r m v)
   callWith i f first (dL i (bb [] X.env)) (lK i (lL [] X.env))):=by rfl):
  PE X (.Call (.Attribute o m apos) [] [] i) (Ll C m sp fI E ta AL):=by
 intro d s N H Q I h;refine EU (bi (w d s N H _ I h) λu s1 g=>?_) L;obtain ⟨x,H1,j,O,a,dx,fs,U,Y,l,q⟩:=g;subst U;obtain rfl:u=cX a:=O;refine Z9 j Y c n l ?_;exact PySem.W.callWith_K0 j.eD n.kp (ET (vs:=[.ref a]) F y z B J j (.cons rfl .nil) q)
structure Mk (K:aC) (C f:Addr):Prop where
 makes:AH K C=true
 init:gW K (.ref C) "__init__" =some (some (.ref f))
 fn:AG K (.ref f)=true
 kp:iZ K (.ref C)=true
def Rt {a:List (Addr×Obj)} {j:St} {H:Hp} {s:aM} {Q:VK} {d:List Value} {l:List V} (M:Mk X.K C f) (F:bX X.prog X.w X.K X.mg X.af CX k f fd ps sp) (w:aI (k+1) X.A) (y:Binds X.K fd ps ds) (z:aN fI ds)
  (B:Zz CX X E) (I:aA X a j H s) (r:aN l d)
  (h: ∀x dx,H x=none->H dx=none->dx≠x->sp (.ref x::(l++fI)) (aH (aH H dx (.aw x)) x (.ins C dx [])) (λv J=>v= .aU/\Q (.ref x) J) E):
  wpAny (model X.prog X.w) X.A (call (.ref C) d) (EP X a j Q) X.xe s:=by
 have n:=h (s.heap.objs.size+1) s.heap.objs.size (I.aV.fresh (o4 _)) (I.aV.fresh (bg _)) (dJ (AJ _));have g:=aA.made (C:=C) I;have q:aN (V.ref (s.heap.objs.size+1)::(l++fI)) (cX (s.heap.objs.size+1)::(d++ds)):= .cons rfl (r.append z)
 have L:(cX (s.heap.objs.size+1)::d++ds).length=ps.length:=by
  have e:=q.length;rw [F.len _ _ _ _ n] at e;exact e.symm
 refine wm (Rc I.eD M.makes M.init (beq_iff_eq.mp M.fn) (pB (F.run _ X.stack _ _ ⟨cX (s.heap.objs.size+1)::d,[]⟩ (cX (s.heap.objs.size+1)::(d++ds)) _ _ E (w.make C d [])
  (g.pA.make C d []) (y _ (cX (s.heap.objs.size+1)::d) g.eD L) q n) λr N c=>?_))
 cases r with
 |error e=>exact B a j _ _ e N g c
 |ok O=>
  cases O with
  |ret u=>
   obtain ⟨v,U,Y,rv,ev,q3⟩:=g.after c;subst ev;exact ⟨rv,⟨V.ref (s.heap.objs.size+1),U,Y,rfl,q3⟩⟩
  |next=>exact gO c
  |brk=>exact gO c
  |cont=>exact gO c
def Rv (M:Mk X.K C f) (F:bX X.prog X.w X.K X.mg X.af CX k f fd ps sp) (j:aI (k+1) X.A) (l:Gl X x) (n:X.mg x=some (.ref C)) (u:Binds X.K fd ps ds) (v:aN fI ds) (w:Zz CX X E)
  (y:PA X (e::es) t) (c:YU x:=by decide) (z:UO X e es:=by rfl) (d:UN X i es:=by rfl):
  PE X (.Call (.Name x p) (e::es) [] i) (Rq C sp fI E t):=by
 intro a s B H Q I h;refine wC (yO I l n ?_ c);refine sd I.ok.mod.oW M.kp (bi (y i a s B H _ I h) λJ L ⟨N,O,g,r,q⟩=>⟨g.eD,?_⟩) z d;exact Rt M F j u v w g r q
end
structure ar (N P:List Str) (sc:Scope):Prop where
 kind:sc.kind= .function
 co:sc.isCoroutine=false
 gen:sc.isGenerator=false
 nd:N.Nodup
 pre:N.take P.length=P
 par: ∀x∈P,sc.names.lookup x=some .local\/sc.names.lookup x=some .cell
 se: ∀y∈sc.names,y.2≠ .free
theorem Uu {kindOf:Str->Option NameKind} {x:Str}: ∀ {binds:List (Str×Value)} {m:Vj},(∀v,(x,v)∉binds)->bindL kindOf binds m x=m x
 | [],_,_=>rfl
 | (n,v)::r,m,h=>by
  unfold bindL;rw [Uu λw hw=>h w (gc _ hw)]
  split
  . have:x≠n:=by rintro rfl;exact h v lE
    simp [this]
  . rfl
theorem Uw {kindOf:Str->Option NameKind} {x:Str}: ∀ {binds:List (Str×Value)} {m:Vj},(∀v,(x,v)∉binds)->bindC kindOf binds m x=m x
 | [],_,_=>rfl
 | (n,v)::r,m,h=>by
  unfold bindC;rw [Uw λw hw=>h w (gc _ hw)]
  split
  . rfl
  . have:x≠n:=by rintro rfl;exact h v lE
    simp [this]
theorem Uv {kindOf:Str->Option NameKind} {x:Str} {v:Value}: ∀ {P:List Str} {a:List Value} {i:Nat} {m:Vj},P.Nodup->P[i]?=some x->a[i]?=some v->kindOf x=some .local->
  bindL kindOf (P.zip a) m x=some v
 | [],_,_,_,_,h,_,_=>by simp at h
 |_::_,[],_,_,_,_,h,_=>by simp at h
 |p::P,w::a,0,m,e,c,d,g=>by
  simp at c d;subst c;subst d;show bindL kindOf ((p,w)::P.zip a) m p=_;unfold bindL;rw [Uu λv j=>(q0.mp e).1 (List.of_mem_zip j).1,if_pos g];simp
 |p::P,w::a,i+1,m,e,c,d,g=>by
  unfold bindL;exact Uv (q0.mp e).2 (by simpa using c) (by simpa using d) g
theorem Ux {kindOf:Str->Option NameKind} {x:Str} {v:Value}: ∀ {P:List Str} {a:List Value} {i:Nat} {m:Vj},P.Nodup->P[i]?=some x->a[i]?=some v->kindOf x≠some .local->
  bindC kindOf (P.zip a) m x=some v
 | [],_,_,_,_,h,_,_=>by simp at h
 |_::_,[],_,_,_,_,h,_=>by simp at h
 |p::P,w::a,0,m,e,c,d,g=>by
  simp at c d;subst c;subst d;show bindC kindOf ((p,w)::P.zip a) m p=_;unfold bindC;rw [Uw λv j=>(q0.mp e).1 (List.of_mem_zip j).1,if_neg g];simp
 |p::P,w::a,i+1,m,e,c,d,g=>by
  unfold bindC;exact Ux (q0.mp e).2 (by simpa using c) (by simpa using d) g
noncomputable def start (N:List Str) (a:List V):St:=a.map some++dq (N.length-a.length) none
noncomputable def bu (h:nA) (P:bB) (w:World) (K:aC) (mg:Vj) (af:Heap) (N:List Str) (c:Str) (a:Scope) (f:Addr) (g:Value) (A:bH) (outer:List Env) (s:aM) (H:Hp) (E:XK):Cx where
 prog:=P
 w:=w
 K:=K
 mg:=mg
 af:=af
 A:=A.deeper (gn c a s.heap.objs.size f g)
 N:=N
 dF:=s
 i7:=H
 env:=gn c a s.heap.objs.size f g
 outer:=outer
 stack:=gn c a s.heap.objs.size f g::outer
 ex:=[]
 bM:=true
 fn:=λ_=>true
 pn:=[]
 xe:=λe i=>wpAny (model P w) (A.deeper (gn c a s.heap.objs.size f g)) (leaving (gn c a s.heap.objs.size f g) e) (λ_ d=>h outer H s E e d) (λj d=>h outer H s E j d) i
def uM {a:Scope} {n:Nat} {x:Str} (h:a.names.lookup x=some .cell): ∃c,(cellsFrom n a.names []).lookup x=some c:=by
 exact EV.mp (PySem.W.cellsFrom_some a.names n [] (.inl h))
def Rx {CX:nA} {P:bB} {w:World} {K:aC} {Y:Vj} {n:Heap} {N B:List Str} {j:Str} {d:Scope} {f:Addr} {O:Value} {A:bH} {g:List Env} {s s1:aM} {H:Hp} {E:XK} {us:List Value} {I:List V}
   (S:ar N B d) (hd:A.handled=none) (o:mG P w K Y n A g s H) (hl:I.length=B.length) (r:aN I us)
   (x:InCallC s s.heap.objs.size (bindL (gn j d s.heap.objs.size f O).kindOf (B.zip us) λ_=>none) (cellsFrom (s.heap.objs.size+1) d.names []) (bindC (gn j d s.heap.objs.size f O).kindOf (B.zip us) λ_=>none) s1):
   aA (bu CX P w K Y n N j d f O A g s H E) [] (start N I) H s1:=by
 have wD:B.length<=N.length:=by have:=congrArg List.length S.pre;rw [sg] at this;omega
 obtain ⟨Q,tk,rfl,hk⟩:=x.done;have pC: ∀b:Addr,b∉(bu CX P w K Y n N j d f O A g s H E).ex:=λb z=>absurd (show b∈([]:List Addr) from z) (by simp)
 refine ⟨⟨o.mod,S.kind,rfl,rfl,bg _,λy z c Q l=>?_,λy hy=>?_,λy c _ h=>?_,λ_=>hd,Around.frames_deeper o.frames,.inr ⟨rfl,rfl⟩,λb z=>absurd z (pC b),o.bs,o.mC,λb _ _=>pC b,λb z=>absurd z (pC b),o.eB,o.nN⟩,
   rfl,o.bare,Un.kept hk,⟨_,x.toInCall.ns,λi y v Q l h3=>?_⟩,λy c h=>⟨_,x.cell y c h⟩,o.aV.fresh (bg _),λy c h=>?_,λp J=>absurd (show p∈([]:List (Addr×Obj)) from J) (by simp),o.aV.kept hk,?_⟩
 . exact name_of_addr x.apart (sh Q) (sh l)
 . have hy:=hy;rcases hy with hy|hy
   . exact uM hy
   . exact absurd rfl (S.se _ (sh hy))
 . exact Nat.le_of_lt (x.above y c (sh h))
 . have U:i<I.length:=by
     unfold start at l
     by_cases U:i<I.length
     . exact U
     . rw [gP (by simpa using U)] at l;rw [pD] at l
       split at l<;>cases l
   have ha:I[i]?=some v:=by
     unfold start at l;rw [ig (by simpa using U),gY] at l
     cases e:I[i]? with
     |none=>rw [e] at l;cases l
     |some a=>rw [e] at l;cases l;rfl
   obtain ⟨u,hu,rv⟩:=r.get ha
   have J:B[i]?=some y:=by
     rw [<-S.pre,List.getElem?_take_of_lt (by omega)];exact Q
   have L:B.Nodup:=by rw [<-S.pre];exact S.nd.sublist (List.take_sublist _ _)
   refine ⟨u,rv,?_⟩;rcases S.par y (lu J) with k|k
   . exact .inl ⟨k,Uv L J hu k⟩
   . obtain ⟨c,e⟩:=uM k;refine .inr ⟨.inl k,c,e,?_⟩;have q:=x.cell y c e;rw [Ux L J hu (by show d.names.lookup y≠_;rw [k];decide)] at q;exact q
 . exact o.aV.fresh (Nat.le_of_lt (x.above y c (sh h)))
 . unfold start;show _=N.length;rw [dr,dQ,List.length_replicate];omega
def EW {CX:nA} {P:bB} {w:World} {K:aC} {mg:Vj} {h:Heap} {k:Nat} {f:Addr} {name d:Str} {i:Arguments} {j:List Stmt} {a:Scope} {dV kV U pm g ct oc:Value} {an od:Option Addr}
  {AM:Array (Option Value)} {N ps:List Str} {sp:Sp} (lk:K.lookup f=some ⟨oc,od,.func (lM name d i j a dV kV U pm an g ct),AM⟩) (wE:ra K g d=true) (S:ar N ps a)
  (len: ∀l H Q E,sp l H Q E->l.length=ps.length)
  (B: ∀(A:bH) (c:List Env) (s:aM) (H:Hp) (l:List V) (Q:VK) (E:XK),aI k (A.deeper (gn d a s.heap.objs.size f g))->sp l H Q E->
    ∃t,dM (bu CX P w K mg h N d a f g A c s H E) j t/\t {nx:=λ_ z=>Q .aU z,rt:=Q} (start N l) H):
  bX P w K mg h CX (k+1) f (lM name d i j a dV kV U pm an g ct) ps sp:=by
 refine ⟨len,λA c s H args us l Q E hr Y hb r CI=>?_⟩;have KX:=Y.mod.oW.keeps λb o e=>(Y.bs b o e).1
 have L: ∀y∈ps.zip us,a.names.lookup y.1=some .local\/(a.names.lookup y.1=some .cell/\((cellsFrom (s.heap.objs.size+1) a.names []).lookup y.1).isSome=true):=λ⟨n,v⟩ hy=>by
  rcases S.par n (List.of_mem_zip hy).1 with q|q
  . exact .inl q
  . exact .inr ⟨q,PySem.W.cellsFrom_some _ _ _ (.inl q)⟩
 refine codeAny_call_function hr.depth (KX _ _ lk) rfl S.co S.gen rfl (PySem.W.codeRec_of KX wE) (hb _ _ _ _ ?_);refine wpAny_newFunctionEnv_cells S.kind L λenv he s1 x=>?_
 subst he;refine ⟨(Y.mod.nolimit.keeps λb o e=>(Y.bs b o e).1).keeps x.toInCall.keep,codeAny_func ?_⟩;obtain ⟨t,ht,hq⟩:=B A c s H l Q E (hr.deeper _) CI;have I:aA (bu CX P w K mg h N d a f g A c s H E) [] (start N l) H s1:=Rx S hr.hd Y (len _ _ _ _ CI) r x;refine ie (ht [] s1 (start N l) H _ I hq) (λfl s' O=>?_) λe s' O=>O
 have fin: ∀ {p:St} {z:Hp} {v:V} {u:Value},aA (bu CX P w K mg h N d a f g A c s H E) [] p z s'->aO v u->Q v z->CE c P w H s Q u s':=
  λ{p z v u} J rv q=>⟨v,z,J.os,J.bare,J.af,J.aV,rv,q⟩
 cases fl with
 |ret u=>
  obtain ⟨v,p,z,J,rv,q⟩:=O;exact fin J rv q
 |next=>
  obtain ⟨p,z,J,q⟩:=O;exact fin (v:=V.aU) J rfl q
 |brk=>
  obtain ⟨_,_,_,q⟩:=O;exact gO q
 |cont=>
  obtain ⟨_,_,_,q⟩:=O;exact gO q
section
variable {X:Cx} {x:Str} {p pos:Pos} {e:Expr} {es:List Expr} {t:TA} {id T:String} {r:List V->Hp->VK->Prop}
def CJ (r:List V->Hp->VK->Prop) (t:TA):TE:=λa H Q=>t a H λc d=>r c d Q
def Q4 (i:bC X (.builtin id) r) (j:Gl X x) (l:X.mg x=none) (n:lD x=some (.builtin id)) (o:PA X (e::es) t) (q:x≠ "__name__" :=by decide) (c:YU x:=by decide)
  (u:UO X e es:=by rfl) (d:UN X pos es:=by rfl):PE X (.Call (.Name x p) (e::es) [] pos) (CJ r t):=by
 intro a s g H Q I h;refine wC (Wr I j l n ?_ q c);exact PyProof.Rows.callWith_builtin1 (bi (o pos a s g H _ I h) λv w ⟨y,z,B,E,J⟩=>i a w g z y v Q B E J) u d
def Xc (i:bC X (.type T) r) (j:Gl X x) (l:X.mg x=none) (n:lD x=some (.type T)) (o:PA X (e::es) t) (q:x≠ "__name__" :=by decide) (c:YU x:=by decide)
  (u:UO X e es:=by rfl) (d:UN X pos es:=by rfl):PE X (.Call (.Name x p) (e::es) [] pos) (CJ r t):=by
 intro a s g H Q I h;refine wC (Wr I j l n ?_ q c);exact v3 (bi (o pos a s g H _ I h) λv w ⟨y,z,B,E,J⟩=>i a w g z y v Q B E J) u d
end
end L2
namespace HT
open PySem PyProof.Rows
section
variable {prog:bB} {w:World} {A:bH} {E:Vh} {s:aM}
def pE {t b:Addr} {d a:List Value} {Q:Vh} (v:IsTup s.heap t d.toArray) (y:IsTup s.heap b a.toArray) (p:d≠[])
   (z:a=[]->Q (.ref t) s) (B:a≠[]->Q (.ref s.heap.objs.size) {s with heap:=s.heap.push {cls:= .type "tuple",data:= .seq (d++a).toArray}})
   (j:d.length+a.length<=aP):wpAny (model prog w) A (gw .Add (.ref t) (.ref b)) Q E s:=by
 obtain ⟨⟨cls,dd,data,q⟩,i,H,n,I⟩:=id v;obtain ⟨⟨r,g,data2,h⟩,c,l,u,o⟩:=id y;subst H I l o;have e:d.toArray++a.toArray=(d++a).toArray:=by simp
 by_cases hw:a=[]
 . exact concat_meets ⟨_,i,rfl⟩ ⟨_,c,rfl⟩ noFill_tuple_add seq_tuple_add PySem.F.slot_tuple_add PySem.F.entry_tuple_add (PySem.F.args_tuple_add_2 _ _)
    (tuple_addW1 t b d.toArray a.toArray n u dd g q h (by simpa using p) (by simp [hw])) ⟨i,c,z hw⟩
 . refine concat_meets ⟨_,i,rfl⟩ ⟨_,c,rfl⟩ noFill_tuple_add seq_tuple_add PySem.F.slot_tuple_add PySem.F.entry_tuple_add (PySem.F.args_tuple_add_2 _ _)
    (tuple_addW2 t b d.toArray a.toArray n u dd g q h (by simpa using p) (by simpa using hw) (by rw [cb,cb];exact j)) ⟨i,c,?_⟩
   rw [e];exact B hw
noncomputable def bG (n d:Nat):Option Int->Nat
 |none=>d
 |some v=>if v<0 then (v+(n:Int)).toNat else min v.toNat n
def fj (n d:Nat):bG n d none=d:=rfl
def gp (n d k:Nat):bG n d (some (k:Int))=min k n:=by
 show (if k<0 then (k+(n:Int)).toNat else min (k:Int).toNat n)=min k n;rw [if_neg (by omega),rb]
def jlg (n d:Nat) (c:d<=n) (o:Option Int):bG n d o<=n:=by
 cases o with
 |none=>exact c
 |some v=>
  show (if v<0 then (v+n).toNat else min v.toNat n)<=n
  by_cases a:v<0
  . rw [if_pos a];omega
  . rw [if_neg a];exact Nat.min_le_right _ _
def Lm (v:Int) (n d:Nat):(if v<0 then max (v+(n:Int)) 0 else min v (n:Int))=((bG n d (some v):Nat):Int):=by
 show (if v<0 then max (v+n) 0 else min v n)=(((if v<0 then (v+n).toNat else min v.toNat n):Nat):Int)
 by_cases a:v<0
 . simp only [if_pos a];omega
 . simp only [if_neg a];omega
def Ry (lo a:Option Int) (n:Nat):Ln lo a 1 (n:Int)=(((bG n 0 lo:Nat):Int),((bG n n a:Nat):Int)):=by
 refine Prod.ext ?_ ?_
 . cases lo with
   |none=>rfl
   |some v=>exact Lm v n 0
 . cases a with
   |none=>rfl
   |some v=>exact Lm v n n
def Rz (i j:Nat):CK (i:Int) (j:Int) 1=j-i:=by
 unfold CK
 split<;>omega
def Yf {v:Value} {o:Option Int} {Q:Option Int->aM->Prop} (p:IsPart v o) (h:Q o s):wpAny (model prog w) A (Builtin.Slice.slicePartIndex v) Q E s:=by
 cases p with
 |none=>exact slicePart_none h
 |int i t=>exact slicePart_int h
def dc {e:Addr} {vl g:Value} {lo a:Option Int} {n:Nat} {Q:Int×Int×Nat->aM->Prop} (i:s.heap.IsSliceOf e vl g .none) (j:IsPart vl lo) (l:IsPart g a)
  (h:Q (((bG n 0 lo:Nat):Int),1,bG n n a-bG n 0 lo) s):wpAny (model prog w) A (Builtin.Slice.sliceApplied (.ref e) (pure (n:Int))) Q E s:=by
 obtain ⟨os,c,o,d⟩:=id i;refine ay (ay (gx c d rfl (ay (gx c d rfl (ay (gx c d rfl (aZ ?_)))))));refine ay (slicePart_none ?_);refine ay (Yf j (ay (Yf l (ay (aZ ?_)))));show wpAny _ _ (match Ln lo a 1 n with| (lo,a)=>pure (lo,(1:Int),CK lo a 1)) _ _ s;rw [Ry lo a n];show wpAny _ _ (pure (((bG n 0 lo):Int),(1),CK ((bG n 0 lo):Int) ((bG n n a):Int) 1)) _ _ s;rw [Rz];exact aZ h
def RA (a:Array Value) (i k:Nat):((lC k).filterMap λ(m:Nat)=>a[((i:Int)+(m:Int)*1).toNat]?).toArray=((a.toList.drop i).take k).toArray:=by
 have e:(λ(m:Nat)=>a[(i+(m:Int)*1).toNat]?)=λm=>a[i+m]?:=by
  funext m;have:(i+(m:Int)*1).toNat=i+m:=by omega
  rw [this]
 rw [e];have:=pick_run a i k;rw [List.filterMap_map] at this;have e2:((λx=>a[x]?) ∘ λx=>i+x)=λm=>a[i+m]?:=rfl
 rw [e2] at this;rw [this]
def fm {t l:Addr} {a:Array Value} {vl n:Value} {lo d:Option Int} {Q:Vh} (e:IsTup s.heap t a) (o:s.heap.IsSliceOf l vl n .none) (p:IsPart vl lo) (r:IsPart n d)
  (hw: ¬(bG a.size 0 lo=0/\bG a.size a.size d=a.size))
  (h:Q (.ref s.heap.objs.size) {s with heap:=s.heap.push {cls:= .type "tuple",data:= .seq ((a.toList.drop (bG a.size 0 lo)).take (bG a.size a.size d-bG a.size 0 lo)).toArray}})
  (u:a.size<=aP):wpAny (model prog w) A (getItem (.ref t) (.ref l)) Q E s:=by
 have c:sizeOk (.seq ((a.toList.drop (bG a.size 0 lo)).take (bG a.size a.size d-bG a.size 0 lo)).toArray):=by
  show ((a.toList.drop (bG a.size 0 lo)).take (bG a.size a.size d-bG a.size 0 lo)).toArray.size<=aP;rw [cb,sg,CL,rT];omega
 obtain ⟨os,g,i,v⟩:=id o;unfold getItem
 try with_reducible refine iy ?_
 first|refine ay (aZ ?_)|skip
 refine ay (wpAny_sequenceKey e.typeIs (by decide) ?_)
 refine ay (rc e.typeIs si
  (nT si e.typeIs entry_tuple_getitem ?_ (args_tuple_getitem _ _)))
 show wpAny _ _ (Lo (.ref t)>>=_) _ _ s;refine ay (EX e ?_);refine ay (wpAny_typeOf (⟨os,g,i⟩) ?_);refine ay (dc o p r ?_)
 have j: ¬((((bG a.size 0 lo):Int)==0&&(1:Int)==1&&(bG a.size a.size d-bG a.size 0 lo)==a.size)=true):=by
  intro q;rw [dR,dR] at q;have y:=eq_of_beq q.1.1;have z:=eq_of_beq q.2;exact hw ⟨by omega,by omega⟩
 show wpAny _ _ (if (((bG a.size 0 lo):Int)==0&&(1)==1&&(bG a.size a.size d-bG a.size 0 lo)==a.size)=true then _ else _) _ _ s;rw [if_neg j,RA]
 first
  |exact ay (mq (aZ ⟨_,rfl,aZ h⟩) c)
  |exact ay (mq (ay (aZ (aZ ⟨_,rfl,aZ h⟩))) c)
  |exact ay (ay (mq (aZ (aZ ⟨_,rfl,aZ h⟩)) c))
  |exact ay (ay (mq (aZ ⟨_,rfl,aZ h⟩) c))
end
end HT
namespace L2
open PySem PySem.Spec PyProof.Rows
abbrev TO:=St->Hp->(Option Int->Hp->Prop)->Prop
def PO (X:Cx) (e:Option Expr) (t:TO):Prop:=
 ∀(a:List (Addr×Obj)) (s:aM) (c:St) (H:Hp) (Q:Option Int->Hp->Prop),aA X a c H s->t c H Q->
  wpAny (model X.prog X.w) X.A (evalPart e X.env) (λu g=> ∃o d,aA X a c d g/\IsPart u o/\Q o d) X.xe s
def RB:TO:=λ_ H Q=>Q none H
def RC (t:TE):TO:=λa H Q=>t a H λx c=> ∃i,x= .int i/\Q (some i) c
section
variable {X:Cx} {e:Expr} {n:TE} {lo B:Option Expr} {tl j:TO} {g c:Pos}
def RD:PO X none RB:=by
 intro a s d H Q I h;exact aZ ⟨none,H,I,.none,h⟩
def RE (h:PE X e n):PO X (some e) (RC n):=by
 intro a s l H Q I hw;refine bi (h a s l H _ I hw) λu w d=>?_;obtain ⟨x,o,p,r,v⟩:=d
 obtain ⟨i,rfl,q⟩:=v;obtain ⟨t,rfl⟩:=r;exact ⟨some i,o,p,.int i t,q⟩
def pF (X:Cx) (r:V->Option Int->Option Int->Hp->VK->Prop):Prop:=
 ∀(a:List (Addr×Obj)) (s:aM) (d:St) (H:Hp) (x:V) (v vl h:Value) (lo B:Option Int) (i:Addr) (Q:VK),aA X a d H s->aO x v->s.heap.IsSliceOf i vl h .none->IsPart vl lo->IsPart h B->r x lo B H Q->
  ∃T id,typeLookup (.type T) "__getitem__" =pure (some (.builtin id))/\s.TypeIs v T/\wpAny (model X.prog X.w) X.A (getItem v (.ref i)) (EP X a d Q) X.xe s
def pF.or {r d:V->Option Int->Option Int->Hp->VK->Prop} (h:pF X r) (z:pF X d):pF X (λx lo B H Q=>r x lo B H Q\/d x lo B H Q):=by
 intro a s i H x v vl l lo B o Q I p u w y q;rcases q with q|q
 . exact h a s i H x v vl l lo B o Q I p u w y q
 . exact z a s i H x v vl l lo B o Q I p u w y q
def RF (r:V->Option Int->Option Int->Hp->VK->Prop) (n:TE) (tl j:TO):TE:=λa H Q=>n a H λx d=>tl a d λl h=>j a h λu i=>r x l u i Q
def vJ {r:V->Option Int->Option Int->Hp->VK->Prop} (y:pF X r) (z:PE X e n) (E:PO X lo tl) (J:PO X B j):PE X (.Subscript e (.Slice lo B none c) g) (RF r n tl j):=by
 intro a s i H Q I h;refine Subscript_ (bi (z a s i H _ I h) λv L d=>?_);obtain ⟨x,N,O,U,Y⟩:=d;refine wpAny_Slice (bi (E a L i N _ O Y) λvl s2 ⟨l,H2,I2,pl,q2⟩=>bi (J a s2 i H2 _ I2 q2) λp o d=>?_);obtain ⟨u,w,I3,pu,q3⟩:=d;refine aZ ?_;have I4:aA X a i w {o with heap:=o.heap.push {cls:= .type "slice",data:= .fields #[vl,p,.none]}}:=I3.kept λb ob q=>bI _ q
 obtain ⟨T,id,hT,ht,hg⟩:=y a {o with heap:=o.heap.push {cls:= .type "slice",data:= .fields #[vl,p,.none]}} i w x v vl p l u o.heap.objs.size Q I4 U (Heap.IsSliceOf.new ..) pl pu q3;exact tail_any ht hT hg (by with_unfolding_all rfl)
def mI (a:List V) (lo B:Option Int):List V:=(a.drop (HT.bG a.length 0 lo)).take (HT.bG a.length a.length B-HT.bG a.length 0 lo)
def XS (a:List V) (lo B:Option Int):(mI a lo B).length<=a.length:=by
 unfold mI;rw [sg,CL];omega
def AN (K:aC):V->Option Int->Option Int->Hp->VK->Prop:=λx lo B H Q=> ∃a d,x= .ref a/\eQ K H a d/\
 ¬(HT.bG d.length 0 lo=0/\HT.bG d.length d.length B=d.length)/\ ∀p,H p=none->Q (.ref p) (aH H p (.ak (mI d lo B)))
def sj:pF X (AN X.K):=by
 intro o s L H x v vl N lo B O Q I w y z E h;obtain ⟨a,i,rfl,J,hw,q⟩:=h;cases w;obtain ⟨l,r,p,u⟩:=I.tuple J;have d:l.toArray.size=i.length:=by rw [cb];exact r.length.symm
 refine ⟨"tuple",_,si.lookup,p.typeIs,?_⟩;refine HT.fm p y z E (by rw [d];exact hw) ?_ (by rw [d];exact u);rw [d];refine ⟨.ref s.heap.objs.size,_,I.laid (λb ob q=>bI _ q) (bg _) ?_,rfl,q _ (I.aV.fresh (bg _))⟩;exact ⟨dG (XS i lo B) u,_,(r.drop (HT.bG i.length 0 lo)).take (HT.bG i.length i.length B-HT.bG i.length 0 lo),IsTup.new _ _⟩
def EY (K:aC):R2:=λx y H Q=> ∃a b h d,x= .ref a/\y= .ref b/\eQ K H a h/\eQ K H b d/\h≠[]/\h.length+d.length<=aP/\
 (d=[]->Q (.ref a) H)/\(d≠[]-> ∀p,H p=none->Q (.ref p) (aH H p (.ak (h++d))))
def aN.iz {a:List V} {d:List Value} (r:aN a d):d=[]↔a=[]:=by
 cases r with
 |nil=>simp
 |cons _ _=>simp
def RG:ck X (gw .Add) (EY X.K):=by
 intro l s σ H x y v u Q I r E h;obtain ⟨a,b,xs,ys,rfl,rfl,J,L,N,o,O,U⟩:=h;cases r;cases E;obtain ⟨Y,i,p1,_⟩:=I.tuple J;obtain ⟨p,d,c,_⟩:=I.tuple L;refine HT.pE p1 c (λz=>N (i.iz.mp z)) (λz=>⟨.ref a,H,I,rfl,O (d.iz.mp z)⟩) (λz=>?_) (by rw [<-i.length,<-d.length];exact o);refine ⟨.ref s.heap.objs.size,_,I.laid (λb ob q=>bI _ q) (bg _) ?_,rfl,U (λw=>z (d.iz.mpr w)) _ (I.aV.fresh (bg _))⟩;exact ⟨by rw [dr];exact o,_,i.append d,IsTup.new _ _⟩
end
noncomputable def pG (n:Nat) (i:Int):Option Nat:=if 0<=i then (if i<n then some i.toNat else none) else if-(n:Int)<=i then some (i+n).toNat else none
def gQ {a:Type} (c:List a) (i:Int):Option a:=(pG c.length i).bind λj=>c[j]?
def RH {n:Nat} {i:Int} {j:Nat} (h:pG n i=some j):seqIndex? i n=some j/\j<n/\ -(n:Int)<=i/\i<n:=by
 unfold pG at h
 by_cases c:0<=i
 . rw [if_pos c] at h
   by_cases a:i<n
   . rw [if_pos a] at h;have e:=fY h;exact ⟨by rw [seqIndex_of c a,e],by omega,by omega,a⟩
   . rw [if_neg a] at h;cases h
 . rw [if_neg c] at h
   by_cases a: -(n)<=i
   . rw [if_pos a] at h;have e:=fY h;exact ⟨by rw [seqIndex_neg (by omega) a,e],by omega,a,by omega⟩
   . rw [if_neg a] at h;cases h
def kU {c:Type} {a:List c} {i:Int} {v:c} (h:gQ a i=some v): ∃j,seqIndex? i a.length=some j/\a[j]?=some v/\j<a.length/\ -(a.length:Int)<=i/\i<a.length:=by
 unfold gQ at h
 cases e:pG a.length i with
 |none=>rw [e] at h;cases h
 |some j=>
  rw [e] at h;obtain ⟨d,g,l,n⟩:=RH e;exact ⟨j,d,h,g,l,n⟩
def cm {a:Type} {xs:List a} {j:Nat} {v:a} (h:xs[j]?=some v):gQ xs (j:Int)=some v:=by
 have c:j<xs.length:=(ic.mp h).1
 have e:pG xs.length (j:Int)=some j:=by
  unfold pG;rw [if_pos (by omega),if_pos (by omega)];simp
 unfold gQ;rw [e];exact h
def KY (b:Expr):Prop:= ∀o i,subscripted b false o i=operate [o,i] (getItem o i)
def o5 (X:Cx) (r:R2):Prop:=
 ∀(value a:Expr) (c:List (Addr×Obj)) (s:aM) (d:St) (H:Hp) (x y:V) (v u:Value) (Q:VK),aA X c d H s->aO x v->aO y u->r x y H Q->
  subscripted a false v u=operate [v,u] (getItem v u)->wpAny (model X.prog X.w) X.A (subscriptTail value a v u) (EP X c d Q) X.xe s
def pH (X:Cx) (id:String) (r:V->List V->Hp->VK->Prop):Prop:=
 ∀(a:List (Addr×Obj)) (s:aM) (c:St) (H:Hp) (x:V) (d:List V) (v:Value) (e:List Value) (Q:VK),aA X a c H s->aO x v->aN d e->r x d H Q->
  wpAny (model X.prog X.w) X.A (call (.builtin id) (v::e)) (EP X a c Q) X.xe s
section
variable {X:Cx} {a b:Expr} {J L:TE} {N:Pos}
def o5.or {r e:R2} (h:o5 X r) (n:o5 X e):o5 X (λx y H Q=>r x y H Q\/e x y H Q):=by
 intro value c d s g H x y v u Q I i j q l;rcases q with q|q
 . exact h value c d s g H x y v u Q I i j q l
 . exact n value c d s g H x y v u Q I i j q l
def pH.or {id:String} {r e:V->List V->Hp->VK->Prop} (h:pH X id r) (n:pH X id e):pH X id (λx d H Q=>r x d H Q\/e x d H Q):=by
 intro c s g H x d v i Q I j l q;rcases q with q|q
 . exact h c s g H x d v i Q I j l q
 . exact n c s g H x d v i Q I j l q
def EZ {r:R2} (d:o5 X r) (e:PE X a J) (g:PE X b L) (i:KY b):PE X (.Subscript a b N) (wh r J L):=by
 intro c s j H Q I h;exact Subscript_ (rY e g I h λv u l x y n o p w q=>d a b c l j n x y v u Q o p w q (i _ _))
def AO (K:aC):R2:=λx y H Q=> ∃p c i v,x= .ref p/\y= .int i/\cY K H p c/\gQ c i=some v/\Q v H
def AQ (K:aC):R2:=λx y H Q=> ∃p c i v,x= .ref p/\y= .int i/\eQ K H p c/\gQ c i=some v/\Q v H
def AR:R2:=λx y H Q=> ∃z i c,x= .str z/\y= .int i/\z.length<=aP/\gQ z.cps.toList i=some c/\Q (.str ⟨#[c]⟩) H
def pI:o5 X (AO X.K):=by
 intro value g c s Y H x y v u Q I rx ry h E;obtain ⟨p,xs,i,z,rfl,rfl,hq,he,q⟩:=h;cases rx;obtain ⟨t,rfl⟩:=ry;obtain ⟨l,r,n,hz⟩:=I.list hq;obtain ⟨j,e,h2,h3,h4,h5⟩:=kU he;obtain ⟨w,O,o⟩:=r.get h2;have hl:=r.length;have hn:=VM;have d:EP X c Y Q w s:=⟨z,H,I,o,q⟩
 by_cases U:0<=i
 . have B:i.toNat=j:=by
    rw [seqIndex_of U h5] at e;exact fY e
   exact item_listR n.isList U (by omega) (by rw [B];simpa using O) d E
 . have B:(i+(l.toArray.size)).toNat=j:=by
    rw [seqIndex_neg (by omega) h4] at e;rw [cb,<-hl];exact fY e
   exact subscriptTail_builtinR n.isList.typeIs slot_list_getitem.lookup
    (wpAny_getItem_list_neg n.isList (by omega) (by rw [cb]<;>omega) (by omega) (by rw [B];simpa using O) ⟨rfl,d⟩) E
def sk:o5 X (AQ X.K):=by
 intro value d c s n H x y v u Q I o B h E;obtain ⟨p,xs,i,z,rfl,rfl,O,U,q⟩:=h;cases o;obtain ⟨t,rfl⟩:=B;obtain ⟨Y,r,l,hz⟩:=I.tuple O;obtain ⟨j,h1,h2,h3,h4,h5⟩:=kU U;obtain ⟨w,ew,e⟩:=r.get h2;have hl:=r.length;have hn:=VM;have g:EP X c n Q w s:=⟨z,H,I,e,q⟩
 exact subscriptTail_builtinR l.typeIs si.lookup
  (getItem_tuple l (by omega) (by omega) (by rw [cb,<-hl];exact h1) (by simpa using ew) ⟨rfl,g⟩) E
def RI:o5 X AR:=by
 intro value d e s O H x y v u Q I l n h o;obtain ⟨z,i,c,rfl,rfl,U,p,q⟩:=h;obtain ⟨t,rfl⟩:=l;obtain ⟨Y,rfl⟩:=n;obtain ⟨j,g,r,h3,w,B⟩:=kU p;have E:z.cps.toList.length=z.length:=by simp [Str.length]
 rw [E] at g w B;have hn:=VM
 exact tail_any (typeIs_str s z t) slot_str_getitem.lookup (getItem_str (by
  have e1:decide (i< -(2^63))=false:=decide_eq_false (by omega);have e2:decide (i>=2^63)=false:=decide_eq_false (by omega)
  rw [e1,e2,Bool.or_false]) (by rw [g];simpa using r) ⟨.str ⟨#[c]⟩,H,I.tok _,⟨_,rfl⟩,q⟩) o
def Lp (K:aC):R2:=λx y H Q=>AO K x y H Q\/AQ K x y H Q\/AR x y H Q
def Lq:o5 X (Lp X.K):=pI.or (sk.or RI)
def Vf (lo c:Option Int) (n:Nat):(so lo c none n).1=((HT.bG n 0 lo:Nat):Int)/\(so lo c none n).2.1=((HT.bG n n c:Nat):Int)/\(so lo c none n).2.2=1:=by
 refine ⟨?_,?_,rfl⟩
 . cases lo with
   |none=>simp [so,HT.bG]
   |some i=>
    simp only [so,HT.bG,CM,show (1)>0 by decide,if_true]
    by_cases h:i<0
    . simp only [h,if_true]<;>omega
    . simp only [h,if_false]<;>omega
 . cases c with
   |none=>simp [so,HT.bG]
   |some i=>
    simp only [so,HT.bG,CM,show (1)>0 by decide,if_true]
    by_cases h:i<0
    . simp only [h,if_true]<;>omega
    . simp only [h,if_false]<;>omega
def YQ (c:List Value) (lo d:Option Int):slicePick c.toArray lo d none=((c.drop (HT.bG c.length 0 lo)).take (HT.bG c.length c.length d-HT.bG c.length 0 lo)).toArray:=by
 obtain ⟨e,g,h⟩:=Vf lo d c.toArray.size;unfold slicePick;rw [e,g,h];simp only [sliceRange_one,pick_run,cb]<;>rfl
def AS (K:aC):V->Option Int->Option Int->Hp->VK->Prop:=λx lo d H Q=> ∃a c,x= .ref a/\cY K H a c/\ ∀p,H p=none->Q (.ref p) (aH H p (.ai (mI c lo d)))
def mr:pF X (AS X.K):=by
 intro e s y H x v vl z lo g B Q I j l n o h;obtain ⟨a,c,rfl,p,q⟩:=h;cases j;obtain ⟨u,r,i,w⟩:=I.list p;have d:=r.length;refine ⟨"list",_,slot_list_getitem.lookup,i.isList.typeIs,?_⟩;refine wpAny_getItem_list_slice i.isList l n o .none (by simp) ?_ (by rw [cb]<;>omega);rw [YQ,<-d];refine ⟨.ref s.heap.objs.size,_,I.laid (λb ob q=>bI _ q) (bg _) ?_,rfl,q _ (I.aV.fresh (bg _))⟩;exact ⟨dG (XS c lo g) w,_,0,(r.drop (HT.bG c.length 0 lo)).take (HT.bG c.length c.length g-HT.bG c.length 0 lo),c9 _ rfl⟩
def iA:bC X (.builtin "len") (λj H Q=> ∃p d,j=[.ref p]/\(cY X.K H p d\/eQ X.K H p d)/\Q (.int d.length) H):=by
 intro l s v H j w Q I r h;obtain ⟨p,d,rfl,hq,q⟩:=h;obtain ⟨u,rfl,n⟩:=Wx r;cases n;have y:=VM;rcases hq with hq|hq
 . obtain ⟨e,g,i,o⟩:=I.list hq;have c:=g.length;exact Calls.call_len_list i.isList (by simp only [cb]<;>omega) ⟨.int d.length,H,I.tok _,⟨s.toks+1,by rw [cb,c]⟩,q⟩
 . obtain ⟨e,g,i,o⟩:=I.tuple hq;have c:=g.length;exact len_tuple i (by simp only [cb]<;>omega) ⟨.int d.length,H,I.tok _,⟨s.toks+1,by rw [cb,c]⟩,q⟩
def Uq:bC X (.builtin "len") (λc H Q=> ∃z,c=[.str z]/\z.length<=aP/\Q (.int z.length) H):=by
 intro d s e H c g Q I r h;obtain ⟨z,rfl,i,q⟩:=h;obtain ⟨u,rfl,t,rfl⟩:=Wx r;have j:=VM;exact len_str (by omega) ⟨.int z.length,H,I.tok _,⟨_,rfl⟩,q⟩
def bC.or {f:Value} {r e:List V->Hp->VK->Prop} (h:bC X f r) (l:bC X f e):bC X f (λd H Q=>r d H Q\/e d H Q):=by
 intro c s g H d i Q I j q;rcases q with q|q
 . exact h c s g H d i Q I j q
 . exact l c s g H d i Q I j q
def yc:bC X (.type "list") (λxs H Q=> ∃p g,xs=[.ref p]/\(cY X.K H p g\/eQ X.K H p g)/\ ∀l,H l=none->Q (.ref l) (aH H l (.ai g))):=by
 intro v s σ H xs us Q I r h;obtain ⟨p,g,rfl,hq,q⟩:=h;obtain ⟨u,rfl,rx⟩:=Wx r;cases rx
 have w: ∀(c:List Value),aN g c->g.length<=aP-> ∀(d:Heap) i,(∀b o',s.heap.get? b=some o'->d.get? b=some o')->
    d.get? s.heap.objs.size=some {cls:= .type "list",dict:=none,data:= .seq c.toArray i,slots:= #[]}->EP X v σ Q (.ref s.heap.objs.size) {s with heap:=d}:=λc j y d i z e=>
   ⟨.ref s.heap.objs.size,_,I.laid z (bg _) (show a6 X.prog X.w _ d _ (.ai g) from ⟨y,c,i,j,e⟩),rfl,q _ (I.aV.fresh (bg _))⟩
 rcases hq with hq|hq
 . obtain ⟨c,j,E,y⟩:=I.list hq;have B:=j.length;obtain ⟨o,O,U,n,Y⟩:=E.isList;exact call_list_seq p (.inl rfl) O U Y (λd i z e=>w c j y d i z e) (by simp only [cb]<;>omega)
 . obtain ⟨c,j,E,y⟩:=I.tuple hq;have B:=j.length;obtain ⟨o,O,U,n,Y⟩:=E;exact call_list_seq p (.inr rfl) O U Y (λd i z e=>w c j y d i z e) (by simp only [cb]<;>omega)
def yZ:bC X (.type "tuple") (λw H Q=> ∃p g,w=[.ref p]/\((cY X.K H p g/\ ∀l,H l=none->Q (.ref l) (aH H l (.ak g)))\/(eQ X.K H p g/\Q (.ref p) H))):=by
 intro c s y H w us Q I r h;obtain ⟨p,g,rfl,h⟩:=h;obtain ⟨u,rfl,O⟩:=Wx r;cases O;rcases h with ⟨j,q⟩| ⟨j,q⟩
 . obtain ⟨d,n,v,z⟩:=I.list j;have B:=n.length;refine call_tuple_list v.isList (λi U=>?_) (by simp only [cb]<;>omega);have E:aA X c y H {s with heap:=i}:=I.kept (t':=s.toks) U
   have Y:aA X c y (aH H i.objs.size (.ak g)) {s with heap:=i.push {cls:= .type "tuple",data:= .seq d.toArray}}:=
    E.laid (t':=s.toks) (λb o e=>bI _ e) (bg _) (show a6 X.prog X.w _ _ _ (.ak g) from ⟨z,d,n,IsTup.new _ _⟩)
   exact ⟨.ref i.objs.size,_,Y,rfl,q _ (E.aV.fresh (bg _))⟩
 . obtain ⟨d,n,v,z⟩:=I.tuple j;exact call_tuple_same v ⟨.ref p,H,I,rfl,q⟩
def Lr (K:aC) (T:String) (x:V) (H:Hp):Prop:=match x with
 | .str _=>T= "str"
 | .int _=>T= "int"
 | .ref p=>(T= "list" /\ ∃d,cY K H p d)\/(T= "tuple" /\ ∃o,K.lookup p=some o/\o.cls= .type "tuple" /\o.dict=none)\/
  (T= "dict" /\((∃c,H p=some (.dK c))\/ ∃c,H p=some (.dT c)))\/(T= "set" /\ ∃S n,H p=some (.set S n))
 |_=>False
def RJ {h:List (Addr×Obj)} {w:St} {H:Hp} {s:aM} {T:String} {x:V} {v:Value} (I:aA X h w H s) (r:aO x v) (j:Lr X.K T x H):
  s.TypeIs v T/\ ∀a,v= .ref a-> ∃ob,s.heap.get? a=some ob/\ob.dict=none:=by
 cases x with
 |str z=>
  obtain ⟨t,rfl⟩:=r;cases (j);exact ⟨typeIs_str s z t,λ_ e=>nomatch e⟩
 |int i=>
  obtain ⟨t,rfl⟩:=r;cases (j);exact ⟨sq s i t,λ_ e=>nomatch e⟩
 |ref p=>
  cases r;rcases j with ⟨rfl,O,y⟩| ⟨rfl,o,d,B,l⟩| ⟨rfl,d⟩| ⟨rfl,S,n,d⟩
  . obtain ⟨E,_,u,_⟩:=I.list y;refine ⟨u.isList.typeIs,λa e=>?_⟩;cases e;obtain ⟨o,n,e,c,l,_⟩:=u;exact ⟨o,e,l⟩
  . refine ⟨⟨o,I.eD p o d,B⟩,λa e=>?_⟩;cases e;exact ⟨o,I.eD _ o d,l⟩
  . have z: ∃o,s.heap.get? p=some o/\o.ExactDict:=by
     rcases d with ⟨q,d⟩| ⟨q,d⟩
     . obtain ⟨_,_,_,_,o,_,_,e,g,_⟩:=I.aV p _ d;exact ⟨o,e,g⟩
     . obtain ⟨_,_,_,_,o,_,_,e,g,_⟩:=I.aV p _ d;exact ⟨o,e,g⟩
    obtain ⟨o,e,g⟩:=z;refine ⟨⟨o,e,g.1⟩,λa e2=>?_⟩;cases e2;exact ⟨o,e,g.2.1⟩
  . obtain ⟨o,_,_,_,e,g,_⟩:=I.aV p _ d;refine ⟨⟨o,e,g.1⟩,λa e2=>?_⟩;cases e2;exact ⟨o,e,g.2.1⟩
 |_=>exact gO j
def RK (K:aC) (T:String) (r:V->List V->Hp->VK->Prop) (e:TE) (t:TA):TE:=λc H Q=>e c H λx d=>Lr K T x d/\t c d λg h=>r x g h Q
variable {o e:Expr} {O:List Expr} {to:TE} {t:TA} {name:Str} {U Y:Pos} {T id:String} {r:V->List V->Hp->VK->Prop}
def AT (B:PlainAttrs T) (slot:Slot T name id) (n:typeOf (.builtin id)=pure (.type "method_descriptor")) (E:pH X id r) (ho:PE X o to) (ha:PA X (e::O) t)
  (g:nR o name X.env (eval o X.env)=eval o X.env:=by rfl)
  (l:((dL Y (bb (e::O) X.env)).all (λx=>!x.1)&&(lK Y (lL [] X.env)).all (λx=>x.1.isSome)
   &&decide ((e::O).length+([]:List i3).length+(if ([]:List i3).isEmpty then 0 else 1)<30))=true:=by rfl)
  (i:(U.endLine==Y.line)=true:=by rfl) (hs:UO X e O:=by rfl) (d:UN X Y O:=by rfl):
  PE X (.Call (.Attribute o name U) (e::O) [] Y) (RK X.K T r to t):=by
 intro c s p H Q I h;refine wpAny_Call_method_late g l i rfl (bi (ho c s p H _ I h) λv s1 q=>?_);obtain ⟨x,H1,w,y,ty,q1⟩:=q;obtain ⟨h1,h2⟩:=RJ w y ty;refine ⟨T,id,B,slot,n,h1,h2,?_⟩;have z:=ha Y c s1 p H1 _ w q1;rw [hs] at z ⊢;refine Calls.callWith_builtin (by show (false|| (dL Y (bb O X.env)).any (·.1))=false;rw [d]<;>rfl) (E1 ?_);exact bi z λus s2 ⟨vs,H2,I2,r2,q2⟩=>E c s2 p H2 x vs v us Q I2 y r2 q2
/-xs.append(e),list.index on a j tuple .. are pH u of 06m-/
end
def E2 (X:Cx) (id:String) (r:V->List V->Hp->VK->Prop):Prop:=
 ∀(a:List (Addr×Obj)) (s:aM) (c:St) (H:Hp) (x:V) (d:List V) (v:Value) (e:List Value) (Q:VK),aA X a c H s->aO x v->aN d e->r x d H Q->
  wpAny (model X.prog X.w) X.A (call (.builtin id) (v::e)) (EP X a c Q) X.xe s
theorem aN.one: ∀ {x:V} {a:List Value},aN [x] a-> ∃u,a=[u]/\aO x u
 |_,_,.cons r .nil=>⟨_,rfl,r⟩
theorem aN.rep {a:List V} {c:List Value} (h:aN a c): ∀k:Nat,aN (dq k a).flatten (dq k c).flatten
 |0=> .nil
 |k+1=>by
  rw [sr,sr,wU,wU];exact aN.append h (aN.rep h k)
theorem XG (a:List Value): ∀(k:Nat) (c:List Value),
  w4 (λd g=>d++g) c.toArray (dq k a.toArray)=(c++(dq k a).flatten).toArray
 |0,c=>by simp
 |k+1,c=>by
  have e:c.toArray++a.toArray=(c++a).toArray:=by simp
  have e2:(c++a)++(dq k a).flatten=c++(dq (k+1) a).flatten:=by
   rw [sr,wU,i9]
  rw [<-e2,<-XG a k (c++a),<-e,sr,List.foldl_cons]
section
variable {X:Cx} {p:List (Addr×Obj)} {σ:St} {H:Hp} {s:aM} {l b:Addr} {xs ys zs:List V}
def aA.ss {c a:List Value} {n:Nat} {f:Array Value->Array Value} {d:Nat} (I:aA X p σ H s) (g:H l=some (.ai xs))
  (e:s.heap.get? l=some {cls:= .type "list",data:= .seq c.toArray n}) (h:f c.toArray=a.toArray) (i:aN ys a) (hz:ys.length<=aP):
  aA X p σ (aH H l (.ai ys)) {s with heap:=s.heap.update l (re f),toks:=d}:=by
 have q:=PySem.IsL.update e f;rw [h] at q;refine I.write (by rw [g];exact trivial) (.inl rfl) (λr u j o=>(nU s.heap (re f) (gm j)).trans o) ⟨_,q⟩ ?_;exact ⟨hz,a,_,i,q⟩
def aA.pJ {a:List Value} {t':Nat} (I:aA X p σ H s) (c:aN ys a) (hz:ys.length<=aP):
  aA X p σ (aH H s.heap.objs.size (.ai ys)) {s with heap:=s.heap.push {cls:= .type "list",data:= .seq a.toArray},toks:=t'}:=
 I.laid (λ_ _ q=>bI _ q) (bg _) ⟨hz,a,0,c,c9 _ rfl⟩
def aA.fresh (I:aA X p σ H s):H s.heap.objs.size=none:=I.aV.fresh (bg _)
def aA.lN (I:aA X p σ H s) (c:H l=some (.ai xs)):xs.length<=aP/\ ∃(a:List Value) (n:Nat),aN xs a/\xs.length=a.length/\s.heap.get? l=some {cls:= .type "list",data:= .seq a.toArray n}:=by
 obtain ⟨z,a,n,r,e⟩:=I.aV l _ c;exact ⟨z,a,n,r,r.length,e⟩
def Ke {n:Nat} (h:n<=aP):AU n=false:=by
 exact decide_eq_false (by omega)
end
section
variable {X:Cx}
def RL:V->List V->Hp->VK->Prop:=λx c H Q=> ∃l a y,x= .ref l/\c=[y]/\H l=some (.ai a)/\a.length<aP/\Q .aU (aH H l (.ai (a++[y])))
def Xk:E2 X "list.append" RL:=by
 intro c s o H x p v w Q I g i h;obtain ⟨l,B,y,rfl,rfl,d,E,q⟩:=h;cases g;obtain ⟨u,rfl,j⟩:=i.one;obtain ⟨z,a,n,r,J,e⟩:=I.lN d;refine pK E3 ⟨_,e,rfl⟩ F.entry_list_append (F.args_list_append_2 _ _) (PySem.list_append l a.toArray n u (by rw [cb];omega)) ⟨e,?_⟩;refine ⟨.aU,_,I.ss d e (by simp) (r.append (.cons j .nil)) ?_,rfl,q⟩;rw [dr,List.length_singleton];omega
def RM:V->List V->Hp->VK->Prop:=λx d H Q=> ∃l b a c,x= .ref l/\d=[.ref b]/\H l=some (.ai a)/\H b=some (.ai c)/\a.length+c.length<=aP/\Q .aU (aH H l (.ai (a++c)))
def RN:E2 X "list.extend" RM:=by
 intro i s L H x N v O Q I o p h;obtain ⟨l,b,U,Y,rfl,rfl,j,w,hz,q⟩:=h;cases o;obtain ⟨u,rfl,y⟩:=p.one;cases y;obtain ⟨z,c,n,r,hl,e⟩:=I.lN j;obtain ⟨z2,a,B,E,J,e2⟩:=I.lN w;have g:c.toArray.size+a.toArray.size<=aP:=by rw [cb,cb];omega
 have d: ¬(!c.toArray.isEmpty&&AU (c.toArray.size+a.toArray.size))=true:=by
  rw [Ke g,Bool.and_false];exact gd
 refine pK E4 ⟨_,e,rfl⟩ F.entry_list_extend (F.args_list_extend_2 _ _)
  (AutoSeq1.list_extend_list_list_0 l c.toArray n b a.toArray B d (by rw [cb];omega) (by omega)) ⟨e,e2,?_⟩
 refine ⟨.aU,_,I.ss j e (by simp) (r.append E) ?_,rfl,q⟩;rw [dr];omega
def su:R2:=λx y H Q=> ∃l b a c,x= .ref l/\y= .ref b/\H l=some (.ai a)/\H b=some (.ai c)/\a.length+c.length<=aP/\ ∀p,H p=none->Q (.ref p) (aH H p (.ai (a++c)))
def sv:ck X (gw .Add) su:=by
 intro d s E H x y v u Q I g i h;obtain ⟨l,b,J,L,rfl,rfl,j,o,N,q⟩:=h;cases g;cases i;obtain ⟨z,c,n,r,O,e⟩:=I.lN j;obtain ⟨U,a,Y,p,w,e2⟩:=I.lN o;refine PySem.P.add_list e e2 ?_ (by rw [cb,cb];omega);have B:c.toArray++a.toArray=(c++a).toArray:=by simp
 rw [B];exact ⟨.ref _,_,I.pJ (r.append p) (by rw [dr];omega),rfl,q _ I.fresh⟩
def AV:R2:=λx y H Q=> ∃l k a,x= .ref l/\y= .int k/\H l=some (.ai a)/\ -(2^63)<=k/\k<2^63/\a.length*k.toNat<=aP/\
 ∀p,H p=none->Q (.ref p) (aH H p (.ai (dq k.toNat a).flatten))
def kB {c:Type} (a:List c) (k:Nat):(dq k a).flatten.length=k*a.length:=by
 induction k with
 |zero=>simp
 |succ k d=>rw [sr,wU,dr,d,Nat.succ_mul,Nat.add_comm]
def RO:ck X (gw .Mult) AV:=by
 intro B s σ H x y v u Q I J L h;obtain ⟨l,k,xs,rfl,rfl,N,O,Y,E,q⟩:=h;cases J;obtain ⟨t,rfl⟩:=L;obtain ⟨z,c,n,r,hl,e⟩:=I.lN N;have g:c.toArray.size*k.toNat<=aP:=by rw [cb,<-hl];exact E
 have i: ¬c.toArray.size*k.toNat>(2^63-1)/8:=by
  have:(aP:Nat)<=(2^63-1)/8:=by decide
  omega
 have j: ¬(!Builtin.List.listFitsIndex k)=true:=by
  rw [fitsIndex_both O Y];exact gd
 have d: ¬AU (c.toArray.size*k.toNat)=true:=by
  rw [Ke g];exact gd
 have o:w4 (λp w=>p++w) #[] (dq (if c.toArray.isEmpty=true then 0 else k.toNat) c.toArray)=(dq k.toNat c).flatten.toArray:=by
  have f0: ∀m:Nat,w4 (λp w=>p++w) #[] (dq m c.toArray)=(dq m c).flatten.toArray:=λm=>by
   have:=XG c m [];rw [AW] at this;exact this
  rw [f0]
  cases c with
  |nil=>simp
  |cons a r'=>rw [if_neg (by simp)]
 refine E5 (T:= "list") (U:= "int") (by decide) ⟨_,e,rfl⟩ (λs'=>sq s' k t) noFill_list_mul F.fills_int_mul xi repeat_list F.slot_int_index.lookup
  (pK xi (sq s k t) F.entry_int_rmul (F.args_int_rmul_2 _ _) (int___rmul___int_list k t l c.toArray n)
   ⟨e,rfl,⟨_,e,rfl⟩,pK F.slot_list_mul ⟨_,e,rfl⟩ F.entry_list_mul (F.args_list_mul_2 _ _) (AutoListH.list___mul___list_int_3 l c.toArray n k t j i d) ⟨e,?_⟩⟩)
 rw [o];exact ⟨.ref _,_,I.pJ (t':=s.toks) (r.rep k.toNat) (by rw [kB,Nat.mul_comm];exact E),rfl,q _ I.fresh⟩
end
section
variable {Q:Type} [DecidableEq Q]
noncomputable def cf (a:List (Q×V)) (k:Q):Option V:=(a.find? λc=>decide (c.1=k)).map (·.2)
noncomputable def putK (a:List (Q×V)) (k:Q) (v:V):List (Q×V):=
 if (a.any λc=>decide (c.1=k))=true then a.map (λc=>if c.1=k then (c.1,v) else c) else a++[(k,v)]
def YK {p:Q×V} {r:List (Q×V)} {k:Q} (e:p.1=k):cf (p::r) k=some p.2:=by simp [cf,xn,e]
def YL {p:Q×V} {r:List (Q×V)} {k:Q} (e: ¬p.1=k):cf (p::r) k=cf r k:=by simp [cf,xn,e]
theorem vi (k:Q): ∀a:List (Q×V),(a.any λc=>decide (c.1=k))=(cf a k).isSome
 | []=>rfl
 |p::r=>by
  rw [xo]
  by_cases e:p.1=k
  . simp only [YK e,decide_eq_true e,Bool.true_or,Option.isSome_some]
  . rw [YL e,decide_eq_false e,Bool.false_or];exact vi k r
def Qx (a:List (Q×V)) (k:Q) (v:V):(putK a k v).length<=a.length+1:=by
 unfold putK
 split
 . rw [dQ];omega
 . rw [dr,bN,eM];omega
def dB.mJ {o:Option V} {u:Option Value} (r:dB o u):o.isSome=u.isSome:=by
 cases o with
 |none=>cases u with
  |none=>rfl
  |some _=>exact (r).elim
 |some _=>cases u with
  |none=>exact (r).elim
  |some _=>rfl
def dB.getD {o:Option V} {u:Option Value} {d:V} {a:Value} (r:dB o u) (c:aO d a):aO (o.getD d) (u.getD a):=by
 cases o with
 |none=>cases u with
  |none=>exact c
  |some _=>exact (show False from r).elim
 |some _=>cases u with
  |none=>exact (show False from r).elim
  |some _=>exact r
def KV.val {a:List (Q×V)} {g:List (Q×Value)} (r:KV a g) (k:Q):dB (cf a k) (valueAt g k):=by
 induction r with
 |nil=>exact ny
 | @cons p q j c h t i=>
  obtain ⟨h1,h2⟩:=h
  by_cases e:p.1=k
  . have d:=h1.symm.trans e;have b:valueAt (q::c) k=some q.2:=by simp [valueAt,xn,d]
    rw [YK e,b];exact h2
  . have d: ¬q.1=k:=λz=>e (h1.trans z)
    have b:valueAt (q::c) k=valueAt c k:=by simp [valueAt,xn,d]
    rw [YL e,b];exact i
def KV.any {a:List (Q×V)} {d:List (Q×Value)} (r:KV a d) (k:Q):(a.any λc=>decide (c.1=k))=d.any λc=>decide (c.1=k):=by
 induction r with
 |nil=>rfl
 |cons h t e=>rw [xo,xo,e,h.1]
def KV.sw {c:List (Q×V)} {d:List (Q×Value)} (r:KV c d) (k:Q) {y:V} {u:Value} (g:aO y u):
  KV (c.map λa=>if a.1=k then (a.1,y) else a) (d.map λa=>if a.1=k then (a.1,u) else a):=by
 induction r with
 |nil=>exact .nil
 | @cons p q j l h t i=>
  rw [fh,fh];refine .cons ?_ i;obtain ⟨h1,h2⟩:=h
  by_cases e:p.1=k
  . rw [if_pos e,if_pos (h1.symm.trans e)];exact ⟨h1,g⟩
  . rw [if_neg e,if_neg (λz=>e (h1.trans z))];exact ⟨h1,h2⟩
def KV.put {a:List (Q×V)} {c:List (Q×Value)} (r:KV a c) (k:Q) {y:V} {u:Value} (d:aO y u):KV (putK a k y) (stored c k u):=by
 unfold putK stored;rw [r.any k]
 by_cases e:(c.any λg=>decide (g.1=k))=true
 . rw [if_pos e,if_pos e];exact r.sw k d
 . rw [if_neg e,if_neg e];exact Paired.snoc r ⟨rfl,d⟩
def KV.keys {a:List (Q×V)} {c:List (Q×Value)} (r:KV a c):a.map (·.1)=c.map (·.1):=by
 induction r with
 |nil=>rfl
 |cons h t d=>rw [fh,fh,d,h.1]
def KV.length {cG:List (Q×V)} {vs:List (Q×Value)} (r:KV cG vs):cG.length=vs.length:=Cu r
end
def AX {P:bB} {w:World} {k:aR} {u:Value} (r:aO (kV k) u):(qE P w).is k u=true:=by
 cases k with
 |inl i=>obtain ⟨t,e⟩:=(r);subst e;exact kq P w i t
 |inr x=>obtain ⟨t,e⟩:=(r);subst e;exact ko P w x t
theorem VO {P:bB} {w:World}: ∀ {ks:List aR} {us:List Value},aN (ks.map kV) us->ItemsAre (qE P w) ks us
 | [],_,r=>by rw [List.map_nil] at r;cases r;exact .nil
 |k::ks,_,r=>by
  cases r with
  |cons h t=>exact .cons (AX h) (VO t)
abbrev KT (H:Hp):List (List aR×V)->List (List aR×Addr×Value)->Prop:=mz λp q=>p.1=q.1/\H q.2.1=some (.ak (p.1.map kV))/\aO p.2 q.2.2
def KT.val {H:Hp} {a:List (List aR×V)} {g:List (List aR×Addr×Value)} (r:KT H a g) (k:List aR):dB (cf a k) ((atKey g k).map (·.2)):=by
 induction r with
 |nil=>exact ny
 | @cons p q j c h t i=>
  obtain ⟨h1,_,h2⟩:=h
  by_cases e:p.1=k
  . have d:=h1.symm.trans e;have b:atKey (q::c) k=some q.2:=by simp [atKey,xn,d]
    rw [YK e,b];exact h2
  . have d: ¬q.1=k:=λz=>e (h1.trans z)
    have b:atKey (q::c) k=atKey c k:=by simp [atKey,xn,d]
    rw [YL e,b];exact i
def KT.sw {H:Hp} {a:List (List aR×V)} {d:List (List aR×Addr×Value)} (r:KT H a d) (k:List aR) {y:V} {u:Value} (g:aO y u):
  KT H (a.map λc=>if c.1=k then (c.1,y) else c) (d.map (putAt k u)):=by
 induction r with
 |nil=>exact .nil
 | @cons p q l n h t i=>
  rw [fh,fh];refine .cons ?_ i;obtain ⟨h1,h2,j⟩:=h;unfold putAt
  by_cases e:p.1=k
  . rw [if_pos e,if_pos (h1.symm.trans e)];exact ⟨h1,h2,g⟩
  . rw [if_neg e,if_neg (λz=>e (h1.trans z))];exact ⟨h1,h2,j⟩
def KT.put {H:Hp} {a:List (List aR×V)} {c:List (List aR×Addr×Value)} (r:KT H a c) (k:List aR) {b:Addr} {y:V} {u:Value} (g:H b=some (.ak (k.map kV))) (d:aO y u):
   KT H (putK a k y) (storedH c k b u):=by
 have e:(a.any λh=>decide (h.1=k))=(atKey c k).isSome:=by
   rw [vi,(r.val k).mJ,Option.isSome_map]
 unfold putK storedH;rw [e]
 by_cases q:(atKey c k).isSome=true
 . rw [if_pos q,if_pos q];exact r.sw k d
 . rw [if_neg q,if_neg q];exact Paired.snoc r ⟨rfl,g,d⟩
def KT.keeps {H c:Hp} {a:List (List aR×V)} {d:List (List aR×Addr×Value)} (r:KT H a d) (g: ∀b e,H b=some (.ak e)->c b=some (.ak e)):KT c a d:=
 mz.rQ r λ_ _ z=>⟨z.1,g _ _ z.2.1,z.2.2⟩
section
variable {P:bB} {w:World} {H:Hp} {h:Heap} {a:Addr}
def Ls {u:HO} (ok:dD P w H h) (e:Rd H a u):a6 P w H h a u:=e.ok ok
def CN {c:List (aR×V)} (ok:dD P w H h) (e:Rd H a (.dK c)):c.length<=aP/\(a==mB)=false/\ ∃d,KV c d/\h.DictOf (qE P w) a d:=
 show a6 P w H h a (.dK c) from Ls ok e
def E6 {c:List (aR×V)} (ok:dD P w H h) (e:H a=some (.dK c)):c.length<=aP/\(a==mB)=false/\ ∃d,KV c d/\h.DictOf (qE P w) a d:=CN ok (.inl e)
def vZ {d:List aR} (ok:dD P w H h) (e:H a=some (.ak (d.map kV))):(tupleKind (qE P w)).is h d a:=by
 obtain ⟨_,c,r,o,g,i,n,j⟩:=(ok a _ e)
 exact ⟨o,c.toArray,n,g,i,j,by simpa using VO r⟩
def CO {c:List (List aR×V)} (ok:dD P w H h) (e:Rd H a (.dT c)):c.length<=aP/\(a==mB)=false/\
  ∃d,KT H c d/\h.DictOfH (tupleKind (qE P w)) a d:=by
 obtain ⟨z,y,d,r,o,i,j,n,u,v,B,E⟩:=(Ls ok e)
 refine ⟨z,y,d,r,o,i,j,n,u,v,B,λx hx=>?_,E⟩
 have all: ∀ {l:List (List aR×V)} {m:List (List aR×Addr×Value)},KT H l m-> ∀x∈m,(tupleKind (qE P w)).is h x.1 x.2.1:=by
  intro l m q
  induction q with
  |nil=>intro x hx;exact nomatch hx
  | @cons p q J L g t I=>
   intro x hx;rcases bA.mp hx with e|hx
   . subst e;exact vZ ok (by rw [<-g.1];exact g.2.1)
   . exact I x hx
 exact all r x hx
def RP {c:List (List aR×V)} (ok:dD P w H h) (e:H a=some (.dT c)):c.length<=aP/\(a==mB)=false/\
 ∃d,KT H c d/\h.DictOfH (tupleKind (qE P w)) a d:=CO ok (.inl e)
end
def lP (H:Hp) (a:Addr) (y:V) (r:Option V):Prop:=
 (∃c k,Rd H a (.dK c)/\y=kV k/\r=cf c k)\/ ∃c k b,Rd H a (.dT c)/\y= .ref b/\H b=some (.ak (k.map kV))/\r=cf c k
def jK (H:Hp) (a:Addr) (y v:V) (d:Hp):Prop:=
 (∃c k,H a=some (.dK c)/\y=kV k/\c.length<aP/\d=aH H a (.dK (putK c k v)))\/
 ∃c k b,H a=some (.dT c)/\y= .ref b/\H b=some (.ak (k.map kV))/\c.length<aP/\d=aH H a (.dT (putK c k v))
def lP.k {H:Hp} {a:Addr} {c:List (aR×V)} {k:aR} (e:H a=some (.dK c)):lP H a (kV k) (cf c k):= .inl ⟨c,k,.inl e,rfl,rfl⟩
def jK.k {H:Hp} {a:Addr} {c:List (aR×V)} {k:aR} {v:V} (e:H a=some (.dK c)) (hl:c.length<aP):jK H a (kV k) v (aH H a (.dK (putK c k v))):= .inl ⟨c,k,e,rfl,hl,rfl⟩
def jK.t {H:Hp} {a b:Addr} {c:List (List aR×V)} {k:List aR} {v:V} (e:H a=some (.dT c)) (d:H b=some (.ak (k.map kV))) (hl:c.length<aP):
 jK H a (.ref b) v (aH H a (.dT (putK c k v))):= .inr ⟨c,k,b,e,rfl,d,hl,rfl⟩
section
variable {X:Cx} {pins:List (Addr×Obj)} {σ:St} {H:Hp} {s:aM} {a:Addr} {y v:V} {u r:Value} {o:Option V} {A:bH} {E:Vh}
def aA.big (I:aA X pins σ H s):mB<s.heap.objs.size:=by
 exact Nat.lt_trans (by decide) ((I.mod.glob.keeps I.bk).lt)
def RQ {Q:Vh} (J:A.units+1<cLine) (I:aA X pins σ H s) (g:lP H a y (some v)) (w:aO y u) (h: ∀i B,aA X pins σ H B->aO v i->Q i B):
   wpAny (model X.prog X.w) A (getItem (.ref a) u) Q E s:=by
 rcases g with ⟨j,k,e,n,l⟩| ⟨j,k,b,e,n,L,l⟩
 . subst n;obtain ⟨z,N,U,c,dd⟩:=CN I.aV e;obtain ⟨i,hw,d⟩:=dB.some_of (by rw [l];exact c.val k);exact wpAny_getItem_of (AX w) dd.mapOf hw (h i _ (I.tok _) d)
 . subst n;cases (w);obtain ⟨z,N,Y,c,dd⟩:=CO I.aV e;obtain ⟨i,hw,d⟩:=dB.some_of (by rw [l];exact c.val k);obtain ⟨p,O,q⟩:=E7.mp hw;refine wpAny_getItem_heap (tupleKind_room_in1 J) (vZ I.aV L) dd O ?_;rw [q];exact h i _ (I.tok _) d
def kN {c:Heap} {d:Nat} {ob:HO} (I:aA X pins σ H s) (e:nv (H a)) (g:ph a s.heap c) (h: ∃q,c.get? a=some q) (new:a6 X.prog X.w (aH H a ob) c a ob):
  aA X pins σ (aH H a ob) {s with heap:=c,toks:=d}:=
 I.write e (.inl rfl) (λb q i z=>(g.2 b i).trans z) h new
def Lu {P:bB} {w:World} {h:Hp} {g:Heap} {c:List (aR×V)} {d:List (aR×Value)} (z:c.length<=aP) (i:(a==mB)=false) (e:KV c d) (dd:g.DictOf (qE P w) a d):
 a6 P w h g a (.dK c):=⟨z,i,d,e,dd⟩
def RR {N:Hp} {Q:Unit->aM->Prop} (hu:A.units+1<cLine) (I:aA X pins σ H s) (g:jK H a y v N) (O:aO y u) (U:aO v r) (h: ∀Y,aA X pins σ N Y->Q () Y):
   wpAny (model X.prog X.w) A (setItem (.ref a) u r) Q E s:=by
 rcases g with ⟨d,k,e,p,l,w⟩| ⟨d,k,b,e,p,eb,l,w⟩
 . subst p w;obtain ⟨z,B,vs,i,dd⟩:=E6 I.aV e;have hz:vs.length<=aP:=by rw [<-i.length];exact z
   have J:(putK d k v).length<=aP:=by have:=Qx d k v;omega
   refine wpAny_setItem_pairs (AX O) dd λh' j L=>h _ ?_
   have he: ∃q,h'.get? a=some q:=let ⟨q,_,_,n,_⟩:=j;⟨q,n⟩
   exact kN I (by rw [e];exact ny) L he (Lu J B (i.put k U) j)
 . subst p w;cases (O);obtain ⟨z,B,xs,i,dd⟩:=RP I.aV e;have hz:xs.length<=aP:=by rw [<-Cu i];exact z
   have J:(putK d k v).length<=aP:=by have:=Qx d k v;omega
   refine wpAny_setItem_heap (tupleKind_room_in1 hu) (vZ I.aV eb) dd λh' j L=>h _ ?_
   obtain ⟨q,es,ep,n,h2,h3,h4,_,h5⟩:=j;refine kN I (by rw [e];exact ny) L ⟨q,n⟩ ⟨J,B,_,(i.put k eb U).keeps λc ys ec=>?_,q,es,ep,n,h2,h3,h4,h5⟩;rw [jF (Pn ec e (λz=>nomatch z))];exact ec
end
def kL {X:Cx} {c:List (Addr×Obj)} {h:St} {H:Hp} {s:aM} {a:Addr} {y:V} {o:Option V} (I:aA X c h H s) (g:lP H a y o):s.TypeIs (.ref a) "dict" :=by
 rcases g with ⟨d,k,e,_,_⟩| ⟨d,k,b,e,_,_,_⟩
 . obtain ⟨_,_,i,_,dd⟩:=CN I.aV e;exact dd.typeIs
 . obtain ⟨_,_,j,_,dd⟩:=CO I.aV e;exact dd.typeIs
def RS (e g h:TE):TS:=λD c H=>h c H λv i=>e c i λx j=>g c j λy l=> ∃a d,x= .ref a/\jK l a y v d/\D.nx c d
section
variable {X:Cx} {o i e value:Expr} {pos q gX:Pos} {td ty tv:TE}
def Lw (l:X.A.units+1<cLine) (n:PE X o td) (p:PE X i ty) (w:PE X value tv) (z:ix value (some (.Subscript o i q)) pos.line X.env=pure false):
  PS X (.Assign [.Subscript o i q] value pos) (RS td ty tv):=by
 intro c s d H D I h;refine wpAny_Assign_Subscript (bi (w c s d H _ I h) λr B ⟨v,E,J,L,N⟩=>bi (n c B d E _ J N) λu O ⟨x,Q,U,Y,q2⟩=>bi (p c O d Q _ U q2) λiv s3 j=>?_) z;obtain ⟨y,H3,I3,ry,a,H4,ex,g,q3⟩:=j;subst ex;obtain rfl:u=cX a:=Y;exact RR l I3 g ry L λs4 I4=>⟨d,H4,I4,q3⟩
end
def RT {P:bB} {w:World} {H:Hp} (h:Heap) (a:mB<h.objs.size):a6 P w H (h.push {cls:= .type "dict",data:= .dict #[]}) h.objs.size (.dK []):=
 ⟨i8 _,beq_eq_false_iff_ne.mpr (gm (dJ a)),[],.nil,Heap.DictOf.new h⟩
def RU {P:bB} {w:World} {H:Hp} (h:Heap) (a:mB<h.objs.size):a6 P w H (h.push {cls:= .type "dict",data:= .dict #[]}) h.objs.size (.dT []):=
 ⟨i8 _,beq_eq_false_iff_ne.mpr (gm (dJ a)),[],.nil,_, #[],0,c9 _ rfl,⟨rfl,rfl,rfl⟩,rfl,rfl,AY⟩
def RV:TE:=λ_ H Q=> ∀p,H p=none->Q (.ref p) (aH H p (.dK []))
def RW:TE:=λ_ H Q=> ∀p,H p=none->Q (.ref p) (aH H p (.dT []))
section
variable {X:Cx} {z:Pos}
def RX:PE X (.Dict [] [] z) RV:=λa s c H Q I h=>
 wpAny_Dict_empty ⟨.ref s.heap.objs.size,_,I.laid (λ_ _ q=>bI _ q) (bg _) (RT s.heap I.big),rfl,h _ (I.aV.fresh (bg _))⟩
def RY:PE X (.Dict [] [] z) RW:=λa s c H Q I h=>
 wpAny_Dict_empty ⟨.ref s.heap.objs.size,_,I.laid (λ_ _ q=>bI _ q) (bg _) (RU s.heap I.big),rfl,h _ (I.aV.fresh (bg _))⟩
end
structure M1 (X:Cx) (o:Expr) (m:Str) (apos:Pos) (e:Expr) (bY:Pos):Prop where
 af:nR o m X.env (eval o X.env)=eval o X.env
 E8:((dL bY (bb [e] X.env)).all (λx=>!x.1)&&(lK bY (lL [] X.env)).all (λx=>x.1.isSome)
  &&decide (([e]:List Expr).length+([]:List i3).length+(if ([]:List i3).isEmpty then 0 else 1)<30))=true
 line:(apos.endLine==bY.line)=true
 trees:dL bY (bb [e] X.env)=[(false,eval e X.env)]
structure M2 (X:Cx) (o:Expr) (m:Str) (apos:Pos) (e f:Expr) (bY:Pos):Prop where
 af:nR o m X.env (eval o X.env)=eval o X.env
 E8:((dL bY (bb [e,f] X.env)).all (λx=>!x.1)&&(lK bY (lL [] X.env)).all (λx=>x.1.isSome)
  &&decide (([e,f]:List Expr).length+([]:List i3).length+(if ([]:List i3).isEmpty then 0 else 1)<30))=true
 line:(apos.endLine==bY.line)=true
 trees:dL bY (bb [e,f] X.env)=[(false,eval e X.env),(false,eval f X.env)]
section
variable {X:Cx} {pins:List (Addr×Obj)} {σ:St} {H:Hp} {s:aM} {a:Addr} {y d:V} {u r:Value} {o:Option V} {A:bH} {E:Vh}
def RZ {Q:Vh} (B:A.units+1<cLine) (I:aA X pins σ H s) (g:lP H a y o) (p:aO y u) (q:aO d r) (h: ∀v w,aA X pins σ H w->aO (o.getD d) v->Q v w):
   wpAny (model X.prog X.w) A (call (.builtin "dict.get") [.ref a,u,r]) Q E s:=by
 rcases g with ⟨i,k,e,j,l⟩| ⟨i,k,b,e,j,J,l⟩
 . subst j;obtain ⟨z,n,N,c,dd⟩:=CN I.aV e;refine call_meetsIn E9 dd.typeIs PySem.F.entry_dict_get (PySem.F.args_dict_get_3 _ _ _) (meets_dict_get_default (qE X.prog X.w) a (AX p) n r) ⟨_,dd.mapOf,h _ _ (I.tok _) ?_⟩;rw [l];exact (c.val k).getD q
 . subst j;cases (show u=cX b from p);obtain ⟨z,n,L,c,dd⟩:=CO I.aV e;refine call_meetsIn E9 dd.typeIs PySem.F.entry_dict_get (PySem.F.args_dict_get_3 _ _ _) (meetsH_dict_get_default (tupleKind (qE X.prog X.w)) a b n r) ⟨tupleKind_room_in1 B,k,L,vZ I.aV J,dd,h _ _ (I.tok _) ?_⟩;rw [l];exact (c.val k).getD q
end
end L2
namespace Att
open PySem PySem.W PySem.Calls PyProof.Rows
def Xt {P:Params} {h:Heap}: ∀(c:List Int) (d:List Value),WellAll P h d (c.map WData.int)->IntsAre d c:=by
 intro c
 induction c with
 |nil=>
  intro d w;cases w;exact .nil
 |cons n c e=>
  intro d w
  cases w with
  |cons a b=>
   cases a;exact .cons _ _ (e _ b)
def R0 {l:AZ} {n:Nat} (y:l.most=some n) {P:Params} {h:Heap} {args:List WData} {c:List Value}
  (e:l.row.toRowW.claim.pre args=true) (p:WellAll P h c args):
  ∃a w g,c=[cX a]/\args=[WData.list (g.map WData.int)]/\h.get? a=some {cls:= .type "list",data:= .seq w.toArray}/\IntsAre w g/\g.length<=n:=by
 have u:=(pre_splitW e).1;have z:l.pre.holds [] {args:=args}=true:=(pre_splitW e).2;obtain ⟨d,r,rfl,B,E⟩:=hasAllW_cons u;obtain rfl:=hasAllW_nil E;obtain ⟨N,rfl,H⟩:=hasW_list B;obtain ⟨g,rfl⟩:=items_int H
 have i:g.length<=n:=by
  have o:(WTm.not (.lt (.lit (.int n)) (.len (.arg 0)))).holds [] {args:=[.list (g.map .int)]}=true:=by
   have o:=(holds_andW z).1;rw [y] at o;exact o
  have v:=condW_of o (w_not (w_lt w_lit (w_len_list (w_arg rfl))));refine Nat.le_of_not_lt λq=>?_
  first
   | (rw [decide_eq_true O] at v;exact absurd v (by decide))
   | (simp at v;omega)
 cases p with
 |cons I J=>
  cases J
  cases I with
  |list L j=>exact ⟨_,_,g,rfl,rfl,L,Xt g _ j,i⟩
def R1 (l:AZ) (args:List WData):l.row.toRowW.claim.post args (.bool true) args=true:=
 postW_of
  (by first|rfl|decide|simp [WShape.has,WShape.arms,WShape.armsAll])
  (w_eq_bool (w_res rfl) w_lit) rfl
end Att
namespace L2
open PySem PySem.Spec PyProof.Rows
theorem K7: ∀ {a:List Value} {c:List Int},IntsAre a c->aN (c.map V.int) a
 |_,_,.nil=> .nil
 |_,_,.cons n t h=> .cons ⟨t,rfl⟩ (K7 h)
def sx (H:Hp):Prop:= ∀b,H b=none\/ ∃o a,H b=some (.bE o (.ai a))
def R3 {P:bB} {w:World} {K:aC} {mg mb:Vj} {CX:nA} {k:Nat} {fa a:Addr} {fd:mH} {x:Str} {sp:Sp} {c:aM} {E:List Value} {I:List Int}
  (KX:K.In c.heap) (J:c.heap.Ns cc mg) (i:c.heap.Ns builtinsNs mb) (Fa: ∀x:Str,x≠ "__name__" ->mb x=lD x) (L:c.heap.NoLimit) (hg:c.gens= #[])
  (ha:c.heap.get? a=some {cls:= .type "list",data:= .seq E.toArray}) (hi:IntsAre E I) (hl:I.length<=aP) (hr:aI k callerA)
  (F: ∀j:Heap,K.In j->j.Ns cc mg->bX P w K mg j CX k fa fd [x] sp) (B: ∀(s:aM) (u:Value),BindsTo s fd ⟨[u],[]⟩ [(x,u)])
  (CI: ∀H:Hp,sx H->cY K H a (I.map V.int)->sp [.ref a] H (λv _=>v= .bl true) λ_ _ _=>False)
  (R4: ∀H e l,CX [] H c (λ_ _ _=>False) e l->False):
  nQ (model P w) callerA (.call (.ref fa) ⟨[.ref a],[]⟩) (λr l=>r= .ok (.ret (.bool true))/\OldK c.heap l.heap/\l.os=c.os/\oX l.gens) c:=by
 have rv:=K7 hi;have N:=hi.length
 have y: ∀H:Hp,sx H->cY K H a (I.map V.int)->dD P w H c.heap->(∀b,H b≠none->b=a)->(H a≠none->K.lookup a=none)->
    nQ (model P w) callerA (.call (.ref fa) ⟨[.ref a],[]⟩) (λr l=>r= .ok (.ret (.bool true))/\OldK c.heap l.heap/\l.os=c.os/\oX l.gens) c:=by
  intro H hO hS O hA hK;have g: ∀ {b:Addr} {o:Obj},c.heap.get? b=some o->H b=none->(i6 c.heap H).get? b=some o:=λe n=>Pq e n
  have pC: ∀ {b:Addr} {o:Obj} {es:Array DictEntry} {ep:Nat},c.heap.get? b=some o->o.data= .dict es ep->H b=none:=λ{b o es ep} e d=>by
    cases q:H b with
    |none=>rfl
    |some u=>
      have e':=hA b (by rw [q];simp);subst e';rw [ha] at e;cases e;have d':=d;cases d'
  have p: ∀ {b:Addr} {m:Vj},c.heap.Ns b m->(i6 c.heap H).Ns b m:=λ{b m} ⟨o,es,ep,e,d,r⟩=>⟨o,es,ep,g e (pC e d),d,r⟩
  have Q:K.In (i6 c.heap H):=λb o e=>g (KX b o e) (by
    cases q:H b with
    |none=>rfl
    |some u=>
      have e':=hA b (by rw [q];simp);subst e'
      rw [hK (by rw [q];simp)] at e;cases e)
  have hM:Mod K mg (i6 c.heap H):=⟨Q,p J,⟨mb,p i,Fa⟩,let ⟨mc,h1,h2⟩:=L;⟨mc,p h1,h2⟩⟩
  refine pB ((F _ Q (p J)).run callerA [] c H ⟨[.ref a],[]⟩ [.ref a] [.ref a] _ _ hr (⟨rfl,hM,λb o e=>Pr e,Nat.le_of_eq (Pp _ _),trivial,λb i=>absurd (show b∈([]:List Addr) from i) (by simp),O,.of_eq hg⟩) (B c (.ref a)) (.cons rfl .nil) (CI H hO hS)) λr l h=>?_
  cases r with
  |error e=>exact (R4 H e l h).elim
  |ok fl=>
    cases fl with
    |next=>exact gO h
    |brk=>exact gO h
    |cont=>exact gO h
    |ret u=>
      obtain ⟨v,H',os,bare,un,U,r',q⟩:=h;have q':=q;subst q';obtain rfl:u=qt true:=r';refine ⟨rfl,OldK.of_keep λb o e=>?_,os,bare⟩
      cases q:H b with
      |none=>exact un.keep b o e q (by intro z;exact absurd (show b∈([]:List Addr) from z) (by simp)) (by simp)
      |some u=>
       rcases hO b with z| ⟨ob,xs,z⟩
       . rw [q] at z;cases z
       . have z2:=un.eA b ob _ z;obtain ⟨e1,_⟩:=O b _ z;obtain ⟨e2,_⟩:=U b _ z2;rw [e] at e1;cases e1;exact e2
 cases hk:K.lookup a with
 |some o=>
  have e:=KX a o hk;rw [ha] at e;cases e;refine y (λ_=>none) (λ_=> .inl rfl) (.inr ⟨_,E.toArray,_,hk,rfl,rfl,rfl,by rw [cb,N];exact hl,by simpa using rv⟩) (λb u z=>by have Y:none=some u:=z;cases Y) (λb z=>absurd rfl z) λz=>absurd rfl z
 |none=>
  refine y (λb=>if b=a then some (.bE {cls:= .type "list",data:= .seq E.toArray} (.ai (I.map V.int))) else none) (λb=>?_) (.inl (.inr ⟨{cls:= .type "list",data:= .seq E.toArray},if_pos rfl⟩)) (λb u z=>?_) (λb z=>?_) λ_=>hk
  . by_cases i:b=a
    . exact .inr ⟨_,_,if_pos i⟩
    . exact .inl (if_neg i)
  . by_cases i:b=a
    . have Y:=(if_pos i).symm.trans z;cases Y;subst i;exact ⟨ha,by rw [dQ];exact hl,E,_,rv,ha⟩
    . have Y:=(if_neg i).symm.trans z;cases Y
  . by_cases i:b=a
    . exact i
    . exact absurd (if_neg i) z
end L2
/-THE R5 CP (shape;LID,My.*are Lx):
 My.Adr:a structure of R6 addresses R7 R8 Ly names (classes,xK);My.Txt K t:a structure (Prop) of R6 equations over K;
 My.sy:{K} {implicit addresses ..} (e1:nsIn K cc "law" =some (some (.ref f))) (e2:K.lookup f=some ⟨oc,od,.func (fnOf "law" "law" params body scope dV kV doc pm an A0 ct),sl⟩) (e3:ra K A0 "law" =true) .. : ∃t,My.Txt K t
set_option maxRecDepth 100000 in
set_option maxHeartbeats 0 in
theorem PySem.Challenge.pL:PySem.Challenge.sA.Holds:=by
 w_on;o_law;k_head;(case hw=>w_witness2)
 k_fill
 refine L2.CQ (l:=PySem.Challenge.sA) (n:=63) (k:=40) (x:= "script") (CX:=λw=> ..) (sp:=λ_=>g.Fb) rfl (by decide) rfl ⟨rfl,by decide,by decide⟩ (λw h Y=>PySem.W.kIn_of Y) ?F ?S ?C
 case F=>
  intro w mg E h B G j
  have T: ∃t,g.Txt (L2.R9 B) t:=by
   dsimp only [L2.R9]                          --K aY o L «<heap const>w.params» for k_is;refine' g.sy ?e1 ?e2 ?e3 ..
   (case e1=>PySem.W.k_is)                    --in d order:a name->e c->e i->e p
   (case e2=>PySem.W.k_is)
   ..
  obtain ⟨t,T⟩:=T;have I:=j.symm.trans (j1 B G T.law);cases I                                       --E N d q aw c;exact ⟨_,λs u=> .of_eq rfl,λaf r v=>g.sB T r v⟩     --if «.of_eq rfl» y J z:refine' ⟨_,?b,λaf r v=>g.sB T r v⟩;exact λs u=> .of_eq rfl
 case S=>exact λw H a ns hl O Q=> ..
 case C=>exact ..
(d tactic k_is has U namespace:write k_is)-/
namespace L2
open PySem PySem.Spec PyProof.Rows
def Qy (s:Stmt) (j:Nat):Stmt:=match s with
 | .ClassDef _ _ _ a _ _ _ _ _ _ _=>a.getD j (.Pass ⟨0,0,0,0⟩)
 |_=> .Pass ⟨0,0,0,0⟩
def wG (s:Stmt):Arguments:=match s with
 | .FunctionDef _ a _ _ _ _ _ _ _ _=>a
 |_=> {posonlyargs:=[],args:=[],vararg:=none,kwonlyargs:=[],kw_defaults:=[],kwarg:=none,defaults:=[]}
def qa (s:Stmt):List Stmt:=match s with
 | .FunctionDef _ _ b _ _ _ _ _ _ _=>b
 |_=>[]
def jf (s:Stmt):Scope:=match s with
 | .FunctionDef _ _ _ _ _ _ a _ _ _=>a
 |_=> {kind:= .function,names:=[],isGenerator:=false,isCoroutine:=false}
abbrev gq:nA:=λ_ _ _ _ _ _=>False
abbrev E0:XK:=λ_ _ _=>False
def xL {X:Cx}:Zz gq X E0:=λ_ _ _ _ _ _ _ h=>h.elim
structure iB (K:aC) (x qual:Str) (st:Stmt) (f:Addr) (fd:mH):Prop where
 ex: ∃(oc:Value) (od:Option Addr) (kV doc pm:Value) (an:Option Addr) (A0 ct:Value) (AM:Array (Option Value)),
  fd=lM x qual (wG st) (qa st) (jf st) .none kV doc pm an A0 ct/\K.lookup f=some ⟨oc,od,.func fd,AM⟩/\ra K A0 qual=true
 kp:iZ K (.ref f)=true
section
variable {P:bB} {w:World} {K:aC} {mg:Vj} {af:Heap}
def iB.ok {x a:Str} {st:Stmt} {f:Addr} {n:mH} {N g:List Str} {k:Nat} {i:Sp} (F:iB K x a st f n) (S:ar N g (jf st)) (len: ∀d H Q E,i d H Q E->d.length=g.length)
  (e: ∀(c:Value) (A:bH) (outer:List Env) (s:aM) (H:Hp) (d:List V) (Q:VK) (E:XK),aI k (A.deeper (gn a (jf st) s.heap.objs.size f c))->i d H Q E->
   ∃t,dM (bu gq P w K mg af N a (jf st) f c A outer s H E).lF (qa st) t/\t {nx:=λ_ o=>Q .aU o,rt:=Q} (start N d) H):bX P w K mg af gq (k+1) f n g i:=by
 obtain ⟨u,v,kV,p,y,z,c,ct,r,rfl,lk,j⟩:=F.ex;refine EW lk j S len λA outer s H d Q E hr l=>?_
 obtain ⟨t,h,q⟩:=e c A outer s H d Q E hr l;exact ⟨t,h.lF,q⟩
def iB.binds {x a:Str} {st:Stmt} {f:Addr} {l:mH} {e:List Str} (F:iB K x a st f l)
  (h: ∀(kV c g:Value) (i:Option Addr) (d ct:Value) (j:List Value),j.length=e.length->bindArgs (lM x a (wG st) (qa st) (jf st) .none kV c g i d ct) ⟨j,[]⟩=pure (e.zip j)):Binds K l e []:=by
 obtain ⟨p,q,kV,c,g,i,d,ct,n,rfl,lk,o⟩:=F.ex;exact .all (h kV c g i d ct)
def Lz {x a:Str} {st:Stmt} {f:Addr} {n:Value} {o h:Option Addr} {g:Array (Option Value)} {kV e i d j:Value} (l:K.lookup f=some ⟨n,o,.func (lM x a (wG st) (qa st) (jf st) .none kV e i h d j),g⟩)
 (c:ra K d a=true) (k:iZ K (.ref f)=true):iB K x a st f (lM x a (wG st) (qa st) (jf st) .none kV e i h d j):=⟨⟨n,o,kV,e,i,h,d,j,g,rfl,l,c⟩,k⟩
end
def CS {A:bH} {k:Nat} (a:aI k A):A.units+1<cLine:=Nat.lt_of_le_of_lt (Nat.add_le_add_left (by decide) _) a.units
def ao (H a:Hp):Prop:= ∀b o,H b=some o->a b=some o
def ao.refl (H:Hp):ao H H:=λ_ _ h=>h
def ao.trans {H d e:Hp} (a:ao H d) (b:ao d e):ao H e:=λc o h=>b c o (a c o h)
def ao.free {H a:Hp} (e:ao H a) {l:Addr} (h:a l=Option.none):H l=Option.none:=by
 cases q:H l with
 |none=>rfl
 |some o=>
  rw [e l o q] at h;cases h
end L2
set_option maxHeartbeats 4000000
set_option autoImplicit true
set_option relaxedAutoImplicit true
namespace M
open PySem PySem.Spec L2
open PyProof.Rows hiding St
def eE {a:Scope} {x:Str} (h:(match a.names.lookup x with|some .local=>true|some .cell=>true|some .free=>true|_=>false)=true):gM a x:=by
 unfold gM
 cases e:a.names.lookup x with
 |none=>rw [e] at h;cases h
 |some k=>rw [e] at h;cases k<;>simp at h ⊢
def iC {a:Scope} {x:Str} (h:(match a.names.lookup x with|some .local=>true|some .cell=>true|_=>false)=true):L2.Loc a x:=by
 unfold L2.Loc
 cases e:a.names.lookup x with
 |none=>rw [e] at h;cases h
 |some k=>rw [e] at h;cases k<;>simp at h ⊢
inductive D where
 |aU|bl (b:Bool)|int (i:Int)|str (x:Str)
 |ak (ds:List D)|ai (ds:List D)|eN (ds:List D)|aQ (ks:List aR) (vs:List D)|bP (ks:List (List aR)) (vs:List D)|du (c:Str)|fq (ks:List aR) (vs:List D)|ii (ks:List aR) (vs:List D)|obj (c:Str) (ns:List Str) (vs:List D)|mem (B:List Int) (Φ:Int->Option Int->Prop)|dn (ds:List D)
mutual
noncomputable def D.j2:D->Bool
 | .aU=>true
 | .bl _=>true
 | .int _=>true
 | .str _=>true
 | .ak a=>D.dS a
 | .ai _=>false
 | .eN _=>false
 | .aQ _ _=>false
 | .bP _ _=>false
 | .du _=>true
 | .fq _ _=>false
 | .ii _ _=>false
 | .obj _ _ _=>false
 | .mem _ _=>false
 | .dn _=>false
noncomputable def D.dS:List D->Bool
 | []=>true
 |d::a=>D.j2 d&&D.dS a
end
inductive al (α:Type) where
 |ok (a:α)
 |exc (c:Str)
 |aj
noncomputable def al.bind {d e:Type} (r:al d) (f:d->al e):al e:=
 match r with
 | .ok a=>f a
 | .exc c=> .exc c
 | .aj=> .aj
instance:Monad al where
 pure:=al.ok
 bind:=al.bind
def kQ {c d:Type} {a:c} {f:c->al d}:(al.ok a>>=f)=f a:=rfl
def jd {d e:Type} {r:al d} {f:d->al e} {b:e} (h:(r>>=f)= .ok b): ∃a,r= .ok a/\f a= .ok b:=by
 cases r with
 |ok a=>exact ⟨a,rfl,h⟩
 |exc c=>cases h
 |aj=>cases h
noncomputable def aY {a:Type} (c:Prop) [Decidable c] (r:al a):al a:=if c then r else .aj
def jv {e:Type} {c:Prop} [Decidable c] {r:al e} {a:e} (h:aY c r= .ok a):c/\r= .ok a:=by
 unfold aY at h
 by_cases d:c
 . rw [if_pos d] at h;exact ⟨d,h⟩
 . rw [if_neg d] at h;cases h
def jn {a:Type} {c:Prop} [Decidable c] {r:al a} (h:c):aY c r=r:=if_pos h
def nV (K:aC) (H:Hp) (a:Addr) (d:List V):Prop:=
 (∃o,H a=some (.bE o (.ai d)))\/
  ∃(o:Obj) (c:Array Value) (n:Nat),K.lookup a=some o/\o.cls= .type "list" /\o.dict=none/\o.data= .seq c n/\c.size<=aP/\aN d c.toList
def nV.nW {K:aC} (h:nV K H a c):cY K H a c:=by
 rcases h with h|h
 . exact .inl (.inr h)
 . exact .inr h
def mK:D->List D
 | .ak a=>a
 |_=>[]
mutual
inductive aL (K:aC):(Addr->Prop)->Hp->V->D->Prop where
 |aU {A H}:aL K A H .aU .aU
 |bl {A H} (b:Bool):aL K A H (.bl b) (.bl b)
 |int {A H} (i:Int):aL K A H (.int i) (.int i)
 |str {A H} (x:Str):x.length<=aP->aL K A H (.str x) (.str x)
 |ak {A H} {a:Addr} {xs:List V} {ds:List D}:H a=some (.ak xs)->au K A H xs ds->aL K A H (.ref a) (.ak ds)
 |ai {A H} {a:Addr} {xs:List V} {ds:List D}:H a=some (.ai xs)->A a->au K (λc=>A c/\c≠a) H xs ds->aL K A H (.ref a) (.ai ds)
 |Fc {A H} {a:Addr} {xs:List V} {ds:List D}:nV K H a xs->au K A H xs ds->aL K A H (.ref a) (.eN ds)
 |aQ {A H} {a:Addr} {cG:List (aR×V)} {vs:List V} {ks:List aR} {ds:List D}:H a=some (.dK cG)->A a->cG.map (·.1)=ks->cG.map (·.2)=vs->au K (λc=>A c/\c≠a) H vs ds->aL K A H (.ref a) (.aQ ks ds)
 |bP {A H} {a:Addr} {cG:List ((List aR)×V)} {vs:List V} {ks:List (List aR)} {ds:List D}:H a=some (.dT cG)->A a->cG.map (·.1)=ks->cG.map (·.2)=vs->au K (λc=>A c/\c≠a) H vs ds->aL K A H (.ref a) (.bP ks ds)
 |du {A H} {a b C:Addr} {o:Obj} {c:Str}:H a=some (.bE o (.aw b))->o.cls= .ref C->cT K cc c=some (some (.ref C))->aL K A H (.ref a) (.du c)
 |fq {A H} {a:Addr} {cG:List (aR×V)} {vs:List V} {ks:List aR} {ds:List D}:((H a=some (.dK cG)/\A a)\/ ∃o,H a=some (.bE o (.dK cG)))->cG.map (·.1)=ks->cG.map (·.2)=vs->au K (λc=>A c/\c≠a) H vs ds->aL K A H (.ref a) (.fq ks ds)
 |ii {A H} {a:Addr} {cG:List (aR×V)} {vs:List V} {ks:List aR} {ds:List D}:(∃o,H a=some (.bE o (.dK cG)))->cG.map (·.1)=ks->cG.map (·.2)=vs->au K (λc=>A c/\c≠a) H vs ds->aL K A H (.ref a) (.ii ks ds)
 |obj {A H} {a C dx:Addr} {fs:List (Str×V)} {vs:List V} {c:Str} {ns:List Str} {ds:List D}:H a=some (.ins C dx fs)->A a->(cT K cc c=some (some (.ref C))/\fs.map (·.1)=ns)->fs.map (·.2)=vs->au K (λc=>A c/\c≠a) H vs ds->aL K A H (.ref a) (.obj c ns ds)
 |mem {A H} {a:Addr} {B:List Int} {Φ:Int->Option Int->Prop}:H a=some (.memo B Φ)->A a->aL K A H (.ref a) (.mem B Φ)
 |dn {A H} {a:Addr} {rs:List (Addr×List V)} {ds es:List D}:H a=some (.dn rs)->A a->rs.map (λr=>r.2.length)=ds.map (λd=>(mK d).length)->ds.flatMap mK=es->au K (λc=>A c/\c≠a) H (rs.flatMap (·.2)) es->aL K A H (.ref a) (.dn ds)
inductive au (K:aC):(Addr->Prop)->Hp->List V->List D->Prop where
 |nil {A H}:au K A H [] []
 |cons {A H} {v:V} {d:D} {vs:List V} {ds:List D}:aL K A H v d->au K A H vs ds->au K A H (v::vs) (d::ds)
end
def fM (A:Vi) (H c:Hp):Prop:= ∀a o,H a=some o->(nv (some o)->A a)->c a=some o
def fM.mono (h:fM A H c) (w: ∀a,B a->A a):fM B H c:=λa o e m=>h a o e λz=>w a (m z)
section
variable {K:aC}
def nV.a5 (h:nV K H a c) (st:fM A H Q):nV K Q a c:=by
 rcases h with ⟨o,e⟩|h
 . exact .inl ⟨o,st a _ e (λz=>z.elim)⟩
 . exact .inr h
def au.a5 (r:au K A H g ds):fM A H Q->(∀a,A a->c a)->au K c Q g ds:=by
 refine au.rec (motive_1:=λA H v d _=> ∀B:Addr->Prop,fM A H Q->(∀a,A a->B a)->aL K B Q v d) (λ_ _ _=> .aU) (λb _ _ _=> .bl b) (λi _ _ _=> .int i) (λx h _ _ _=> .str x h) (λe _ r _ s w=> .ak (s _ _ e λz=>z.elim) (r _ s w)) (λe a _ r _ s w=> .ai (s _ _ e λ_=>a) (w _ a) (r _ ?_ ?_)) (λe _ r _ s w=> .Fc (e.a5 s) (r _ s w)) (λe a k l _ r _ s w=> .aQ (s _ _ e λ_=>a) (w _ a) k l (r _ ?_ ?_)) (λe a k l _ r _ s w=> .bP (s _ _ e λ_=>a) (w _ a) k l (r _ ?_ ?_)) (λe k l _ s w=> .du (s _ _ e λz=>z.elim) k l) (λe k l _ r _ s w=> .fq (e.elim (λz=> .inl ⟨s _ _ z.1 λ_=>z.2,w _ z.2⟩) (λz=>z.elim λ_ z=> .inr ⟨_,s _ _ z λz=>z.elim⟩)) k l (r _ ?_ ?_)) (λe k l _ r _ s w=> .ii (e.elim λ_ z=>⟨_,s _ _ z λz=>z.elim⟩) k l (r _ ?_ ?_)) (λe a k l _ r _ s w=> .obj (s _ _ e λ_=>a) (w _ a) k l (r _ ?_ ?_)) (λe a _ s w=> .mem (s _ _ e λ_=>a) (w _ a)) (λe a k l _ r _ s w=> .dn (s _ _ e λ_=>a) (w _ a) k l (r _ ?_ ?_)) (λ_ _ _=> .nil) (λ_ _ h t _ s w=> .cons (h _ s w) (t _ s w)) r c
 any_goals exact s.mono λ_ z=>z.1
 all_goals exact λ_ z=>⟨w _ z.1,z.2⟩
def aL.a5 (r:aL K A H v d) (s:fM A H Q) (w: ∀a,A a->c a):aL K c Q v d:=by
 cases au.a5 (.cons r .nil) s w;assumption
def ao.a5 (h:ao H Q):fM A H Q:=λa o e _=>h a o e
variable {A A':Vi} {H Q:Hp}
def aL.am (r:aL K A H v d) (h:ao H Q):aL K A Q v d:=r.a5 (ao.a5 h) λ_ z=>z
def au.am (r:au K A H v d) (h:ao H Q):au K A Q v d:=r.a5 (ao.a5 h) λ_ z=>z
def aL.aE (r:aL K A H v d) (w: ∀a,A a->A' a):aL K A' H v d:=r.a5 (λ_ _ e _=>e) w
def au.aE (r:au K A H v d) (w: ∀a,A a->A' a):au K A' H v d:=r.a5 (λ_ _ e _=>e) w
def au.j2 (r:au K A H a ds):D.dS ds=true->au K A' H a ds:=by
 refine au.rec (motive_1:=λ_ H v d _=>d.j2=true->aL K A' H v d) (λ_=> .aU) (λb _=> .bl b) (λi _=> .int i) (λx h _=> .str x h) (λe _ r i=> .ak e (r i)) ?_ ?_ ?_ ?_ (λe k l _=> .du e k l) ?_ ?_ ?_ ?_ ?_ (λ_=> .nil) (λ_ _ h t i=>?_) r
 case refine_10=>simp only [D.dS,dR] at i;exact .cons (h i.1) (t i.2)
 all_goals intros;rename_i i;cases i
def aL.j2 (r:aL K A H v d) (i:d.j2=true):aL K A' H v d:=by
 cases au.j2 (.cons r .nil) (by simp [D.dS,i]);assumption
def au.cP (r:au K A H (v::c) ds): ∃d a,ds=d::a/\aL K A H v d/\au K A H c a:=by
 cases r with
 |cons r t=>exact ⟨_,_,rfl,r,t⟩
def au.fN (r:au K A H [] ds):ds=[]:=by cases r;rfl
def au.length (r:au K A H vs ds):vs.length=ds.length:=by
 induction vs generalizing ds with
 |nil=>cases r.fN;rfl
 |cons v vs a=>
  obtain ⟨_,_,rfl,_,t⟩:=r.cP;simp [a t]
def au.get {i:Nat} (r:au K A H vs ds) (e:ds[i]?=some d): ∃v,vs[i]?=some v/\aL K A H v d:=by
 induction vs generalizing ds i with
 |nil=>cases r.fN;simp at e
 |cons v vs a=>
  obtain ⟨_,_,rfl,r,t⟩:=r.cP
  cases i with
  |zero=>simp at e;subst e;exact ⟨_,rfl,r⟩
  |succ i=>simpa using a t (by simpa using e)
def au.get' {i:Nat} (r:au K A H a ds) (e:a[i]?=some v): ∃d,ds[i]?=some d/\aL K A H v d:=by
 induction a generalizing ds i with
 |nil=>simp at e
 |cons v a c=>
  obtain ⟨_,_,rfl,r,t⟩:=r.cP
  cases i with
  |zero=>simp at e;subst e;exact ⟨_,rfl,r⟩
  |succ i=>simpa using c t (by simpa using e)
def au.append (r:au K A H a ds) (s:au K A H c d):au K A H (a++c) (ds++d):=by
 induction a generalizing ds with
 |nil=>cases r.fN;exact s
 |cons v a e=>
  obtain ⟨_,_,rfl,r,t⟩:=r.cP;exact .cons r (e t)
def au.take (n:Nat) (r:au K A H a ds):au K A H (a.take n) (ds.take n):=by
 induction a generalizing ds n with
 |nil=>cases r.fN;simpa using .nil
 |cons v a c=>
  obtain ⟨_,_,rfl,r,t⟩:=r.cP
  cases n with
  |zero=>exact .nil
  |succ n=>exact .cons r (c n t)
def au.drop (n:Nat) (r:au K A H a ds):au K A H (a.drop n) (ds.drop n):=by
 induction a generalizing ds n with
 |nil=>cases r.fN;simpa using .nil
 |cons v a c=>
  cases n with
  |zero=>exact r
  |succ n=>
   obtain ⟨_,_,rfl,r,t⟩:=r.cP;exact c n t
theorem au.rep (r:au K A H a ds): ∀k:Nat,au K A H (dq k a).flatten (dq k ds).flatten
 |0=> .nil
 |k+1=>by
  rw [sr,sr,wU,wU];exact r.append (au.rep r k)
def au.isEmpty (r:au K A H a ds):ds.isEmpty=a.isEmpty:=by cases r<;>rfl
def gZ (K:aC) (A:Vi) (H:Hp) (v:V):D->Prop
 | .aU=>v= .aU
 | .bl b=>v= .bl b
 | .int i=>v= .int i
 | .str x=>v= .str x/\x.length<=aP
 | .ak g=> ∃a h,v= .ref a/\H a=some (.ak h)/\au K A H h g
 | .ai g=> ∃a h,v= .ref a/\H a=some (.ai h)/\A a/\au K (λc=>A c/\c≠a) H h g
 | .eN g=> ∃a h,v= .ref a/\nV K H a h/\au K A H h g
 | .aQ j g=> ∃a e,v= .ref a/\H a=some (.dK e)/\A a/\e.map (·.1)=j/\au K (λc=>A c/\c≠a) H (e.map (·.2)) g
 | .bP j g=> ∃a e,v= .ref a/\H a=some (.dT e)/\A a/\e.map (·.1)=j/\au K (λc=>A c/\c≠a) H (e.map (·.2)) g
 | .du c=> ∃a b C o,v= .ref a/\H a=some (.bE o (.aw b))/\o.cls= .ref C/\cT K cc c=some (some (.ref C))
 | .fq j g=> ∃a e,v= .ref a/\((H a=some (.dK e)/\A a)\/ ∃o,H a=some (.bE o (.dK e)))/\e.map (·.1)=j/\au K (λc=>A c/\c≠a) H (e.map (·.2)) g
 | .ii j g=> ∃a e,v= .ref a/\(∃o,H a=some (.bE o (.dK e)))/\e.map (·.1)=j/\au K (λc=>A c/\c≠a) H (e.map (·.2)) g
 | .obj c n g=> ∃a C dx fs,v= .ref a/\H a=some (.ins C dx fs)/\A a/\cT K cc c=some (some (.ref C))/\fs.map (·.1)=n/\au K (λc=>A c/\c≠a) H (fs.map (·.2)) g
 | .mem B p=> ∃a,v= .ref a/\H a=some (.memo B p)/\A a
 | .dn g=> ∃a l,v= .ref a/\H a=some (.dn l)/\A a/\l.map (λr=>r.2.length)=g.map (λd=>(mK d).length)/\au K (λc=>A c/\c≠a) H (l.flatMap (·.2)) (g.flatMap mK)
def aL.f (r:aL K A H v d):gZ K A H v d:=by
 refine aL.casesOn (motive_1:=λA H v d _=>gZ K A H v d) r rfl (λ_=>rfl) (λ_=>rfl) (λ_ h=>⟨rfl,h⟩) (λe r=>⟨_,_,rfl,e,r⟩) (λe h r=>⟨_,_,rfl,e,h,r⟩) (λe r=>⟨_,_,rfl,e,r⟩) (λe h k l r=>⟨_,_,rfl,e,h,k,l▸r⟩) (λe h k l r=>⟨_,_,rfl,e,h,k,l▸r⟩) (λe k l=>⟨_,_,_,_,rfl,e,k,l⟩) (λe k l r=>⟨_,_,rfl,e,k,l▸r⟩) (λe k l r=>⟨_,_,rfl,e,k,l▸r⟩) (λe h k l r=>⟨_,_,_,_,rfl,e,h,k.1,k.2,l▸r⟩) (λe h=>⟨_,rfl,e,h⟩) λe h k l r=>⟨_,_,rfl,e,h,k,l▸r⟩
def aL.cK (r:aL K A H v (.ai ds)): ∃a d,v= .ref a/\H a=some (.ai d)/\A a/\au K (λc=>A c/\c≠a) H d ds:=r.f
def aL.mL (r:aL K A H v (.eN ds)): ∃a c,v= .ref a/\nV K H a c/\au K A H c ds:=r.f
def aL.dH (r:aL K A H v (.ak ds)): ∃a c,v= .ref a/\H a=some (.ak c)/\au K A H c ds:=r.f
def aL.cL (r:aL K A H v (.int i)):v= .int i:=r.f
def aL.sC (r:aL K A H v (.bl b)):v= .bl b:=r.f
def aL.j4 (r:aL K A H v (.str x)):v= .str x/\x.length<=aP:=r.f
def aL.sD (r:aL K A H v .aU):v= .aU:=r.f
def au.low (r:au K (λc=>A c/\c≠a) H d ds):au K A H d ds:=r.aE λ_ z=>z.1
def au.cu (r:au K A H d ds):au K (λc=>A c/\H c≠none) H d ds:=by
 refine au.rec .aU (λb=> .bl b) (λi=> .int i) (λx h=> .str x h) (λe _ r=> .ak e r) (λe a _ r=> .ai e ⟨a,?_⟩ ?_) (λe _ r=> .Fc e r) (λe a k l _ r=> .aQ e ⟨a,?_⟩ k l ?_) (λe a k l _ r=> .bP e ⟨a,?_⟩ k l ?_) (λe k l=> .du e k l) (λe k l _ r=> .fq (e.elim (λz=> .inl ⟨z.1,z.2,by simp [z.1]⟩) .inr) k l ?_) (λe k l _ r=> .ii e k l ?_) (λe a k l _ r=> .obj e ⟨a,?_⟩ k l ?_) (λe a=> .mem e ⟨a,by simp [e]⟩) (λe a k l _ r=> .dn e ⟨a,?_⟩ k l ?_) .nil (λ_ _ h t=> .cons h t) r
 any_goals exact r.aE λ_ z=>⟨⟨z.1.1,z.2⟩,z.1.2⟩
 all_goals simp [e]
def aL.cu (r:aL K A H v d):aL K (λc=>A c/\H c≠none) H v d:=by
 cases au.cu (.cons r .nil);assumption
def ao.aH (h:H p=none):ao H (L2.aH H p o):=λb u e=>by rw [jF (ql e h)];exact e
def au.laid (r:au K A H d ds) (a:H p=none):au K (λc=>A c/\c≠p) (L2.aH H p o) d ds:=
 (r.cu.am (ao.aH a)).aE λc z=>⟨z.1,λe=>z.2 (by rw [e];exact a)⟩
end
inductive Slot where
 |un
 |aw (d:D)
 |ah (d:D)
abbrev Sl:=List Slot
def zV (env:Sl) (c:St) (a:Addr):Prop:= ∃(i:Nat) (d:D),env[i]?=some (.aw d)/\c[i]?=some (some (.ref a))
abbrev Fd (env:Sl) (c:St):Addr->Prop:=λa=> ¬zV env c a
abbrev Sf (G:Vi) (env:Sl) (c:St):Addr->Prop:=λa=> ¬zV env c a/\G a
inductive Top (K:aC) (A:Vi) (H:Hp) (a:Addr):D->Prop where
 |ai {xs:List V} {ds:List D}:H a=some (.ai xs)->au K A H xs ds->Top K A H a (.ai ds)
 |aQ {cG:List (aR×V)} {vs:List V} {ks:List aR} {ds:List D}:H a=some (.dK cG)->cG.map (·.1)=ks->cG.map (·.2)=vs->au K A H vs ds->Top K A H a (.aQ ks ds)
 |bP {cG:List ((List aR)×V)} {vs:List V} {ks:List (List aR)} {ds:List D}:H a=some (.dT cG)->cG.map (·.1)=ks->cG.map (·.2)=vs->au K A H vs ds->Top K A H a (.bP ks ds)
 |obj {C dx:Addr} {fs:List (Str×V)} {vs:List V} {c:Str} {ns:List Str} {ds:List D}:H a=some (.ins C dx fs)->(cT K cc c=some (some (.ref C))/\fs.map (·.1)=ns)->fs.map (·.2)=vs->au K A H vs ds->Top K A H a (.obj c ns ds)
 |dn {rs:List (Addr×List V)} {ds es:List D}:H a=some (.dn rs)->rs.map (λr=>r.2.length)=ds.map (λd=>(mK d).length)->ds.flatMap mK=es->au K A H (rs.flatMap (·.2)) es->Top K A H a (.dn ds)
def Top.rep {K:aC} (t:Top K A H a d) (w: ∀b,A b->i b/\b≠a) (h:i a):aL K i H (.ref a) d:=by
 cases t with
 |ai e r=>exact .ai e h (r.aE w)
 |aQ e c g r=>exact .aQ e h c g (r.aE w)
 |bP e c g r=>exact .bP e h c g (r.aE w)
 |obj e c g r=>exact .obj e h c g (r.aE w)
 |dn e c g r=>exact .dn e h c g (r.aE w)
def Top.a5 {K:aC} (t:Top K A H a d) (st:fM A H i) (w: ∀b,A b->j b) (h: ∀o,H a=some o->i a=some o):Top K j i a d:=by
 cases t with
 |ai e r=>exact .ai (h _ e) (r.a5 st w)
 |aQ e c g r=>exact .aQ (h _ e) c g (r.a5 st w)
 |bP e c g r=>exact .bP (h _ e) c g (r.a5 st w)
 |obj e c g r=>exact .obj (h _ e) c g (r.a5 st w)
 |dn e c g r=>exact .dn (h _ e) c g (r.a5 st w)
def Top.there {K:aC} (t:Top K A H a d): ∃o,H a=some o/\nv (some o):=by
 cases t with
 |ai e r=>exact ⟨_,e,trivial⟩
 |aQ e _ _ r=>exact ⟨_,e,trivial⟩
 |bP e _ _ r=>exact ⟨_,e,trivial⟩
 |obj e _ _ r=>exact ⟨_,e,trivial⟩
 |dn e _ _ r=>exact ⟨_,e,trivial⟩
structure ax (K:aC) (G:Vi) (H0:Hp) (env:Sl) (σ:St) (H:Hp):Prop where
 len:σ.length=env.length
 af:ao H0 H
 g0: ∀a,H0 a=none->G a
 ah: ∀(i:Nat) (d:D),env[i]?=some (.ah d)-> ∃v,σ[i]?=some (some v)/\aL K (Sf G env σ) H v d
 aw: ∀(i:Nat) (d:D),env[i]?=some (.aw d)-> ∃a,σ[i]?=some (some (.ref a))/\H0 a=none/\Top K (Sf G env σ) H a d
 nB: ∀(i j:Nat) (d e:D) (a:Addr),env[i]?=some (.aw d)->env[j]?=some (.aw e)->σ[i]?=some (some (.ref a))->σ[j]?=some (some (.ref a))->i=j
section
variable {K:aC} {G:Vi} {H0 H H':Hp} {env:Sl} {w:St}
def ax.am (e:ax K G H0 env w H) (h:ao H H'):ax K G H0 env w H' where
 len:=e.len
 af:=e.af.trans h
 g0:=e.g0
 ah:=λi d z=>let ⟨v,h1,h2⟩:=e.ah i d z;⟨v,h1,h2.am h⟩
 aw:=λi d z=>let ⟨a,h1,h2,c⟩:=e.aw i d z;⟨a,h1,h2,c.a5 (ao.a5 h) (λ_ z=>z) (λo q=>h _ o q)⟩
 nB:=e.nB
def ax.there (e:ax K G H0 env w H) (o:zV env w a): ∃u,H a=some u:=by
 obtain ⟨i,d,h1,h2⟩:=o;obtain ⟨b,c,_,g⟩:=e.aw i d h1;rw [h2] at c;cases c;obtain ⟨u,h,_⟩:=g.there;exact ⟨u,h⟩
def ax.lQ (k:ax K G H0 env w H) {a:Addr} (o:zV env w a) {u:HO} (e:H a=some u):nv (some u):=by
 obtain ⟨i,d,h1,h2⟩:=o;obtain ⟨b,c,_,h⟩:=k.aw i d h1;rw [h2] at c;cases c;obtain ⟨j,g,m⟩:=h.there;rw [e] at g;cases g;exact m
def ax.new (k:ax K G H0 env w H): ∀a,H a=none->Sf G env w a:=λa z=>⟨λo=>(by
 obtain ⟨u,q⟩:=k.there o
 rw [z] at q;cases q),k.g0 a (ao.free k.af z)⟩
end
inductive Lv where
 |b|s|t
abbrev Any:Addr->Prop:=λ_=>True
def Lv.A (l:Lv) (G:Vi) (env:Sl) (a:St):Addr->Prop:=
 match l with
 | .b=>Any
 | .s=>Sf G env a
 | .t=>Sf G env a
def be (H:Hp) (v:V):Prop:= ∀a,v= .ref a-> ∀o,H a=some o-> ¬nv (some o)
def Lv.T (l:Lv) (H:Hp) (v:V):Prop:=
 match l with
 | .t=>be H v
 |_=>True
def be.am (h:ao H c) (n:be c v):be H v:=λa e o q=>n a e o (h a o q)
def Lv.nX {l:Lv} (h:ao H a) (n:l.T a v):l.T H v:=by
 cases l with
 |t=>exact be.am h n
 |b=>trivial
 |s=>trivial
def tE (K:aC) (l:Lv) (f:Sl->al D):TE:=λe H Q=> ∃G g a d,ax K G g a e H/\f a= .ok d/\ ∀v c,ao H c->aL K (l.A G a e) c v d->l.T H v->Q v c
def tT (K:aC) (f:Sl->al Bool):TT:=λd H Q=> ∃G e a b,ax K G e a d H/\f a= .ok b/\ ∀c,ao H c->Q b c
def tA (K:aC) (l:Lv) (f:Sl->al (List D)):TA:=λd H Q=> ∃G h a e,ax K G h a d H/\f a= .ok e/\ ∀g c,ao H c->au K (l.A G a d) c g e->Q g c
@[irreducible] def DE (X:Cx) (l:Lv) (e:Expr) (f:Sl->al D):Prop:=PE X e (tE X.K l f)
@[irreducible] def DT (X:Cx) (e:Expr) (f:Sl->al Bool):Prop:=PT X e (tT X.K f)
@[irreducible] def DA (X:Cx) (l:Lv) (a:List Expr) (f:Sl->al (List D)):Prop:=PA X a (tA X.K l f)
inductive aT where
 |nx (env:Sl)|rt (fr:Bool) (d:D)|bk (env:Sl)|ct (env:Sl)
abbrev T1:=Sl->al D
abbrev T0:=Sl->al Bool
abbrev TZ:=Sl->al aT
abbrev TY:=Sl->al (List D)
abbrev TX:=List D->al D
abbrev TW:=D->Sl->al Sl
structure a9 (env:Sl) (σ:St) (H:Hp) (env':Sl) (gy:St) (H':Hp):Prop where
 keep: ∀b o,H b=some o-> ¬zV env σ b->H' b=some o
 more: ∀b,zV env' gy b->zV env σ b\/H b=none
 size: ∀b,H' b=none->H b=none
def mM (K:aC) (G:Vi) (g:Hp) (env:Sl) (h:St) (H:Hp) (E:Ends) (o:aT):Prop:=
 match o with
 | .nx a=> ∀c e,ax K G g a c e->a9 env h H a c e->E.nx c e
 | .bk a=> ∀c e,ax K G g a c e->a9 env h H a c e->E.bk c e
 | .ct a=> ∀c e,ax K G g a c e->a9 env h H a c e->E.ct c e
 | .rt i d=> ∀v e,ao g e->aL K G e v d->(i=true->be g v)->E.rt v e
def tS (K:aC) (g:TZ):TS:=λE c H=> ∃G d a o,ax K G d a c H/\g a= .ok o/\mM K G d a c H E o
@[irreducible] def DS (X:Cx) (st:Stmt) (g:TZ):Prop:=PS X st (tS X.K g)
@[irreducible] def iD (X:Cx) (st:List Stmt) (g:TZ):Prop:=dM X st (tS X.K g)
section
variable {X:Cx} {e:Expr} {es:List Expr} {st:Stmt} {A1:List Stmt}
def PE.imp (h:PE X e t) (w: ∀a H Q,d a H Q->t a H Q):PE X e d:=λc s a H Q I q=>h c s a H Q I (w a H Q q)
def PT.imp (h:PT X e t) (w: ∀a H Q,d a H Q->t a H Q):PT X e d:=λc s a H Q I q=>h c s a H Q I (w a H Q q)
def PA.imp (h:PA X es t) (w: ∀a H Q,g a H Q->t a H Q):PA X es g:=λd c s a H Q I q=>h d c s a H Q I (w a H Q q)
def PS.imp (h:PS X st t) (w: ∀E a H,d E a H->t E a H):PS X st d:=λc s a H E I q=>h c s a H E I (w E a H q)
def dM.imp (h:dM X A1 t) (w: ∀E a H,d E a H->t E a H):dM X A1 d:=λc s a H E I q=>h c s a H E I (w E a H q)
end
def a9.refl (h:ao H a):a9 env c H env c a:=⟨λb o e _=>h b o e,λb o=> .inl o,λb e=>ao.free h e⟩
def a9.trans (a:a9 env j H d h l) (b:a9 d h l g i p):a9 env j H g i p where
 keep:=λc o e n=>b.keep c o (a.keep c o e n) λz=>by
  rcases a.more c z with z|z
  . exact n z
  . rw [e] at z;cases z
 more:=λc o=>by
  rcases b.more c o with z|z
  . exact a.more c z
  . exact .inr (a.size c z)
 size:=λc e=>a.size c (b.size c e)
def a9.am (h:ao H d) (b:a9 env e d a c g):a9 env e H a c g:=(a9.refl h).trans b
section
variable {X:Cx} {e:Expr} {f:T1}
def Lv.bf {l:Lv}: ∀a,l.A G env c a->Any a:=λ_ _=>trivial
def DE.b (h:DE X l e f):DE X .b e f:=by
 with_unfolding_all exact (PE.imp h λi H Q ⟨G,a,env,d,k,c,q⟩=>⟨G,a,env,d,k,c,λv g s r _=>q v g s (r.aE Lv.bf) trivial⟩)
def DE.s (h:DE X .t e f):DE X .s e f:=by
 with_unfolding_all exact (PE.imp h λi H Q ⟨G,a,env,d,k,c,q⟩=>⟨G,a,env,d,k,c,λv g s r _=>q v g s r trivial⟩)
def Sa {K:aC} (s:ao H c) (r:aL K A c v d) (i:d.j2=true):be H v:=λa e o q m=>by
 subst e;have r:=r.f;cases d<;>try cases i
 . cases r
 . cases r
 . cases r
 . cases r.1
 . obtain ⟨_,_,e1,e,_⟩:=r;cases e1;rw [s _ _ q] at e;cases e;exact m
 . obtain ⟨_,_,_,_,e1,e,_⟩:=r;cases e1;rw [s _ _ q] at e;cases e;exact m
end
def Kd:Expr->Bool
 | .Starred _ _=>false
 |_=>true
def jm (h:Kd e=true):bb (e::a) env=(false,eval e env)::bb a env:=by
 cases e<;>first|rfl|cases h
def vp (h:a.all Kd=true):(bb a env).all (λx=>!x.1)=true:=by
 induction a with
 |nil=>rfl
 |cons e r c=>
  rw [A2,dR] at h;rw [jm h.1,A2,c h.2];rfl
def uN (h:l.all (λx=>!x.1)=true):(dL pos l).all (λx=>!x.1)=true:=by
 induction l with
 |nil=>rfl
 |cons p r a=>
  obtain ⟨s,t⟩:=p;rw [A2,dR] at h;show ((!s)&&(dL pos r).all (λx=>!x.1))=true;rw [a h.2,Bool.and_true];exact h.1
def jS (h:c.all Kd=true):(dL a (bb c env)).any (·.1)=false:=by
 have:=uN (pos:=a) (vp (env:=env) h);rw [mP] at this;rw [List.any_eq_false];intro x d z;have q:=this x d;rw [z] at q;cases q
def JE (h:(e::c).all Kd=true) (d:decide ((e::c).length<30)=true):
  ((
   dL a (bb (e::c) env)).all (λx=>!x.1)&&(lK a (lL [] env)).all (λx=>x.1.isSome)
   &&decide ((e::c).length+([]:List i3).length+(if ([]:List i3).isEmpty then 0 else 1)<30))=true:=by
 have g:(lK a (lL [] env)).all (λx=>x.1.isSome)=true:=rfl;rw [uN (vp h),g];simpa using d
section
variable {X:Cx} {e a b c o:Expr} {N:List Expr} {Y:Pos} {l L J l':Lv} {f O U u:T1}
def cI (i:Int):Sl->al D:=λ_=> .ok (.int i)
def cB (b:Bool):Sl->al D:=λ_=> .ok (.bl b)
def cN:Sl->al D:=λ_=> .ok .aU
def cS (x:Str):Sl->al D:=λ_=> .ok (.str x)
def ag (i:Nat):Sl->al D:=λg=>match g[i]? with
 |some (.ah d)=> .ok d
 |_=> .aj
def ge (i:Nat):Sl->al D:=λg=>match g[i]? with
 |some (.ah d)=> .ok d
 |some (.aw d)=> .ok d
 |_=> .aj
def LA (h:ag i env= .ok d):env[i]?=some (.ah d):=by
 unfold ag at h
 split at h
 . cases h;assumption
 . cases h
def US (h:ge i env= .ok d):env[i]?=some (.ah d)\/env[i]?=some (.aw d):=by
 unfold ge at h
 split at h
 . cases h;left;assumption
 . cases h;right;assumption
 . cases h
def Ym {K:aC} {i:Nat} {a:Addr} (k:ax K G n env g H) (h:env[i]?=some (.aw d)) (j:g[i]?=some (some (.ref a))): ∀c,Sf G env g c->c≠a:=λc z e=>z.1 (by rw [e];exact ⟨i,d,h,j⟩)
def dv (i:Nat) (h:X.N[i]?=some x:=by rfl) (j:gM X.env.scope x:=by exact eE rfl) (n:YU x:=by decide)
   (g:WV x:=by decide):DE X .s (.Name x Y) (ag i):=by
 with_unfolding_all exact (
  PE.imp (xF h j n g) λz H Q=>by
   rintro ⟨G,B,p,d,k,r,q⟩;obtain ⟨v,w,y⟩:=k.ah i d (LA r)
   exact ⟨v,w,q v H (ao.refl H) y trivial⟩)
def db (i:Nat) {x:Str} (n:X.N[i]?=some x:=by rfl) (p:gM X.env.scope x:=by exact eE rfl) (r:YU x:=by decide)
   (h:WV x:=by decide):DE X .b (.Name x Y) (ge i):=by
 with_unfolding_all exact (
  PE.imp (xF n p r h) λE H Q=>by
   rintro ⟨G,I,w,d,k,B,q⟩;rcases US B with z|z
   . obtain ⟨v,g,j⟩:=k.ah i d z;exact ⟨v,g,q v H (ao.refl H) (j.aE λ_ _=>trivial) trivial⟩
   . obtain ⟨v,g,_,j⟩:=k.aw i d z
     exact ⟨_,g,q _ H (ao.refl H) (j.rep (λc y=>⟨trivial,Ym k z g c y⟩) trivial) trivial⟩)
def Sc (K:aC) (v:V) (d:D):Prop:=(∀A H,aL K A H v d)/\ ∀a,v≠ .ref a
def Sc.T {K:aC} (h:Sc K v d):l.T H v:=by
 cases l with
 |t=>exact λa e=>absurd e (h.2 a)
 |b=>trivial
 |s=>trivial
def ms {K:aC} (i:Int):Sc K (.int i) (.int i):=⟨λ_ _=> .int i,λa e=>by cases e⟩
def lv {K:aC} (i:Bool):Sc K (.bl i) (.bl i):=⟨λ_ _=> .bl i,λa e=>by cases e⟩
def Sb {K:aC}:Sc K .aU .aU:=⟨λ_ _=> .aU,λa e=>by cases e⟩
def CU {K:aC} (x:Str) (h:x.length<=aP):Sc K (.str x) (.str x):=⟨λ_ _=> .str x h,λa e=>by cases e⟩
def mQ {v:V} {d:D} (h:PE X e (tC v)) (r:Sc X.K v d):DE X l e (λ_=> .ok d):=by
 with_unfolding_all exact (
  PE.imp h λj H Q=>by
   rintro ⟨G,n,g,p,k,i,q⟩;cases i
   exact q v H (ao.refl H) (r.1 _ H) r.T)
def Fe {j}:DE X l (.Constant (.int i) j Y) (cI i):=mQ Px (ms i)
def zq {j}:DE X l (.Constant (.bool i) j Y) (cB i):=mQ Py (lv i)
def Ji {j}:DE X l (.Constant .none j Y) cN:=mQ K4 Sb
def JM {j} (h:x.length<=aP:=by decide):DE X l (.Constant (.str x) j Y) (cS x):=mQ Pz (CU x h)
def LB (d:Gl X x) (g:X.mg x=some (.int i t)) (h:YU x:=by decide):DE X l (.Name x Y) (cI i):=
 mQ (U0 (v:= .int i) d g ⟨t,rfl⟩ h) (ms i)
def Sd (d:Gl X x) (g:X.mg x=some (.str y t)) (h:y.length<=aP:=by decide) (i:YU x:=by decide):DE X l (.Name x Y) (cS y):=
 mQ (U0 (v:= .str y) d g ⟨t,rfl⟩ i) (CU y h)
def fJ (K:aC) (r:R2) (g:D->D->al D):Prop:= ∀(x y:V) (H:Hp) (a b d:D) (Q:VK),aL K Any H x a->aL K Any H y b->g a b= .ok d->(∀v,Sc K v d->Q v H)->r x y H Q
def sE (K:aC) (r:R2) (g:D->D->al D):Prop:= ∀(A:Vi) (x y:V) (H:Hp) (a b d:D) (Q:VK),aL K A H x a->aL K A H y b->g a b= .ok d->(∀v h,ao H h->aL K (λc=>H c=none\/A c) h v d->be H v->Q v h)->r x y H Q
def ap (O U:T1) (g:D->D->al D):Sl->al D:=λd=>O d>>=λx=>U d>>=λy=>g x y
def Ff {K:aC} (E:fJ K r g) (h:tE K l (ap O U g) I H Q):wh r (tE K L O) (tE K J U) I H Q:=by
 obtain ⟨G,n,i,d,k,j,q⟩:=h;obtain ⟨a,e1,j⟩:=jd j;obtain ⟨b,e2,e3⟩:=jd j;refine ⟨G,n,i,a,k,e1,λx H1 p r1 _=>⟨G,n,i,b,k.am p,e2,λy w z r2 _=>?_⟩⟩;exact E x y w a b d Q ((r1.am z).aE Lv.bf) (r2.aE Lv.bf) e3 λv B=>q v w (p.trans z) (B.1 _ _) B.T
def Sg {K:aC} (E:sE K r g) (h:tE K .t (ap O U g) I H Q):wh r (tE K .s O) (tE K .s U) I H Q:=by
 obtain ⟨G,p,i,d,k,j,q⟩:=h;obtain ⟨a,e1,j⟩:=jd j;obtain ⟨b,e2,e3⟩:=jd j;refine ⟨G,p,i,a,k,e1,λx H1 w r1 _=>⟨G,p,i,b,k.am w,e2,λy H2 B r2 _=>?_⟩⟩;have n:=w.trans B;exact E _ x y H2 a b d Q (r1.am B) r2 e3 λv H3 s3 r3 nt=>q v H3 (n.trans s3) (r3.aE λc z=>z.elim (λz=>k.new c (ao.free n z)) λz=>z) (nt.am n)
def kM (d:ck X (gw i) r) (j:fJ X.K r g) (n:DE X L a O) (p:DE X J b U):DE X l (.BinOp a i b Y) (ap O U g):=by
 with_unfolding_all exact (
  PE.imp (EC d n p) λ_ _ _ h=>Ff j h)
def jI (d:ck X (gw i) r) (j:sE X.K r g) (n:DE X .s a O) (p:DE X .s b U):DE X .t (.BinOp a i b Y) (ap O U g):=by
 with_unfolding_all exact (
  PE.imp (EC d n p) λ_ _ _ h=>Sg j h)
def uF (i:ck X (gV d) r) (j:fJ X.K r g) (n:DE X L a O) (p:DE X J b U) (q:r0 d b=false:=by first|exact EF _| (with_unfolding_all rfl)):DE X l (.Compare a [d] [b] Y) (ap O U g):=by
 with_unfolding_all exact (
  PE.imp (Lj i n p q) λ_ _ _ h=>Ff j h)
def aW (f:T1):Sl->al Bool:=λg=>f g>>=λd=>match d with
 | .bl b=> .ok b
 |_=> .aj
def Sh {b:Bool} (h:aW f env= .ok b):f env= .ok (.bl b):=by
 obtain ⟨d,e1,e2⟩:=jd h
 cases d with
 |bl c=>cases e2;exact e1
 |_=>cases e2
def UJ {K:aC} (i: ∀d H Q,tE K l f d H Q->t d H Q) (h:tT K (aW f) d H Q):EG t d H Q:=by
 obtain ⟨G,j,g,b,k,n,q⟩:=h;refine i d H _ ⟨G,j,g,.bl b,k,Sh n,λv p s r _=>⟨b,r.sC,q p s⟩⟩
def j9 (i:ck X (gV d) r) (j:fJ X.K r g) (n:DE X L a O) (p:DE X J b U) (q:r0 d b=false:=by first|exact EF _| (with_unfolding_all rfl)):DT X (.Compare a [d] [b] Y) (aW (ap O U g)):=by
 with_unfolding_all exact (
  PT.imp (QC i n p q) λ_ _ _ h=>UJ (l:= .b) (λ_ _ _ h=>Ff j h) h)
def Zv (O U u:T1) (g h:D->D->al D):Sl->al D:=λd=>O d>>=λx=>U d>>=λy=>g x y>>=λz=>match z with
 | .bl true=>u d>>=λw=>h y w
 | .bl false=> .ok (.bl false)
 |_=> .aj
def vk {K:aC} (hr:fJ K r g) (E:fJ K r' g') (h:tE K l (Zv O U u g g') σ H Q):EH r r' (tE K L O) (tE K J U) (tE K l3 u) σ H Q:=by
 obtain ⟨G,I,i,d,k,j,q⟩:=h;obtain ⟨a,e1,j⟩:=jd j;obtain ⟨b,e2,j⟩:=jd j;obtain ⟨z,e3,e4⟩:=jd j;refine ⟨G,I,i,a,k,e1,λx H1 n r1 _=>⟨G,I,i,b,k.am n,e2,λy H2 p r2 _=>?_⟩⟩;refine hr x y H2 a b z _ ((r1.am p).aE Lv.bf) (r2.aE Lv.bf) e3 λv B=>?_
 cases z with
 |bl t=>
  refine ⟨t,(B.1 Any H2).sC,?_⟩
  cases t with
  |false=>
   cases e4;rw [if_neg gd];exact q _ H2 (n.trans p) (.bl false) (lv (K:=K) false).T
  |true=>
   obtain ⟨w,e5,e6⟩:=jd e4;rw [if_pos rfl];refine ⟨G,I,i,w,(k.am n).am p,e5,λy' H4 s4 r4 _=>?_⟩;refine E y y' H4 b w d Q ((r2.am s4).aE Lv.bf) (r4.aE Lv.bf) e6 λv B=>q v H4 (n.trans (p.trans s4)) (B.1 _ _) B.T
 |_=>cases e4
def KM (p:ck X (gV n) r) (q:fJ X.K r g) (i:ck X (gV d) v) (j:fJ X.K v w) (y:DE X L a O) (z:DE X J b U) (B:DE X H c u)
   (E:lastMarks [n,d] [b,c]=false:=by with_unfolding_all rfl):DE X l (.Compare a [n,d] [b,c] Y) (Zv O U u g w):=by
 with_unfolding_all exact (
  PE.imp (QM p i y z B E) λ_ _ _ h=>vk q j h)
def uw (p:ck X (gV n) r) (q:fJ X.K r g) (i:ck X (gV d) v) (j:fJ X.K v w) (y:DE X L a O) (z:DE X J b U) (B:DE X H c u)
   (E:lastMarks [n,d] [b,c]=false:=by with_unfolding_all rfl):DT X (.Compare a [n,d] [b,c] Y) (aW (Zv O U u g w)):=by
 with_unfolding_all exact (
  PT.imp (QN p i y z B E) λ_ _ _ h=>UJ (l:= .b) (λ_ _ _ h=>vk q j h) h)
def qY (h:DE X l e f) (d: ∀whole,isTrue e X.env whole=(do let v<-whole;nw e.pos;mE [v] (truthy v)):=by intro _;rfl):DT X e (aW f):=by
 with_unfolding_all exact (
  PT.imp (El h d) λ_ _ _ h=>UJ (λ_ _ _ h=>h) h)
def LC:D->al Bool
 | .aU=> .ok false
 | .bl b=> .ok b
 | .int i=> .ok (i !=0)
 | .str x=> .ok ((x.length:Int) !=0)
 | .ak d=> .ok (!d.isEmpty)
 | .ai d=> .ok (!d.isEmpty)
 | .eN d=> .ok (!d.isEmpty)
 | .aQ _ _=> .aj
 | .bP _ _=> .aj
 | .du _=> .aj
 | .fq _ _=> .aj
 | .ii _ _=> .aj
 | .obj _ _ _=> .aj
 | .mem _ _=> .aj
 | .dn _=> .aj
def Si {K:aC} {b:Bool} (r:aL K A H v d) (h:LC d= .ok b):r8 K v H b:=by
 have r:=r.f;cases d<;>cases h
 . cases r;rfl
 . cases r;rfl
 . cases r;rfl
 . cases r.1;exact ⟨r.2,rfl⟩
 . obtain ⟨_,_,rfl,e,r⟩:=r;exact .inr (.inl ⟨_,.of e,by rw [r.isEmpty]⟩)
 . obtain ⟨_,_,rfl,e,_,r⟩:=r;exact .inl ⟨_,.of e,by rw [r.isEmpty]⟩
 . obtain ⟨_,_,rfl,e,r⟩:=r;exact .inl ⟨_,e.nW,by rw [r.isEmpty]⟩
def mR (f:T1):Sl->al Bool:=λd=>f d>>=LC
def LD (h:DE X l e f) (i: ∀whole,isTrue e X.env whole=(do let v<-whole;nw e.pos;mE [v] (truthy v)):=by intro _;rfl):DT X e (mR f):=by
 with_unfolding_all exact (
  PT.imp (QQ h i) λw H Q=>by
   rintro ⟨G,j,g,b,k,n,q⟩;obtain ⟨d,e1,e2⟩:=jd n
   exact ⟨G,j,g,d,k,e1,λv p s r _=>⟨b,Si r e2,q p s⟩⟩)
section
variable {g z g2:T0} {rest:List Expr}
def bx (g:T0):Sl->al Bool:=λd=>g d>>=λb=> .ok (!b)
def we (h:DT X a g):DT X (.UnaryOp .Not a Y) (bx g):=by
 with_unfolding_all exact (
  PT.imp (La h) λp H Q=>by
   rintro ⟨G,j,i,b,k,n,q⟩;obtain ⟨d,e1,e2⟩:=jd n;cases e2
   exact ⟨G,j,i,d,k,e1,q⟩)
@[irreducible] def DW (X:Cx) (e:Expr) (f:T0):Prop:=PW X e (tT X.K f)
theorem PW.imp (h:PW X e t) (w: ∀d H Q,j d H Q->t d H Q):PW X e j:=λn i s d H Q I q=>h n i s d H Q I (w d H Q q)
def DW.dt (h:DW X e g):DT X e g:=by
 with_unfolding_all exact (PW.pt h)
def KC (h:DT X a g):DW X (.BoolOp .And [a] Y) g:=by
 with_unfolding_all exact (PD h)
def Qh (h:DT X a g):DW X (.BoolOp .Or [a] Y) g:=by
 with_unfolding_all exact (PF h)
def iE (z g2:T0):Sl->al Bool:=λd=>z d>>=λb=>if b=true then g2 d else .ok false
def g8 (z g2:T0):Sl->al Bool:=λd=>z d>>=λb=>if b=true then .ok true else g2 d
def uv (j:DT X a z) (n:DW X (.BoolOp .And (b::rest) Y) g2):DW X (.BoolOp .And (a::b::rest) Y) (iE z g2):=by
 with_unfolding_all exact (
  PW.imp (PH j n) λB H Q=>by
   rintro ⟨G,i,h,r,k,p,q⟩;obtain ⟨d,e1,e2⟩:=jd p;refine ⟨G,i,h,d,k,e1,λv s=>?_⟩
   cases d with
   |true=>rw [if_pos rfl] at e2 ⊢;exact ⟨G,i,h,r,k.am s,e2,λw y=>q w (s.trans y)⟩
   |false=>rw [if_neg gd] at e2 ⊢;cases e2;exact q v s)
def We (j:DT X a z) (n:DW X (.BoolOp .Or (b::rest) Y) g2):DW X (.BoolOp .Or (a::b::rest) Y) (g8 z g2):=by
 with_unfolding_all exact (
  PW.imp (PJ j n) λB H Q=>by
   rintro ⟨G,i,h,r,k,p,q⟩;obtain ⟨d,e1,e2⟩:=jd p;refine ⟨G,i,h,d,k,e1,λv s=>?_⟩
   cases d with
   |false=>rw [if_neg gd] at e2 ⊢;exact ⟨G,i,h,r,k.am s,e2,λw y=>q w (s.trans y)⟩
   |true=>rw [if_pos rfl] at e2 ⊢;cases e2;exact q v s)
def nY (f:T1) (g:T1) (w:Bool):Sl->al D:=λh=>f h>>=λd=>match d with
 | .bl b=>if b=w then g h else .ok (.bl b)
 |_=> .aj
def YD {d} (h:DE X l a f):DE X l (.BoolOp d [a] Y) f:=by
 with_unfolding_all exact (PM h)
def YF (j:DE X L a O) (n:DE X l (.BoolOp .And (b::rest) Y) U):DE X l (.BoolOp .And (a::b::rest) Y) (nY O U true):=by
 with_unfolding_all exact (
  PE.imp (PN j n) λσ H Q=>by
   rintro ⟨G,i,h,r,k,p,q⟩;obtain ⟨d,e1,e2⟩:=jd p;refine ⟨G,i,h,d,k,e1,λv w s y _=>?_⟩
   cases d with
   |bl t=>
    refine ⟨t,y.sC,?_⟩
    cases t with
    |true=>exact ⟨G,i,h,r,k.am s,e2,λv B E I nt=>q v B (s.trans E) I (Lv.nX s nt)⟩
    |false=>cases e2;exact q _ w s (.bl false) (lv (K:=X.K) false).T
   |_=>cases e2)
def A3:D->al D
 | .bl b=> .ok (.bl (!b))
 |_=> .aj
def pM (f:T1):Sl->al D:=λd=>f d>>=A3
def Fg (h:DE X L a f):DE X l (.UnaryOp .Not a Y) (pM f):=by
 with_unfolding_all exact (
  PE.imp (PP h) λy H Q=>by
   rintro ⟨G,j,i,r,k,n,q⟩;obtain ⟨d,e1,e2⟩:=jd n;refine ⟨G,j,i,d,k,e1,λv p s w _=>?_⟩
   cases d with
   |bl t=>cases e2;exact ⟨t,w.sC,q _ p s (.bl _) (lv (K:=X.K) _).T⟩
   |_=>cases e2)
def Fh (g:T0) (O U:T1):Sl->al D:=λd=>g d>>=λb=>if b=true then O d else U d
def LF (y:DT X c g) (B:DE X l a O) (E:DE X l b U):DE X l (.IfExp c a b Y) (Fh g O U):=by
 with_unfolding_all exact (
  PE.imp (vK y B E) λσ H Q=>by
   rintro ⟨G,i,h,r,k,I,q⟩;obtain ⟨d,e1,e2⟩:=jd I;refine ⟨G,i,h,d,k,e1,λH' s=>?_⟩
   cases d with
   |true=>rw [if_pos rfl] at e2 ⊢;exact ⟨G,i,h,r,k.am s,e2,λv j n p w=>q v j (s.trans n) p (Lv.nX s w)⟩
   |false=>rw [if_neg gd] at e2 ⊢;exact ⟨G,i,h,r,k.am s,e2,λv j n p w=>q v j (s.trans n) p (Lv.nX s w)⟩)
end
def jb (f:T1) (g:TY):Sl->al (List D):=λh=>f h>>=λd=>g h>>=λi=> .ok (d::i)
def ae:Sl->al (List D):=λ_=> .ok []
def jc:DA X l [] ae:=by
 with_unfolding_all exact (PA.imp wo λi H Q=>by rintro ⟨G,j,g,d,k,h,q⟩;cases h;exact q [] H (ao.refl H) .nil)
def ja (r:DE X l e f) (w:DA X l N g) (y:UO X e N:=by exact jm rfl):DA X l (e::N) (jb f g):=by
 with_unfolding_all exact (
  PA.imp (qc r w y) λσ H Q=>by
   rintro ⟨G,j,h,ds,k,z,q⟩;obtain ⟨d,e1,e2⟩:=jd z;obtain ⟨i,B,E⟩:=jd e2;cases E
   exact ⟨G,j,h,d,k,e1,λv H1 n I _=>⟨G,j,h,i,k.am n,B,λvs H2 p r2=>q _ H2 (n.trans p) (.cons (I.am p) r2)⟩⟩)
def qK (s:ao H g) (d:g p=none):be H (.ref p):=λa e o q=>by
 cases e;rw [s _ _ q] at d;cases d
def aD (g:TY):Sl->al D:=λd=>g d>>=λh=>aY (h.length<=aP) (.ok (.ak h))
def aS (g:TY):Sl->al D:=λd=>g d>>=λh=>aY (h.length<=aP) (.ok (.ai h))
def jC {v} (h:DA X .s N g):DE X .t (.Tuple N v Y) (aD g):=by
 with_unfolding_all exact (
  PE.imp (Lk h) λI H Q=>by
   rintro ⟨G,w,i,d,k,y,q⟩;obtain ⟨z,e1,e2⟩:=jd y;obtain ⟨B,E⟩:=jv e2;cases E;refine ⟨G,w,i,z,k,e1,λvs H1 n r=>⟨by rw [r.length];exact B,λp j=>?_⟩⟩
   exact q _ _ (n.trans (ao.aH j)) (.ak ju (r.am (ao.aH j))) (qK n j))
def jQ (h:DA X .s N g):DE X .t (.List N Y) (aS g):=by
 with_unfolding_all exact (
  PE.imp (Ro h) λE H Q=>by
   rintro ⟨G,v,j,d,k,w,q⟩;obtain ⟨y,e1,e2⟩:=jd w;obtain ⟨z,B⟩:=jv e2;cases B;refine ⟨G,v,j,y,k,e1,λI H1 n r=>⟨by rw [r.length];exact z,λp i=>?_⟩⟩
   exact q _ _ (n.trans (ao.aH i)) (.ai ju (k.new p (ao.free n i)) (r.laid i)) (qK n i))
def A4 (K:aC) (r:List V->Hp->VK->Prop) (g:TX):Prop:= ∀(h:List V) (H:Hp) (i:List D) (d:D) (Q:VK),au K Any H h i->g i= .ok d->(∀v,Sc K v d->Q v H)->r h H Q
def Uz (K:aC) (r:List V->Hp->VK->Prop) (g:TX):Prop:= ∀(A:Vi) (i:List V) (H:Hp) (j:List D) (d:D) (Q:VK),au K A H i j->g j= .ok d->(∀v h,ao H h->aL K (λc=>H c=none\/A c) h v d->be H v->Q v h)->r i H Q
def app (f:TY) (g:TX):Sl->al D:=λd=>f d>>=g
def Sj {K:aC} (w:A4 K r g) (h:tE K l' (app y g) z H Q):CJ r (tA K l y) z H Q:=by
 obtain ⟨G,B,i,d,k,E,q⟩:=h;obtain ⟨j,e1,e2⟩:=jd E;refine ⟨G,B,i,j,k,e1,λI n s1 r1=>?_⟩;exact w I n j d Q (r1.aE Lv.bf) e2 λv p=>q v n s1 (p.1 _ _) p.T
def LG {K:aC} (p:Uz K r g) (h:tE K .t (app w g) y H Q):CJ r (tA K .s w) y H Q:=by
 obtain ⟨G,B,i,d,k,E,q⟩:=h;obtain ⟨n,e1,e2⟩:=jd E;refine ⟨G,B,i,n,k,e1,λI H1 j r1=>?_⟩;exact p _ I H1 n d Q r1 e2 λv H2 s2 r2 nt=>q v H2 (j.trans s2) (r2.aE λc z=>z.elim (λz=>k.new c (ao.free j z)) λz=>z) (nt.am j)
section
variable {x:Str} {id T:String} {p:Pos} {r:List V->Hp->VK->Prop} {g:TX} {q:TY}
def j6 (j:bC X (.builtin id) r) (n:A4 X.K r g) (v:Gl X x) (w:X.mg x=none) (y:lD x=some (.builtin id))
   (z:DA X l (e::N) q) (B:x≠ "__name__" :=by decide) (d:YU x:=by decide)
   (E:UO X e N:=by exact jm rfl) (i:UN X Y N:=by exact jS rfl):DE X l' (.Call (.Name x p) (e::N) [] Y) (app q g):=by
 with_unfolding_all exact (
  PE.imp (Q4 j v w y z B d E i) λ_ _ _ h=>Sj n h)
def wR (j:bC X (.type T) r) (n:Uz X.K r g) (v:Gl X x) (w:X.mg x=none) (y:lD x=some (.type T))
   (z:DA X .s (e::N) q) (B:x≠ "__name__" :=by decide) (d:YU x:=by decide)
   (E:UO X e N:=by exact jm rfl) (i:UN X Y N:=by exact jS rfl):DE X .t (.Call (.Name x p) (e::N) [] Y) (app q g):=by
 with_unfolding_all exact (
  PE.imp (Xc j v w y z B d E i) λ_ _ _ h=>LG n h)
end
def nD (K:aC) (j:Bool) (n:Nat) (F:TX):Sp:=λh H Q _=> ∃B i d,h.length=n/\au K B H h i/\F i= .ok d/\ ∀v g,ao H g->aL K (λa=>H a=none\/B a) g v d->(j=true->be H v)->Q v g
def jj (n:Nat) (F:TX) (g:TY):Sl->al D:=λd=>g d>>=λh=>aY (h.length=n) (F h)
section
variable {CX:nA} {k:Nat} {x:Str} {h:Addr} {fd:mH} {ps:List Str} {p:Pos} {n:Nat} {F:TX} {E:XK} {g:TY} {fr:Bool}
def Sk (G:bX X.prog X.w X.K X.mg X.af CX k h fd ps (nD X.K fr n F)) (I:aI k X.A) (hg:Gl X x) (hm:X.mg x=some (.ref h)) (hk:iZ X.K (.ref h)=true) (hb:Binds X.K fd ps []) (hx:Zz CX X E)
   (ha:DA X .s (e::N) g) (i:YU x:=by decide) (he:UO X e N:=by exact jm rfl) (j:UN X Y N:=by exact jS rfl):
   DE X .s (.Call (.Name x p) (e::N) [] Y) (jj n F g):=by
 with_unfolding_all exact (
  PE.imp (U1 G I hg hm hk hb .nil hx ha i he j) λσ H Q=>by
   rintro ⟨GG,H0,r,d,k,ef,q⟩;obtain ⟨w,e1,e2⟩:=jd ef;obtain ⟨hn,e3⟩:=jv e2;refine ⟨GG,H0,r,w,k,e1,λvs H1 y B=>?_⟩;show nD X.K fr n F (vs++[]) H1 Q E;rw [nS]
   exact ⟨_,w,d,by rw [B.length];exact hn,B,e3,λv H2 s2 r2 _=>q v H2 (y.trans s2) (r2.aE λc z=>z.elim (λz=>k.new c (ao.free y z)) λz=>z) trivial⟩)
def Sm (G:bX X.prog X.w X.K X.mg X.af CX k h fd ps (nD X.K true n F)) (I:aI k X.A) (hg:Gl X x) (hm:X.mg x=some (.ref h)) (hk:iZ X.K (.ref h)=true) (hb:Binds X.K fd ps []) (hx:Zz CX X E)
   (ha:DA X .s (e::N) g) (i:YU x:=by decide) (he:UO X e N:=by exact jm rfl) (j:UN X Y N:=by exact jS rfl):
   DE X .t (.Call (.Name x p) (e::N) [] Y) (jj n F g):=by
 with_unfolding_all exact (
  PE.imp (U1 G I hg hm hk hb .nil hx ha i he j) λσ H Q=>by
   rintro ⟨GG,H0,r,d,k,ef,q⟩;obtain ⟨y,e1,e2⟩:=jd ef;obtain ⟨hn,e3⟩:=jv e2;refine ⟨GG,H0,r,y,k,e1,λvs H1 w B=>?_⟩;show nD X.K true n F (vs++[]) H1 Q E;rw [nS]
   exact ⟨_,y,d,by rw [B.length];exact hn,B,e3,λv H2 s2 r2 nt=>q v H2 (w.trans s2) (r2.aE λc z=>z.elim (λz=>k.new c (ao.free w z)) λz=>z) ((nt rfl).am w)⟩)
end
def aX:D->D->al D
 | .ai g,.int i=>match gQ g i with
  |some d=> .ok d
  |none=> .aj
 | .eN g,.int i=>match gQ g i with
  |some d=> .ok d
  |none=> .aj
 | .ak g,.int i=>match gQ g i with
  |some d=> .ok d
  |none=> .aj
 | .str z,.int i=>match gQ z.cps.toList i with
  |some c=> .ok (.str ⟨#[c]⟩)
  |none=> .aj
 |_,_=> .aj
def KR {K:aC} (r:au K A H g ds) (h:gQ ds i=some d): ∃v,gQ g i=some v/\aL K A H v d:=by
 unfold gQ at h ⊢;rw [r.length]
 cases e:pG ds.length i with
 |none=>rw [e] at h;cases h
 |some j=>rw [e] at h;exact r.get h
def Sn (c:Nat):(⟨#[c]⟩:Str).length<=aP:=by show 1<=aP;decide
def LH {a b:D} (n:aL X.K A H x a) (w:aL X.K Any H y b) (h:aX a b= .ok d) (q: ∀v,aL X.K A H v d->Q v H):Lp X.K x y H Q:=by
 unfold aX at h
 split at h
 . split at h
   . cases h;cases w.cL;obtain ⟨p,g,rfl,i,_,r⟩:=n.cK;obtain ⟨v,e2,j⟩:=KR r.low ‹_›;exact .inl ⟨p,g,_,v,rfl,rfl,.of i,e2,q v j⟩
   . cases h
 . split at h
   . cases h;cases w.cL;obtain ⟨p,g,rfl,i,r⟩:=n.mL;obtain ⟨v,e2,j⟩:=KR r ‹_›;exact .inl ⟨p,g,_,v,rfl,rfl,i.nW,e2,q v j⟩
   . cases h
 . split at h
   . cases h;cases w.cL;obtain ⟨p,g,rfl,i,r⟩:=n.dH;obtain ⟨v,e2,j⟩:=KR r ‹_›;exact .inr (.inl ⟨p,g,_,v,rfl,rfl,.of i,e2,q v j⟩)
   . cases h
 . split at h
   . cases h;cases w.cL;obtain ⟨rfl,z⟩:=n.j4;exact .inr (.inr ⟨_,_,_,rfl,rfl,z,‹_›,q _ (.str _ (by show 1<=aP;decide))⟩)
   . cases h
 . cases h
def qo (p:DE X .s a O) (r:DE X J b U) (w:KY b:=by intro _ _;rfl):DE X .s (.Subscript a b Y) (ap O U aX):=by
 with_unfolding_all exact (
  PE.imp (EZ Lq p r w) λσ H Q=>by
   rintro ⟨G,i,g,d,k,h,q⟩;obtain ⟨z,e1,h⟩:=jd h;obtain ⟨B,e2,E⟩:=jd h;refine ⟨G,i,g,z,k,e1,λx H1 j I _=>⟨G,i,g,B,k.am j,e2,λy H2 n r2 _=>?_⟩⟩
   exact LH (I.am n) (r2.aE Lv.bf) E λv r3=>q v H2 (j.trans n) r3 trivial)
@[irreducible] def DO (X:Cx) (e:Option Expr) (f:Sl->al (Option Int)):Prop:=PO X e (λh H Q=> ∃G j d i,ax X.K G j d h H/\f d= .ok i/\ ∀g,ao H g->Q i g)
theorem PO.imp {e:Option Expr} (h:PO X e t) (w: ∀d H Q,i d H Q->t d H Q):PO X e i:=λg s d H Q I q=>h g s d H Q I (w d H Q q)
def zZ:Sl->al (Option Int):=λ_=> .ok none
def zj:DO X none zZ:=by
 with_unfolding_all exact (PO.imp RD λh H Q=>by rintro ⟨G,j,d,i,k,g,q⟩;cases g;exact q H (ao.refl H))
def LI:D->al (Option Int)
 | .int i=> .ok (some i)
 |_=> .aj
def zU (f:T1):Sl->al (Option Int):=λd=>f d>>=LI
def zi (h:DE X l e f):DO X (some e) (zU f):=by
 with_unfolding_all exact (PO.imp (RE h) λy H Q=>by
  rintro ⟨G,n,g,i,k,p,q⟩;obtain ⟨d,e1,e2⟩:=jd p
  cases d with
  |int j=>cases e2;exact ⟨G,n,g,.int j,k,e1,λv w s r _=>⟨j,r.cL,q w s⟩⟩
  |_=>cases e2)
def cutD (ds:List D) (lo d:Option Int):List D:=(ds.drop (HT.bG ds.length 0 lo)).take (HT.bG ds.length ds.length d-HT.bG ds.length 0 lo)
def kO {K:aC} {lo:Option Int} (r:au K A H d ds):au K A H (mI d lo g) (cutD ds lo g):=by
 unfold mI cutD;rw [r.length];exact (r.drop _).take _
def qv (f:T1) (h i:Sl->al (Option Int)) (g:D->Option Int->Option Int->al D):Sl->al D:=λd=>f d>>=λa=>h d>>=λlo=>i d>>=λj=>g a lo j
end
section
variable {K:aC} {G:Vi} {H0 H H1 H':Hp} {env env':Sl} {σ gy:L2.St} {i:Nat} {d:D} {v:V}
def jq {a:Type} {l:List a} {x:a} (h:i≠j):(l.set i x)[j]?=l[j]?:=Cy h
def jy {a:Type} {l:List a} {x y:a} (h:(l.set i x)[i]?=some y):y=x/\i<l.length:=by
 have c:i<l.length:=by
  have:=(ic.mp h).1;simpa using this
 rw [rS c] at h;exact ⟨(fY h).symm,c⟩
def Xg {s:Slot} {a:Addr} (h:zV (env.set i s) (σ.set i (some v)) a):zV env σ a\/(∃d,s= .aw d/\v= .ref a):=by
 obtain ⟨j,d,c,g⟩:=h
 by_cases e:i=j
 . subst e;obtain ⟨l,_⟩:=jy c;obtain ⟨n,_⟩:=jy g;exact .inr ⟨d,l.symm,(fY n).symm⟩
 . rw [jq e] at c g;exact .inl ⟨j,d,c,g⟩
def ax.gz (k:ax K G H0 env σ H) (r:aL K (Sf G env σ) H v d):ax K G H0 (env.set i (.ah d)) (σ.set i (some v)) H:=by
 have w: ∀a,Sf G env σ a->Sf G (env.set i (.ah d)) (σ.set i (some v)) a:=λa n=>⟨λo=>(by
   rcases Xg o with z| ⟨I,z,_⟩
   . exact n.1 z
   . cases z),n.2⟩
 refine ⟨by simp [k.len],k.af,k.g0,λj e h=>?_,λj e h=>?_,λj g e u a h1 h2 l p=>?_⟩
 . by_cases z:i=j
   . subst z;obtain ⟨q,hl⟩:=jy h;cases q;exact ⟨v,rS (by rw [k.len];exact hl),r.aE w⟩
   . rw [jq z] at h ⊢;obtain ⟨c,h1,h2⟩:=k.ah j e h;exact ⟨c,h1,h2.aE w⟩
 . by_cases z:i=j
   . subst z;obtain ⟨q,hl⟩:=jy h;cases q
   . rw [jq z] at h ⊢;obtain ⟨c,h1,y,h2⟩:=k.aw j e h;exact ⟨c,h1,y,h2.a5 (λ_ _ e _=>e) w λ_ e=>e⟩
 . have B:i≠j:=λz=>by subst z;obtain ⟨q,_⟩:=jy h1;cases q
   have E:i≠g:=λz=>by subst z;obtain ⟨q,_⟩:=jy h2;cases q
   rw [jq B] at h1 l;rw [jq E] at h2 p;exact k.nB j g e u a h1 h2 l p
def Y2:D->Bool
 | .ai _=>true
 | .aQ _ _=>true
 | .bP _ _=>true
 | .obj _ _ _=>true
 | .dn _=>true
 |_=>false
def U2 (r:aL K A H v d) (h:Y2 d=true): ∃a,v= .ref a/\A a/\(∃o,H a=some o/\nv (some o))/\Top K (λc=>A c/\c≠a) H a d:=by
 have r:=r.f;cases d<;>cases h
 . obtain ⟨_,_,rfl,e,a,r⟩:=r;exact ⟨_,rfl,a,⟨_,e,trivial⟩,.ai e r⟩
 . obtain ⟨_,_,rfl,e,a,k,r⟩:=r;exact ⟨_,rfl,a,⟨_,e,trivial⟩,.aQ e k rfl r⟩
 . obtain ⟨_,_,rfl,e,a,k,r⟩:=r;exact ⟨_,rfl,a,⟨_,e,trivial⟩,.bP e k rfl r⟩
 . obtain ⟨_,_,_,_,rfl,e,a,k,l,r⟩:=r;exact ⟨_,rfl,a,⟨_,e,trivial⟩,.obj e ⟨k,l⟩ rfl r⟩
 . obtain ⟨_,_,rfl,e,a,k,r⟩:=r;exact ⟨_,rfl,a,⟨_,e,trivial⟩,.dn e k rfl r⟩
def So (s:ao H H1) (g:be H (.ref a)) (h: ∃o,H1 a=some o/\nv (some o)):H a=none:=by
 cases e:H a with
 |none=>rfl
 |some o=>
  obtain ⟨l,c,j⟩:=h;rw [s a o e] at c;cases c;exact (g a rfl o e j).elim
def ax.Fi (k:ax K G H0 env σ H) (s:ao H H1) (r:aL K (Sf G env σ) H1 v d) (U:be H v) (hd:Y2 d=true):ax K G H0 (env.set i (.aw d)) (σ.set i (some v)) H1/\ ∃a,v= .ref a/\H a=none:=by
 obtain ⟨a,rfl,ga,mt,top⟩:=U2 r hd;have I:=So s U mt;refine ⟨?_,a,rfl,I⟩
 have w: ∀c,(Sf G env σ c/\c≠a)->Sf G (env.set i (.aw d)) (σ.set i (some (V.ref a))) c:=λc n=>⟨λo=>(by
   rcases Xg o with z| ⟨d',z,l⟩
   . exact n.1.1 z
   . cases l;exact n.2 rfl),n.1.2⟩
 have B: ∀c,(Sf G env σ c/\H c≠none)->Sf G (env.set i (.aw d)) (σ.set i (some (V.ref a))) c:=λc n=>w c ⟨n.1,λe=>n.2 (by rw [e];exact I)⟩
 have Y:=k.am s;refine ⟨by simp [k.len],Y.af,k.g0,λj e h=>?_,λj e h=>?_,λj J e O b h1 h2 L E=>?_⟩
 . by_cases z:i=j
   . subst z;obtain ⟨q,hl⟩:=jy h;cases q
   . rw [jq z] at h ⊢;obtain ⟨N,h1,h2⟩:=k.ah j e h;exact ⟨N,h1,(h2.cu.am s).aE B⟩
 . by_cases z:i=j
   . subst z;obtain ⟨q,hl⟩:=jy h;cases q;exact ⟨a,rS (by rw [k.len];exact hl),ao.free k.af I,top.a5 (λ_ _ e _=>e) w λ_ e=>e⟩
   . rw [jq z] at h ⊢;obtain ⟨N,h1,h0,h2⟩:=k.aw j e h;refine ⟨N,h1,h0,?_⟩
     cases h2 with
     |ai e2 g=>exact .ai (s _ _ e2) ((g.cu.am s).aE B)
     |aQ e2 p y g=>exact .aQ (s _ _ e2) p y ((g.cu.am s).aE B)
     |bP e2 p y g=>exact .bP (s _ _ e2) p y ((g.cu.am s).aE B)
     |obj e2 p y g=>exact .obj (s _ _ e2) p y ((g.cu.am s).aE B)
     |dn e2 p y g=>exact .dn (s _ _ e2) p y ((g.cu.am s).aE B)
 . have new: ∀(j:Nat) (e:D),env[j]?=some (.aw e)->σ[j]?=some (some (.ref a))->False:=λj e q1 q2=>by
     obtain ⟨u,q⟩:=k.there ⟨j,e,q1,q2⟩;rw [I] at q;cases q
   by_cases Q:i=j
   . subst Q
     by_cases l:i=J
     . exact l
     . rw [jq l] at h2 E;obtain ⟨q,_⟩:=jy L;cases q;exact (new J O h2 E).elim
   . rw [jq Q] at h1 L
     by_cases l:i=J
     . subst l;obtain ⟨q,_⟩:=jy E;cases q;exact (new j e h1 L).elim
     . rw [jq l] at h2 E;exact k.nB j J e O b h1 h2 L E
def a9.set (c:ao H H1) (fresh: ∀a d,s= .aw d->v= .ref a->H a=none):a9 env σ H (env.set i s) (σ.set i (some v)) H1:=
 ⟨λb o e _=>c b o e,λb o=>by
  rcases Xg o with z| ⟨g,z,h⟩
  . exact .inl z
  . exact .inr (fresh b g z h),λb e=>ao.free c e⟩
def a9.sf (f:a9 env σ H env' gy H'): ∀a,(Sf G env σ a/\H a≠none)->Sf G env' gy a:=λa z=>⟨λo=>(f.more a o).elim z.1.1 z.2,z.1.2⟩
def a9.st (k:ax K G H0 env σ H) (f:a9 env σ H env' gy H'):fM (λa=>Sf G env σ a/\H a≠none) H H':=λa o e m=>f.keep a o e λc=>(m (k.lQ c e)).1.1 c
def a9.rep (k:ax K G H0 env σ H) (f:a9 env σ H env' gy H') (r:aL K (Sf G env σ) H v d):aL K (Sf G env' gy) H' v d:=r.cu.a5 (f.st k) f.sf
def a9.sF (k:ax K G H0 env σ H) (f:a9 env σ H env' gy H') (r:au K (Sf G env σ) H a ds):au K (Sf G env' gy) H' a ds:=r.cu.a5 (f.st k) f.sf
end
def QS (d:D):Slot:=if Y2 d=true then .aw d else .ah d
def ax.nZ {K:aC} (k:ax K G l env c H) (s:ao H g) (r:aL K (Sf G env c) g v d) (n:be H v):
   ax K G l (env.set i (QS d)) (c.set i (some v)) g/\a9 env c H (env.set i (QS d)) (c.set i (some v)) g:=by
 unfold QS
 by_cases h:Y2 d=true
 . rw [if_pos h];obtain ⟨z,p,j,o⟩:=k.Fi s r n h;refine ⟨z,.set s λa q _ e=>?_⟩;rw [e] at j;cases j;exact o
 . rw [if_neg h];exact ⟨(k.am s).gz r,.set s λ_ _ z _=>by cases z⟩
def bF:Sl->al aT:=λa=> .ok (.nx a)
def KJ (f:T1):Sl->al aT:=λa=>f a>>=λ_=> .ok (.nx a)
def mS (h:Int->Int->Int) (a b:D):al D:=match a,b with
 | .int m,.int n=> .ok (.int (h m n))
 |_,_=> .aj
def aq (e g2:TZ):Sl->al aT:=λc=>e c>>=λo=>match o with
 | .nx a=>g2 a
 | .rt g d=> .ok (.rt g d)
 | .bk a=> .ok (.bk a)
 | .ct a=> .ok (.ct a)
section
variable {X:Cx} {e c tg:Expr} {st:Stmt} {rest j y:List Stmt} {I:Pos} {l:Lv} {f:T1} {g g1 g2:TZ}
def jR:iD X [] bF:=by
 with_unfolding_all exact (dM.imp UU λE a H=>by
  rintro ⟨G,i,d,o,k,h,q⟩;cases h
  exact q a H k (a9.refl (ao.refl H)))
def Jg {K:aC} (f:a9 env u H h r v) (q:mM K G w env u H E o):mM K G w h r v E o:=by
 cases o with
 |nx e=>exact λa i n p=>q a i n (f.trans p)
 |bk e=>exact λa i n p=>q a i n (f.trans p)
 |ct e=>exact λa i n p=>q a i n (f.trans p)
 |rt z d=>exact q
def je (p:DS X st g1) (r:iD X rest g2):iD X (st::rest) (aq g1 g2):=by
 with_unfolding_all exact (dM.imp (WG p r) λE J H=>by
  rintro ⟨G,i,h,o,k,u,q⟩;obtain ⟨n,e1,e2⟩:=jd u;refine ⟨G,i,h,n,k,e1,?_⟩
  cases n with
  |nx a=>exact λv L w z=>⟨G,i,a,o,w,e2,Jg z q⟩
  |rt N d=>cases e2;exact q
  |bk B=>cases e2;exact q
  |ct B=>cases e2;exact q)
def ji (a:DS X st g1):iD X [st] g1:=by
 with_unfolding_all exact (dM.imp (ZW a) λE d H q=>q)
def aJ (f:T1):Sl->al aT:=λa=>f a>>=λd=> .ok (.rt true d)
def jH (h:DE X .t e f):DS X (.Return (some e) I) (aJ f):=by
 with_unfolding_all exact (PS.imp (Q0 h) λE B H=>by
  rintro ⟨G,n,i,o,k,p,q⟩;obtain ⟨d,e1,e2⟩:=jd p;cases e2
  exact ⟨G,n,i,d,k,e1,λv u s r w=>q v u (k.af.trans s) (r.aE λa z=>z.2) λ_=>be.am k.af w⟩)
def retS (f:T1):Sl->al aT:=λa=>f a>>=λd=> .ok (.rt false d)
def yY (h:DE X .s e f):DS X (.Return (some e) I) (retS f):=by
 with_unfolding_all exact (PS.imp (Q0 h) λE w H=>by
  rintro ⟨G,n,i,o,k,p,q⟩;obtain ⟨d,e1,e2⟩:=jd p;cases e2
  exact ⟨G,n,i,d,k,e1,λv u s r B=>q v u (k.af.trans s) (r.aE λa z=>z.2) λz=>by cases z⟩)
def nE (i:Nat):Sl->al D:=λa=>match a[i]? with
 |some (.aw d)=> .ok d
 |some (.ah d)=>aY (d.j2=true) (.ok d)
 |_=> .aj
def JK (i:Nat) {p:Pos} (L:X.N[i]?=some x:=by rfl) (N:gM X.env.scope x:=by exact eE rfl) (O:YU x:=by decide)
    (u:WV x:=by decide):DS X (.Return (some (.Name x p)) I) (aJ (nE i)):=by
 with_unfolding_all exact (PS.imp (Q0 (xF L N O u)) λE σ H=>by
  rintro ⟨G,H0,Q,o,k,U,q⟩;obtain ⟨d,e1,e2⟩:=jd U;cases e2;unfold nE at e1
  split at e1
  . rename_i Y h;cases e1;obtain ⟨a,n,w,r⟩:=k.aw i d h;refine ⟨.ref a,n,q _ H k.af (r.rep (λc z=>⟨z.2,Ym k h n c z⟩) (k.g0 a w)) λ_ b e o' B=>?_⟩;cases e;rw [w] at B;cases B
  . rename_i Y h;obtain ⟨J,e3⟩:=jv e1;cases e3;obtain ⟨v,n,r⟩:=k.ah i d h;exact ⟨v,n,q v H k.af (r.j2 J) λ_=>Sa k.af r J⟩
  . cases e1)
def bW (t:T0) (g1 g2:TZ):Sl->al aT:=λa=>t a>>=λb=>if b=true then g1 a else g2 a
def zp (h:DT X c t) (i:iD X j g1) (n:iD X y g2):DS X (.If c j y I) (bW t g1 g2):=by
 with_unfolding_all exact (PS.imp (vu h i n) λE r H=>by
  rintro ⟨G,d,a,o,k,p,q⟩;obtain ⟨b,e1,e2⟩:=jd p;refine ⟨G,d,a,b,k,e1,λu s=>?_⟩
  cases b with
  |true=>rw [if_pos rfl] at e2 ⊢;exact ⟨G,d,a,o,k.am s,e2,Jg (a9.refl s) q⟩
  |false=>rw [if_neg gd] at e2 ⊢;exact ⟨G,d,a,o,k.am s,e2,Jg (a9.refl s) q⟩)
def de (i:Nat) (f:T1):Sl->al aT:=λa=>f a>>=λd=> .ok (.nx (a.set i (QS d)))
def xN (i:Nat) {x:Str} {a:Pos} (u:X.N.Nodup) (h:DE X .t e f) (w:X.N[i]?=some x:=by rfl) (z:Loc X.env.scope x:=by exact iC rfl) (B:ix e (some (.Name x a)) I.line X.env=pure false:=by rfl)
   (J:UM X x:=by first|exact .inl rfl|exact .inr rfl|assumption):DS X (.Assign [.Name x a] e I) (de i f):=by
 with_unfolding_all exact (
  PS.imp (vG u w z h B J) λE Q H=>by
   rintro ⟨G,L,n,o,k,N,q⟩;obtain ⟨d,e1,e2⟩:=jd N;cases e2
   exact ⟨G,L,n,d,k,e1,λv O s r p=>q _ O (k.nZ s r p).1 (k.nZ s r p).2⟩)
def jw (i:Nat) (f:T1):Sl->al aT:=λa=>f a>>=λd=> .ok (.nx (a.set i (.ah d)))
def jr (i:Nat) {a:Pos} (p:X.N.Nodup) (h:DE X .s e f) (u:X.N[i]?=some x:=by rfl) (w:Loc X.env.scope x:=by exact iC rfl) (B:ix e (some (.Name x a)) I.line X.env=pure false:=by rfl)
   (J:UM X x:=by first|exact .inl rfl|exact .inr rfl|assumption):DS X (.Assign [.Name x a] e I) (jw i f):=by
 with_unfolding_all exact (
  PS.imp (vG p u w h B J) λE Q H=>by
   rintro ⟨G,L,n,o,k,N,q⟩;obtain ⟨d,e1,e2⟩:=jd N;cases e2
   exact ⟨G,L,n,d,k,e1,λv O s r _=>q _ O ((k.am s).gz r) (.set s λ_ _ z _=>by cases z)⟩)
def LJ (i:Nat) {p:Pos} (J:X.N.Nodup) (L:DE X l e f) (N:Es X O (Lc h)) (Q:X.N[i]?=some x:=by rfl) (U:Loc X.env.scope x:=by exact iC rfl)
   (Y:UM X x:=by first|exact .inl rfl|exact .inr rfl|assumption):
   DS X (.AugAssign (.Name x p) O e I) (jw i (ap (ag i) f (mS h))):=by
 with_unfolding_all exact (
  PS.imp (PY J Q U L N Y) λE σ H=>by
   rintro ⟨G,H0,u,o,k,ef,q⟩;obtain ⟨d,e1,e2⟩:=jd ef;obtain ⟨a,e3,e4⟩:=jd e1;obtain ⟨b,e5,B⟩:=jd e4;cases e2;obtain ⟨v,h1,h2⟩:=k.ah i a (LA e3);refine ⟨v,h1,G,H0,u,b,k,e5,λw H' s r _=>?_⟩
   cases a with
   |int m=>
    cases b with
    |int n=>
     cases B;cases h2.cL;cases r.cL;exact ⟨m,n,rfl,rfl,q _ H' ((k.am s).gz (.int _)) (.set s λ_ _ z _=>by cases z)⟩
    |_=>cases B
   |_=>cases B)
end
def CV (x:Str):It:=⟨λi _=>i<x.cps.size,λi H v a=>a=H/\ ∃c,x.cps[i]?=some c/\v= .str ⟨#[c]⟩,λi _=>x.cps.size<=i⟩
def uY {K:aC} (g:Addr) (x:Str) (t:Tok):Turn P w K tg (CV x) [g] g (λi h=>h.IsStrIter g "str_ascii_iterator" x t i) where
 mem:=by simp
 obj:=λi h st b j=>by
  have e:b=g:=by simpa using j
  subst e;obtain ⟨o,e,c,d⟩:=st;exact ⟨o,e,λv z=>by rw [d] at z;cases z⟩
 keep:=λi h q st k=>let ⟨o,ho,r⟩:=st;⟨o,k g (by simp) o ho,r⟩
 item:=by
  intro X u hw y U i a s Y H E I n st B;subst u hw y;have p:i<x.cps.size:=B;obtain ⟨J,L,f2,N,O,Q⟩:=n g (by simp);refine wpAny_pyNext_ascii_item st (c:=x.cps[i]) (by simp [p]) λq l sb=>?_
  have I1:aA X a Y H {s with heap:=q,toks:=s.toks+1}:=I.turned (λb o j e=>(sb.2 b j).trans e) J L N O Q;obtain ⟨o,e,c,d⟩:=id l;exact ⟨_,rfl,vw e c d (by decide) ⟨.str ⟨#[x.cps[i]]⟩,H,I1,⟨_,rfl⟩,⟨rfl,_,by simp [p],rfl⟩,l,λb j=>(n b j).1⟩⟩
 done:=by
  intro X u hw y U i a s Y H E I n st B;subst u hw y;have p:=B;obtain ⟨J,L,f2,N,O,Q⟩:=n g (by simp);exact wpAny_pyNext_ascii_end (I.ok.hd U) st (by simp;exact p) λq eb=>⟨rfl,I.turned (λb o j e=>eb b o j e) J L N O Q⟩
 self:=λ_ _ _ _ _ st h=>wpAny_pyIter_striter_ascii st h
def Sq {K:aC} (g:Addr) (x:Str) (t:Tok):Turn P w K tg (CV x) [g] g (λi h=>h.IsStrIter g "str_iterator" x t i) where
 mem:=by simp
 obj:=λi h st b j=>by
  have e:b=g:=by simpa using j
  subst e;obtain ⟨o,e,c,d⟩:=st;exact ⟨o,e,λv z=>by rw [d] at z;cases z⟩
 keep:=λi h q st k=>let ⟨o,ho,r⟩:=st;⟨o,k g (by simp) o ho,r⟩
 item:=by
  intro X u hw y U i a s Y H E I n st B;subst u hw y;have p:i<x.cps.size:=B;obtain ⟨J,L,f2,N,O,Q⟩:=n g (by simp);refine wpAny_pyNext_wide_item st (c:=x.cps[i]) (by simp [p]) λq l sb=>?_
  have I1:aA X a Y H {s with heap:=q,toks:=s.toks+1}:=I.turned (λb o j e=>(sb.2 b j).trans e) J L N O Q;obtain ⟨o,e,c,d⟩:=id l;exact ⟨_,rfl,vw e c d (by decide) ⟨.str ⟨#[x.cps[i]]⟩,H,I1,⟨_,rfl⟩,⟨rfl,_,by simp [p],rfl⟩,l,λb j=>(n b j).1⟩⟩
 done:=by
  intro X u hw y U i a s Y H E I n st B;subst u hw y;have p:=B;obtain ⟨J,L,f2,N,O,Q⟩:=n g (by simp);exact wpAny_pyNext_wide_end (I.ok.hd U) st (by simp;exact p) λq eb=>⟨rfl,I.turned (λb o j e=>eb b o j e) J L N O Q⟩
 self:=λ_ _ _ _ _ st h=>wpAny_pyIter_striter_wide st h
def Walk (J:It) (a:List V) (P:Hp->Prop):Prop:= ∀i H,P H->(i<a.length->J.go i H)/\(i<a.length-> ∀x c,J.CA i H x c->c=H/\a[i]?=some x)/\(a.length<=i->J.stop i H)
def Yd (K:aC) (A:Vi) (a H c:Hp) (x:V) (d:D):Prop:=
 (c=H/\aL K A a x d)\/ ∃p e g,H p=none/\x= .ref p/\c=L2.aH H p (.ak e)/\d= .ak g/\au K A a e g
def Fj (K:aC) (A:Vi) (c:Hp) (J:It) (ds:List D) (P:Hp->Prop):Prop:= ∀i H,P H->(i<ds.length->J.go i H)/\(∀d,ds[i]?=some d-> ∀x a,J.CA i H x a->Yd K A c H a x d)/\(ds.length<=i->J.stop i H)
def Walk.toD {K:aC} (c:au K A g j ds) (w:Walk J j P):Fj K A g J ds P:=λi H p=>by
 have hl:=c.length;obtain ⟨l,n,o⟩:=w i H p;refine ⟨λh=>l (by omega),λd hd x q y=>?_,λh=>o (by omega)⟩;have v:=(ic.mp hd).1;obtain ⟨e,u⟩:=n (by omega) x q y;obtain ⟨z,a,r⟩:=c.get' u;rw [hd] at a;cases a;exact .inl ⟨e,r⟩
def tI (K:aC) (f:TY):TI:=λe H R=> ∃G j a h,ax K G j a e H/\f a= .ok h/\
 ∀J c P,ao H c->Fj K (Sf G a e) c J h P->P c->(∀d g i,a9 a e c d g i->P i)->R J c
@[irreducible] def DI (X:Cx) (a e:Expr) (f:TY):Prop:=PI X a e (tI X.K f)
def YS (z:Str):List D:=z.cps.toList.map λc=> .str ⟨#[c]⟩
def A5:D->al (List D)
 | .ai a=> .ok a
 | .eN a=> .ok a
 | .ak a=> .ok a
 | .str z=> .ok (YS z)
 |_=> .aj
def u5 (z:Str):List V:=z.cps.toList.map λc=> .str ⟨#[c]⟩
def Sr {K:aC} (z:Str):au K A H (u5 z) (YS z):=by
 unfold u5 YS;generalize z.cps.toList=l
 induction l with
 |nil=>exact .nil
 |cons c r a=>exact .cons (.str _ (Sn c)) a
section
variable {X:Cx} {B e:Expr} {f:T1} {l:Lv}
def dU (f:T1):Sl->al (List D):=λa=>f a>>=A5
def xc (h:DE X .s e f):DI X B e (dU f):=by
 with_unfolding_all exact (by
  rintro pins s σ H R I ⟨G,H0,O,ds,k,ef,q⟩;obtain ⟨d,e1,e2⟩:=jd ef;refine bi (h pins s σ H (λv u=>ao H u/\aL X.K (Sf G O σ) u v d) I ⟨G,H0,O,d,k,e1,λv L s r _=>⟨s,r⟩⟩) λv w j5=>?_;obtain ⟨x,u,j,r1,sm,rep⟩:=j5
  have k1:=k.am sm
  cases d with
  |ai LK=>
   cases e2;obtain ⟨a,g,rfl,N,na,rs⟩:=rep.cK;cases r1;obtain ⟨nF,rv,p,hz⟩:=j.list (.of N);refine A6 p.isList ?_;refine ⟨w.heap.objs.size,[w.heap.objs.size],_,_,u,rfl,j.kept λb o e=>bI _ e,Vb a _,⟨_,c9 _ rfl,rfl,rfl⟩,λb Q=>?_,?_⟩
   . have e:b=w.heap.objs.size:=by simpa using Q
     subst e;exact j.fb (bg _) (j.aV.fresh (bg _))
   . refine q _ u (λH=>H a=some (.ai g)) sm (Walk.toD rs.low λi L p=>?_) N (λE U L fr=>fr.keep a _ N na.1);exact ⟨λn=>⟨g,g[i],.of p,by simp [n]⟩,λ_ x L y=>⟨y.1,y.2 g (.of p)⟩,λn=>⟨g,.of p,n⟩⟩
  |eN LK=>
   cases e2;obtain ⟨a,g,rfl,N,rs⟩:=rep.mL;cases r1;obtain ⟨nF,rv,p,hz⟩:=j.list N.nW;refine A6 p.isList ?_;refine ⟨w.heap.objs.size,[w.heap.objs.size],_,_,u,rfl,j.kept λb o e=>bI _ e,Vb a _,⟨_,c9 _ rfl,rfl,rfl⟩,λb Q=>?_,?_⟩
   . have e:b=w.heap.objs.size:=by simpa using Q
     subst e;exact j.fb (bg _) (j.aV.fresh (bg _))
   . refine q _ u (λH=>nV X.K H a g) sm (Walk.toD rs λi L p=>?_) N (λE U L fr=>?_)
     . exact ⟨λn=>⟨g,g[i],p.nW,by simp [n]⟩,λ_ x L y=>⟨y.1,y.2 g p.nW⟩,λn=>⟨g,p.nW,n⟩⟩
     . rcases N with ⟨o,eo⟩|z
       . exact .inl ⟨o,fr.keep a _ eo λow=>(k1.lQ ow eo).elim⟩
       . exact .inr z
  |ak LK=>
   cases e2;obtain ⟨a,g,rfl,N,rs⟩:=rep.dH;cases r1;obtain ⟨nF,rv,p,hz⟩:=j.tuple (.of N);refine A7 (show w.heap.IsTuple a nF.toArray from p) ?_;refine ⟨w.heap.objs.size,[w.heap.objs.size],_,_,u,rfl,j.kept λb o e=>bI _ e,uV a _,⟨_,c9 _ rfl,rfl,rfl⟩,λb Q=>?_,?_⟩
   . have e:b=w.heap.objs.size:=by simpa using Q
     subst e;exact j.fb (bg _) (j.aV.fresh (bg _))
   . refine q _ u (λH=>H a=some (.ak g)) sm (Walk.toD rs λi L p=>?_) N (λE U L fr=>fr.keep a _ N λow=>(k1.lQ ow N).elim);exact ⟨λn=>⟨g,g[i],.of p,by simp [n]⟩,λ_ x L y=>⟨y.1,y.2 g (.of p)⟩,λn=>⟨g,.of p,n⟩⟩
  |str z=>
   cases e2;obtain ⟨rfl,hz⟩:=rep.j4;obtain ⟨t,rfl⟩:=r1
   have fin: ∀(J:It),J=CV z-> ∃(g:List V) (P:Hp->Prop),au X.K (Sf G O σ) u g (YS z)/\Walk J g P/\P u/\ ∀E U L,a9 O σ u E U L->P L:=by
     rintro J rfl;refine ⟨u5 z,λ_=>True,Sr z,λi L _=>?_,trivial,λ_ _ _ _=>trivial⟩;have hl:(u5 z).length=z.cps.size:=by simp [u5]
     refine ⟨λn=>by rw [hl] at n;exact n,λn x H2 y=>?_,λn=>by rw [hl] at n;exact n⟩;obtain ⟨y1,c,y2,y3⟩:=y;refine ⟨y1,?_⟩;subst y3;simp [u5,y2]
   obtain ⟨g,P,h1,h2,h3,h4⟩:=fin (CV z) rfl
   cases Y:z.cps.all (· <128) with
   |true=>
     refine wpAny_pyIter_ascii Y ?_;refine ⟨w.heap.objs.size,[w.heap.objs.size],_,_,u,rfl,j.kept λb o e=>bI _ e,uY _ z t,⟨_,c9 _ rfl,rfl,rfl⟩,λb Q=>?_,q _ u P sm (Walk.toD h1 h2) h3 h4⟩;have e:b=w.heap.objs.size:=by simpa using Q
     subst e;exact j.fb (bg _) (j.aV.fresh (bg _))
   |false=>
     refine wpAny_pyIter_wide Y ?_;refine ⟨w.heap.objs.size,[w.heap.objs.size],_,_,u,rfl,j.kept λb o e=>bI _ e,Sq _ z t,⟨_,c9 _ rfl,rfl,rfl⟩,λb Q=>?_,q _ u P sm (Walk.toD h1 h2) h3 h4⟩;have e:b=w.heap.objs.size:=by simpa using Q
     subst e;exact j.fb (bg _) (j.aV.fresh (bg _))
  |_=>cases e2)
def Qd (lo:Int) (n:Nat):List D:=(lC n).map λ(i:Nat)=> .int (lo+(i:Int))
def xM (lo:Int) (n:Nat):List V:=(lC n).map λ(i:Nat)=> .int (lo+(i:Int))
def Ss {K:aC} (lo:Int) (n:Nat):au K A H (xM lo n) (Qd lo n):=by
 unfold xM Qd;generalize lC n=l
 induction l with
 |nil=>exact .nil
 |cons c r a=>exact .cons (.int _) a
def uU (lo:Int) (n:Nat):Walk (CC lo n) (xM lo n) (λ_=>True):=λi H _=>by
 have c:(xM lo n).length=n:=by simp [xM]
 refine ⟨λa=>by rw [c] at a;exact a,λa x h y=>?_,λa=>by rw [c] at a;exact a⟩;obtain ⟨d,g⟩:=y;refine ⟨d,?_⟩;subst g;rw [c] at a;simp [xM,a]
def sG:List D->al (List D)
 | [.int j]=>aY (-(2^62)<=j/\j<2^62) (.ok (Qd 0 j.toNat))
 |_=> .aj
def au.one {K:aC} (r:au K A H a [d]): ∃v,a=[v]/\aL K A H v d:=by
 cases r with
 |cons h t=>cases t;exact ⟨_,rfl,h⟩
def au.ap {K:aC} (r:au K A H c [d,g]): ∃v a,c=[v,a]/\aL K A H v d/\aL K A H a g:=by
 cases r with
 |cons h t=>
  obtain ⟨a,rfl,i⟩:=t.one;exact ⟨_,_,rfl,h,i⟩
def PI.imp (h:PI X B e t) (w: ∀a H Q,d a H Q->t a H Q):PI X B e d:=λc s a H Q I q=>h c s a H Q I (w a H Q q)
def eG (c:TY):Sl->al (List D):=λa=>c a>>=sG
def wQ {a:Expr} (d:Gl X "range") (g:X.mg "range" =none) (h:DA X l [a] i) (j:bb [a] X.env=[(false,eval a X.env)]:=by rfl):DI X B (.Call (.Name "range" p) [a] [] n) (eG i):=by
 with_unfolding_all exact (
  PI.imp (P5 d g h j) λN H R=>by
   rintro ⟨G,o,c,O,k,u,q⟩;obtain ⟨w,e1,e2⟩:=jd u;refine ⟨G,o,c,w,k,e1,λQ y z E=>?_⟩;unfold sG at e2
   split at e2
   . obtain ⟨⟨I,J⟩,L⟩:=jv e2;cases L;obtain ⟨v,rfl,r⟩:=E.one;cases r.cL;exact ⟨_,rfl,I,J,q _ y _ z (Walk.toD (Ss 0 _) (uU 0 _)) trivial λ_ _ _ _=>trivial⟩
   . cases e2)
def tG (K:aC) (t:TW):TG:=λv h H Q=> ∃G i c d a,ax K G i c h H/\aL K (Sf G c h) H v d/\t d c= .ok a/\ ∀g,ax K G i a g H->a9 c h H a g H->Q g H
@[irreducible] def DG (X:Cx) (B:Expr) (t:TW):Prop:=PG X B (tG X.K t)
theorem PG.imp (h:PG X B t) (w: ∀v a H Q,d v a H Q->t v a H Q):PG X B d:=λc s a H v u Q I r q=>h c s a H v u Q I r (w v a H Q q)
def gN (i:Nat):D->Sl->al Sl:=λd a=> .ok (a.set i (.ah d))
def jp (i:Nat) {a:Pos} (g:X.N.Nodup) (h:X.N[i]?=some x:=by rfl) (j:Loc X.env.scope x:=by exact iC rfl)
   (n:UM X x:=by first|exact .inl rfl|exact .inr rfl|assumption):DG X (.Name x a) (gN i):=by
 with_unfolding_all exact (
  PG.imp (UZ g h j n) λv p H Q=>by
   rintro ⟨G,u,o,d,c,k,r,e,q⟩;cases e
   exact q _ (k.gz r) (.set (ao.refl H) λ_ _ z _=>by cases z))
def g2 (t u:TW):D->Sl->al Sl:=λd c=>match d with
 | .ak [x,y]=>t x c>>=λa=>u y a
 |_=> .aj
def xO {a:Expr} {k:Nat} {h:Pos} (z:X.bM=true) (E:DG X a t) (I:DG X b u)
   (J:(dO [a,b] X.env).map (·.2)=lG a X.env::(dO [b] X.env).map (·.2):=by rfl) (i:(dO [b] X.env).map (·.2)=lG b X.env::(dO [] X.env).map (·.2):=by rfl)
   (L:(dO [a,b] X.env).length=2:=by rfl) (j:(dO [a,b] X.env).findIdx? (·.1)=none:=by rfl):DG X (.Tuple [a,b] k h) (g2 t u):=by
 with_unfolding_all exact (
  PG.imp (Ev z (xh E (xh I Y1 i) J) L j) λv σ H Q=>by
   rintro ⟨G,p,n,d,g,k,r,e,q⟩;unfold g2 at e
   split at e
   . obtain ⟨c,e1,e2⟩:=jd e;obtain ⟨a,xs,rfl,N,O⟩:=r.dH;obtain ⟨U,w,rfl,Y,r2⟩:=O.ap;refine ⟨a,_,rfl,.of N,rfl,U,[w],rfl,G,p,n,_,c,k,Y,e1,λpN k1 y=>⟨w,[],rfl,G,p,c,_,g,k1,y.rep k r2,e2,λo k2 f2=>⟨rfl,q o k2 (y.trans f2)⟩⟩⟩
   . cases e)
def cw (f:T1) (t:TW):Sl->al aT:=λa=>f a>>=λd=>t d a>>=λc=> .ok (.nx c)
def Jh {a:Pos} (j:DE X .s e f) (n:DG X B t) (p:swapsWithSole [B] e a.line X.env=pure false:=by rfl) (hw:swappedStores [B] e X.env=pure none:=by rfl)
   (u:(dO [B] X.env).map (·.2)=[lG B X.env]:=by rfl):DS X (.Assign [B] e a) (cw f t):=by
 with_unfolding_all exact (
  PS.imp (PX j n p hw u) λE N H=>by
   rintro ⟨G,i,c,o,k,w,q⟩;obtain ⟨d,e1,e2⟩:=jd w;obtain ⟨g,y,z⟩:=jd e2;cases z
   exact ⟨G,i,c,d,k,e1,λv I s r _=>⟨G,i,c,d,g,k.am s,r,y,λh J L=>q h I J (L.am s)⟩⟩)
def bh (c:D->Sl->al aT):List D->Sl->al aT
 | [],g=> .ok (.nx g)
 |d::h,g=>c d g>>=λo=>match o with
  | .nx a=>bh c h a
  | .ct a=>bh c h a
  | .bk a=> .ok (.nx a)
  | .rt i d=> .ok (.rt i d)
def wx (t:TW) (g:TZ):D->Sl->al aT:=λd a=>t d a>>=g
def eH (f:TY) (t:TW) (g:TZ):Sl->al aT:=λa=>f a>>=λc=>bh (wx t g) c a
def JL (hp:qO (model X.prog X.w) X.A X.env X.xe) (hc:X.bM=true) (hi:DI X B e fi) (hg:DG X B t) (hb:iD X N g)
   (hs: ∀x,pv e X.env x=pure x:=by intro _;rfl):DS X (.For B e N [] pos) (eH fi t g):=by
 with_unfolding_all exact (
  PS.imp (vH hp hc hi hg hb hs) λE σ H=>by
   rintro ⟨G,O,u,o,k,ef,q⟩;obtain ⟨h,e1,e2⟩:=jd ef;refine ⟨G,O,u,h,k,e1,λJ H1 P sm wk p0 pO=>?_⟩;have k1:=k.am sm;have q1:=Jg (a9.refl sm) q;refine ⟨λi m j w=>m=h.length-i/\i<=h.length/\ ∃c,ax X.K G O c j w/\a9 u σ H1 c j w/\bh (wx t g) (h.drop i) c= .ok o,⟨h.length,by simp,i8 _,u,k1,a9.refl (ao.refl H1),by simpa using e2⟩,?_⟩;rintro i m j w ⟨rfl,hi,c,k',Q,e'⟩;obtain ⟨w1,w2,w3⟩:=wk i w (pO c j w Q)
   by_cases U:i<h.length
   . refine .inr ⟨w1 U,?_⟩;rw [xS U] at e';obtain ⟨o1,e3,e4⟩:=jd e';obtain ⟨v,e5,e6⟩:=jd e3;refine ⟨λd I=>h.length-(i+1)=h.length-(i+1)/\i+1<=h.length/\ ∃a,ax X.K G O a d I/\a9 u σ H1 a d I/\bh (wx t g) (h.drop (i+1)) a= .ok o,λd I z=>⟨h.length-(i+1),by omega,z⟩,λx I y=>?_⟩
     obtain ⟨Y,rd⟩:ao w I/\aL X.K (Sf G c j) I x h[i]:=by
      rcases w2 _ (cU U) x I y with ⟨rfl,rd⟩| ⟨p,vs,es,hp,rfl,rfl,ed,sI⟩
      . exact ⟨ao.refl _,Q.rep k1 rd⟩
      . refine ⟨ao.aH hp,?_⟩;rw [ed];exact .ak ju ((Q.sF k1 sI).am (ao.aH hp))
     refine ⟨G,O,c,h[i],v,k'.am Y,rd,e5,λpN A8 A9=>⟨G,O,v,o1,A8,e6,?_⟩⟩;have L:=(Q.trans (a9.refl Y)).trans A9
     cases o1 with
     |nx a=>exact λd H3 n r=>⟨rfl,U,a,n,L.trans r,e4⟩
     |ct a=>exact λd H3 n r=>⟨rfl,U,a,n,L.trans r,e4⟩
     |bk a=>cases e4;exact λd H3 n r=>q1 d H3 n (L.trans r)
     |rt fr dd=>cases e4;exact q1
   . have he:i=h.length:=by omega
     refine .inl ⟨w3 (by omega),?_⟩;rw [Ba (by omega)] at e';cases e'
     exact q1 j w k' Q)
def zX (n:Nat) (t:T0) (g:TZ):Sl->al aT:=λc=>match n with
 |0=> .aj
 |n+1=>t c>>=λb=>if b=true then g c>>=λo=>match o with
   | .nx a=>zX n t g a
   | .ct a=>zX n t g a
   | .bk a=> .ok (.nx a)
   | .rt h d=> .ok (.rt h d)
  else .ok (.nx c)
def uB (n:Nat) (hp:qO (model X.prog X.w) X.A X.env X.xe) (hc:DT X c t) (hb:iD X v g):DS X (.While c v [] pos) (zX n t g):=by
 with_unfolding_all exact (
  PS.imp (vF hp hc hb) λE Q H=>by
   rintro ⟨G,w,r,o,k,ef,q⟩;refine ⟨λm p J=> ∃d,ax X.K G w d p J/\a9 r Q H d p J/\zX m t g d= .ok o,⟨n,r,k,a9.refl (ao.refl H),ef⟩,?_⟩;rintro m p J ⟨d,L,U,Y⟩
   cases m with
   |zero=>cases Y
   |succ m=>
    obtain ⟨b,e1,e2⟩:=jd Y;refine ⟨G,w,d,b,L,e1,λH1 y=>?_⟩
    cases b with
    |false=>
     rw [if_neg gd] at e2 ⊢;cases e2;exact q p H1 (L.am y) (U.trans (a9.refl y))
    |true=>
     rw [if_pos rfl] at e2 ⊢;obtain ⟨o1,e3,I⟩:=jd e2;refine ⟨λh N=> ∃a,ax X.K G w a h N/\a9 r Q H a h N/\zX m t g a= .ok o,λh N z=>⟨m,AJ m,z⟩,G,w,d,o1,L.am y,e3,?_⟩;have u:=U.trans (a9.refl y)
     cases o1 with
     |nx a=>exact λh O i j=>⟨a,i,u.trans j,I⟩
     |ct a=>exact λh O i j=>⟨a,i,u.trans j,I⟩
     |bk a=>cases I;exact λh O i j=>q h O i (u.trans j)
     |rt fr dd=>cases I;exact q)
end
def bE (i:Nat) (env:Sl):Sl:=match env[i]? with
 |some (.aw d)=>env.set i (.ah d)
 |_=>env
def Xh (h:zV (bE i env) g a):zV env g a:=by
 unfold bE at h
 split at h
 . rename_i d n;obtain ⟨j,e,c,l⟩:=h
   by_cases z:i=j
   . subst z;obtain ⟨q,_⟩:=jy c;cases q
   . rw [jq z] at c;exact ⟨j,e,c,l⟩
 . exact h
def ax.bE {K:aC} (i:Nat) (k:ax K G I env u H):ax K G I (bE i env) u H:=by
 have w: ∀a,Sf G env u a->Sf G (M.bE i env) u a:=λa n=>⟨λo=>n.1 (Xh o),n.2⟩
 cases l:env[i]? with
 |none=>
  have e:M.bE i env=env:=by unfold M.bE;rw [l]
  rw [e];exact k
 |some s=>
  cases s with
  |un=>
   have e:M.bE i env=env:=by unfold M.bE;rw [l]
   rw [e];exact k
  |ah d=>
   have e:M.bE i env=env:=by unfold M.bE;rw [l]
   rw [e];exact k
  |aw d=>
   have e:M.bE i env=env.set i (.ah d):=by unfold M.bE;rw [l]
   obtain ⟨a,h1,J,h2⟩:=k.aw i d l
   have B:Fd (M.bE i env) u a:=by
     rintro ⟨j,p,g,r⟩;rw [e] at g
     by_cases z:i=j
     . subst z;obtain ⟨q,_⟩:=jy g;cases q
     . rw [jq z] at g;exact z (k.nB i j d p a l g h1 r)
   rw [e] at w B ⊢;refine ⟨by simp [k.len],k.af,k.g0,λj p h=>?_,λj p h=>?_,λj E L d2 b g r N O=>?_⟩
   . by_cases z:i=j
     . subst z;obtain ⟨q,hl⟩:=jy h;cases q;exact ⟨_,h1,h2.rep (λc z=>⟨w c z,Ym k l h1 c z⟩) ⟨B,k.g0 a J⟩⟩
     . rw [jq z] at h;obtain ⟨v,y,g2⟩:=k.ah j p h;exact ⟨v,y,g2.aE w⟩
   . by_cases z:i=j
     . subst z;obtain ⟨q,hl⟩:=jy h;cases q
     . rw [jq z] at h;obtain ⟨v,y,g0,g2⟩:=k.aw j p h;exact ⟨v,y,g0,g2.a5 (λ_ _ e _=>e) w λ_ e=>e⟩
   . have Q:i≠j:=λz=>by subst z;obtain ⟨q,_⟩:=jy g;cases q
     have U:i≠E:=λz=>by subst z;obtain ⟨q,_⟩:=jy r;cases q
     rw [jq Q] at g;rw [jq U] at r;exact k.nB j E L d2 b g r N O
def gA (i:Nat) (g:TZ):Sl->al aT:=λa=>g (bE i a)
def YC (i:Nat) {st:Stmt} (h:DS X st g):DS X st (gA i g):=by
 with_unfolding_all exact (PS.imp h λE c H=>by
  rintro ⟨G,d,a,o,k,j,q⟩;refine ⟨G,d,bE i a,o,k.bE i,j,?_⟩;have f:a9 a c H (bE i a) c H:=⟨λ_ _ e _=>e,λb o=> .inl (Xh o),λ_ e=>e⟩
  exact Jg f q)
end M
namespace PySem.AutoSeq1
open PySem Builtin
def eR (l:Addr) (c:Array Value) (n:Nat) (b:Addr) (a:Array Value) (o:Nat) (dd:Option Addr) (p:Array (Option Value)) (q: ¬(!c.isEmpty&&AU (c.size+a.size))=true) (r:c.size<=aP) (e:c.size+a.size<=aP+1):
  Meets (g9.«list.extend» ⟨[.ref l,.ref b],[]⟩) (λ_ R s=>s.heap.get? l=some {cls:= .type "list",dict:=none,data:= .seq c n,slots:= #[]}/\s.heap.get? b=some {cls:= .type "tuple",dict:=dd,data:= .seq a o,slots:=p}/\R (.ok (.ret iq)) {s with heap:=s.heap.update l (re λx=>x++a),toks:=s.toks}):=
 .of_wp λi w A R s h=>by
  obtain ⟨y,g,d,tk,os⟩:=s;obtain ⟨j,u,h⟩:=h;have z:=idx_int;have B:=sub_tuple_tuple;have E:=sub_list_list;have H:=sub_tuple_list;have I:=sub_list_tuple;
  have v:(c++a).size<=aP+1:=by rw [Array.size_append];exact e
  wp_walk using (wpAny_updateSeq j rfl),sJ j,sJ u;exact ⟨_,rfl,h⟩
end PySem.AutoSeq1
namespace M
open PySem PySem.Spec L2
open PyProof.Rows hiding St
theorem gB: ∀ {ds:List D},D.dS ds=true↔ ∀d∈ds,d.j2=true
 | []=>by simp [D.dS]
 |d::ds=>by simp [D.dS,gB]
section
variable {X:Cx}
def Su:V->List V->Hp->VK->Prop:=λx d H Q=> ∃l b a c,x= .ref l/\d=[.ref b]/\H l=some (.ai a)/\H b=some (.ak c)/\a.length+c.length<=aP/\Q .aU (aH H l (.ai (a++c)))
def Sv:E2 X "list.extend" Su:=by
 intro w s σ H x vs v us Q I E J h;obtain ⟨l,b,xs,zs,rfl,rfl,y,L,hz,q⟩:=h;cases E;obtain ⟨u,rfl,N⟩:=J.one;cases N;obtain ⟨z,c,n,r,hl,e⟩:=I.lN y;obtain ⟨a,B,⟨ob,e2,O,U,Y⟩,z2⟩:=I.tuple (.of L);have sK:=B.length;obtain ⟨c2,g,Sw,i⟩:=ob;have j:=O;have o:=Y;subst j o;have p:c.toArray.size+a.toArray.size<=aP:=by rw [cb,cb];omega
 have d: ¬(!c.toArray.isEmpty&&AU (c.toArray.size+a.toArray.size))=true:=by
  rw [Ke p,Bool.and_false];exact gd
 refine pK E4 ⟨_,e,rfl⟩ F.entry_list_extend (F.args_list_extend_2 _ _)
  (AutoSeq1.eR l c.toArray n b a.toArray U g i d (by rw [cb];omega) (by omega)) ⟨e,e2,?_⟩
 refine ⟨.aU,_,I.ss y e (by simp) (r.append B) ?_,rfl,q⟩;rw [dr];omega
def Z1 (h:env[i]?=some (.aw d)):zV (env.set i (.aw l)) n a↔zV env n a:=by
 have o:=(ic.mp h).1
 constructor
 . rintro ⟨j,e,g,c⟩
   by_cases z:i=j
   . subst z;exact ⟨i,d,h,c⟩
   . rw [jq z] at g;exact ⟨j,e,g,c⟩
 . rintro ⟨j,e,g,c⟩
   by_cases z:i=j
   . subst z;exact ⟨i,l,rS o,c⟩
   . exact ⟨j,e,by rw [jq z];exact g,c⟩
def ax.iG {K:aC} (k:ax K G N env d H) (g:env[i]?=some (.aw d0)) (u:d[i]?=some (some (.ref a))) (O:H a=some Q) (U:nv (some Q))
   (top: ∀(I:Vi) (E:Hp),fM (Sf G env d) H E->E a=some o'->(∀b,Sf G env d b->I b)->Top K I E a B):ax K G N (env.set i (.aw B)) d (aH H a o')/\a9 env d H (env.set i (.aw B)) d (aH H a o'):=by
 have hl:=(ic.mp g).1;have J:zV env d a:=⟨i,_,g,u⟩
 have st:fM (Sf G env d) H (aH H a o'):=λc o e m=>by
   rw [jF ?_]
   . exact e
   . rintro rfl;rw [O] at e;cases e;exact (m U).1 J
 have w: ∀c,Sf G env d c->Sf G (env.set i (.aw B)) d c:=λc n=>⟨λo=>n.1 ((Z1 g).mp o),n.2⟩
 refine ⟨⟨by simp [k.len],λc o e=>?_,k.g0,λj l h=>?_,λj l h=>?_,λj L l d2 b Y q2 q3 q4=>?_⟩,⟨λc o e n=>?_,λc o=> .inl ((Z1 g).mp o),λc e=>?_⟩⟩
 . have r:c≠a:=by
     rintro rfl;obtain ⟨b,h1,y,_⟩:=k.aw i _ g;rw [u] at h1;cases h1;rw [y] at e;cases e
   rw [jF r];exact k.af c o e
 . by_cases z:i=j
   . subst z;obtain ⟨q,_⟩:=jy h;cases q
   . rw [jq z] at h;obtain ⟨v,h1,h2⟩:=k.ah j l h;exact ⟨v,h1,h2.a5 st w⟩
 . by_cases z:i=j
   . subst z;obtain ⟨q,_⟩:=jy h;cases q;obtain ⟨b,h1,y,_⟩:=k.aw i _ g;rw [u] at h1;cases h1;exact ⟨a,u,y,top _ _ st ju w⟩
   . rw [jq z] at h;obtain ⟨b,h1,y,h2⟩:=k.aw j l h
     have hb:b≠a:=by
       rintro rfl;exact z (k.nB i j _ _ b g h u h1)
     exact ⟨b,h1,y,h2.a5 st w λo e=>by rw [jF hb];exact e⟩
 . have p: ∀(j:Nat) (l:D),(env.set i (.aw B))[j]?=some (.aw l)-> ∃d0:D,env[j]?=some (.aw d0):=λj l q=>by
     by_cases z:i=j
     . subst z;exact ⟨_,g⟩
     . rw [jq z] at q;exact ⟨_,q⟩
   obtain ⟨e1,z1⟩:=p j l Y;obtain ⟨e2,z2⟩:=p L d2 q2;exact k.nB j L e1 e2 b z1 z2 q3 q4
 . have r:c≠a:=by
     rintro rfl;exact n J
   rw [jF r];exact e
 . by_cases r:c=a
   . subst r;rw [ju] at e;cases e
   . rw [jF r] at e;exact e
def ax.write {K:aC} (k:ax K G h env c H) (j:env[i]?=some (.aw (.ai ds))) (l:c[i]?=some (some (.ref a))) (n:H a=some (.ai o))
  (r:au K (Sf G env c) H d g):ax K G h (env.set i (.aw (.ai g))) c (aH H a (.ai d))/\a9 env c H (env.set i (.aw (.ai g))) c (aH H a (.ai d)):=
 k.iG j l n trivial λp q st e w=> .ai e (r.a5 st w)
def Q5 {K:aC} {i:Nat} (k:ax K G l env c H) (g:env[i]?=some (.aw (.ai ds))): ∃a d,c[i]?=some (some (.ref a))/\H a=some (.ai d)/\au K (Sf G env c) H d ds:=by
 obtain ⟨a,h,n,j⟩:=k.aw i _ g
 cases j with
 |ai e r=>exact ⟨a,_,h,e,r⟩
variable {e:Expr} {f:T1} {l:Lv} {O Y U p:Pos} {x:Str}
noncomputable def bZ (i:Nat) (env:Sl):al (List D):=match env[i]? with
 |some (.aw (.ai a))=> .ok a
 |_=> .aj
def Q6 (h:bZ i env= .ok ds):env[i]?=some (.aw (.ai ds)):=by
 unfold bZ at h
 split at h
 . cases h;assumption
 . cases h
def qH (i:Nat) (f:T1):Sl->al aT:=λa=>bZ i a>>=λc=>f a>>=λd=>aY (c.length<aP) (.ok (.nx (a.set i (.aw (.ai (c++[d]))))))
def XQ (i:Nat) (Q:DE X .s e f) (hN:X.N[i]?=some x:=by rfl) (hv:gM X.env.scope x:=by exact eE rfl)
   (hd:YU x:=by decide) (u:WV x:=by decide)
   (g:nR (.Name x p) "append" X.env (eval (.Name x p) X.env)=eval (.Name x p) X.env:=by rfl)
   (j:((dL Y (bb [e] X.env)).all (λx=>!x.1)&&(lK Y (lL [] X.env)).all (λx=>x.1.isSome)
    &&decide ([e].length+([]:List i3).length+(if ([]:List i3).isEmpty then 0 else 1)<30))=true:=by exact JE rfl rfl)
   (h:(U.endLine==Y.line)=true:=by rfl) (z:bb [e] X.env=(false,eval e X.env)::bb [] X.env:=by exact jm rfl) (c:(dL Y (bb [] X.env)).any (·.1)=false:=by exact jS rfl)
   (w:ix (.Call (.Attribute (.Name x p) "append" U) [e] [] Y) none O.line X.env=pure false:=by rfl):
   DS X (.Expr (.Call (.Attribute (.Name x p) "append" U) [e] [] Y) O) (qH i f):=by
 with_unfolding_all exact (
  PS.imp (ZX (AT Fk E3 PySem.F.type_list_append Xk (xF hN hv hd u) (qc Q wo z) g j h z c) w) λE σ H=>by
   rintro ⟨G,H0,y,o,k,ef,q⟩;obtain ⟨ds,e1,e2⟩:=jd ef;obtain ⟨d,e3,e4⟩:=jd e2;obtain ⟨hz,e5⟩:=jv e4;cases e5;have B:=Q6 e1;obtain ⟨a,I,J,L,N⟩:=Q5 k B;refine ⟨.ref a,J,.inl ⟨rfl,I,.of L⟩,G,H0,y,d,k,e3,λv H1 r r1 _=>?_⟩;have n:=r _ _ L;refine ⟨a,I,v,rfl,rfl,n,by rw [N.length];exact hz,?_⟩;have W:=(k.am r).write B J n ((N.am r).append (.cons r1 .nil))
   exact q σ _ W.1 (W.2.am r))
def zw (i:Nat) (f:T1):Sl->al aT:=λa=>bZ i a>>=λg=>f a>>=λd=>match d with
 | .ai c=>aY (g.length+c.length<=aP) (.ok (.nx (a.set i (.aw (.ai (g++c))))))
 | .ak c=>aY (g.length+c.length<=aP) (.ok (.nx (a.set i (.aw (.ai (g++c))))))
 |_=> .aj
def Zq (i:Nat) (he:DE X .s e f) (hN:X.N[i]?=some x:=by rfl) (hv:gM X.env.scope x:=by exact eE rfl)
   (hd:YU x:=by decide) (z:WV x:=by decide)
   (h:nR (.Name x p) "extend" X.env (eval (.Name x p) X.env)=eval (.Name x p) X.env:=by rfl)
   (u:((dL Y (bb [e] X.env)).all (λx=>!x.1)&&(lK Y (lL [] X.env)).all (λx=>x.1.isSome)
    &&decide ([e].length+([]:List i3).length+(if ([]:List i3).isEmpty then 0 else 1)<30))=true:=by exact JE rfl rfl)
   (j:(U.endLine==Y.line)=true:=by rfl) (hs:bb [e] X.env=(false,eval e X.env)::bb [] X.env:=by exact jm rfl) (c:(dL Y (bb [] X.env)).any (·.1)=false:=by exact jS rfl)
   (B:ix (.Call (.Attribute (.Name x p) "extend" U) [e] [] Y) none O.line X.env=pure false:=by rfl):
   DS X (.Expr (.Call (.Attribute (.Name x p) "extend" U) [e] [] Y) O) (zw i f):=by
 with_unfolding_all exact (
  PS.imp (ZX (AT Fk E4 PySem.F.type_list_extend (pH.or RN Sv) (xF hN hv hd z) (qc he wo hs) h u j hs c) B) λE σ H=>by
   rintro ⟨G,H0,I,o,k,ef,q⟩;obtain ⟨ds,e1,e2⟩:=jd ef;obtain ⟨d,e3,J⟩:=jd e2;have L:=Q6 e1;obtain ⟨a,N,Q,hx,y⟩:=Q5 k L;refine ⟨.ref a,Q,.inl ⟨rfl,N,.of hx⟩,G,H0,I,d,k,e3,λv H1 n r1 _=>?_⟩;have g:=n _ _ hx
   cases d with
   |ai es=>
    obtain ⟨hz,e5⟩:=jv J;cases e5;obtain ⟨b,ys,rfl,hb,_,w⟩:=r1.cK;have r:=w.low;refine .inl ⟨a,b,N,ys,rfl,rfl,g,hb,by rw [y.length,w.length];exact hz,?_⟩;have W:=(k.am n).write L Q g ((y.am n).append r);exact q σ _ W.1 (W.2.am n)
   |ak es=>
    obtain ⟨hz,e5⟩:=jv J;cases e5;obtain ⟨b,ys,rfl,hb,w⟩:=r1.dH;have r:=w;refine .inr ⟨a,b,N,ys,rfl,rfl,g,hb,by rw [y.length,w.length];exact hz,?_⟩;have W:=(k.am n).write L Q g ((y.am n).append r);exact q σ _ W.1 (W.2.am n)
   |_=>cases J)
end
def Uk (I:Nat->aM->Prop)
  (z: ∀n s,I n s->wpAny (model a w) A (pyNext Q) (λr e=>match r with
   |none=>R (.ok .next) e
   |some v=>wpAny (model a w) A (letOwnedTupleGo d Q v) (λ_ g=>wpAny (model a w) A (lG d env v) (λ_ l=>
    wpAny (model a w) A (forIn J true λc r=>if r=true then do let ok<-isTrue c env (eval c env);pure (CW ok) else pure (CW r)) (λok i=>
     if ok=true then wpAny (model a w) A (eval L env) (λx o=>
      wpAny (model a w) A (call (.builtin "list.append") [N,x]) (λ_ p=> ∃m,m<n/\I m p) (λ_ _=>False) o) (λ_ _=>False) i
     else∃m,m<n/\I m i) (λ_ _=>False) l) (λ_ _=>False) g) (λ_ _=>False) e) (λ_ _=>False) s)
  (n:Nat) (h:I n s):nQ (model a w) A (.compLoop (.ListComp L [⟨d,iter,J,0⟩] O U) 0 Q N env) R s:=by
 refine codeAny_loop rfl I (λn s Y=>?_) n h;refine wpAny_noted ?_;rw [compTurn_list];refine ay (xU (ay (ie (z n s Y) (λr e q=>?_) λ_ _ j=>j.elim)))
 cases r with
 |none=>exact aZ q
 |some v=>
  refine ay (ie q (λ_ g y=>?_) λ_ _ j=>j.elim);refine ay (ie y (λ_ l B=>ay (ie B (λok i u=>?_) λ_ _ j=>j.elim)) λ_ _ j=>j.elim)
  cases ok with
  |false=>exact aZ ⟨rfl,u⟩
  |true=>
   exact ay (ay (ie u (λx o E=>ay (ie E (λ_ p H=>aZ (aZ ⟨rfl,H⟩)) λ_ _ j=>j.elim)) λ_ _ j=>j.elim))
def Fl (X:Cx) (N:List Str) (a:Scope) (c:List (Str×Addr)) (C:Addr) (s:aM) (H:Hp) (d:List Addr):Cx where
 prog:=X.prog
 w:=X.w
 K:=X.K
 mg:=X.mg
 af:=X.af
 A:=X.A
 N:=N
 dF:=s
 i7:=H
 env:=compEnvC a c C X.env
 outer:=X.stack
 stack:=X.stack
 ex:=d
 fn:=λ_=>false
 bM:=true
 pn:=[]
 xe:=λ_ _=>False
@[irreducible] def Bb (X:Cx) (d:List Expr) (c:T0):Prop:=
 ∀(a:List (Addr×Obj)) (s:aM) (e:L2.St) (H:Hp) (Q:Bool->Hp->Prop),aA X a e H s->tT X.K c e H Q->
  wpAny (model X.prog X.w) X.A (forIn d true λc r=>if r=true then do let ok<-isTrue c X.env (eval c X.env);pure (CW ok) else pure (CW r)) (TP X a e Q) X.xe s
def qz:Sl->al Bool:=λ_=> .ok true
def wF:Bb X [] qz:=by
 with_unfolding_all exact (λa s e H Q I ⟨G,g,c,b,k,d,q⟩=>by
  cases d
  exact wpAny_tests_nil ⟨H,I,q H (ao.refl H)⟩)
def wn (n:Nat) (t:TW) (c:T0) (h:T1):List D->Sl->al Sl
 | [],e=> .ok e
 |d::i,e=>t d e>>=λa=>c a>>=λb=>if b=true
  then h a>>=λv=>bZ n a>>=λg=>aY (g.length<aP) (wn n t c h i (a.set n (.aw (.ai (g++[v])))))
  else wn n t c h i a
noncomputable def kv (a:Bool) (env:Sl) (j:Nat):Slot:=match env[j]? with
 |some (.ah d)=> .ah d
 |some (.aw d)=>if a=true then .ah d else .un
 |_=> .un
def yx (a:Bool) (m:Nat) (c:List Nat) (env:Sl):Sl:=dq m .un++c.map (kv a env)++[.aw (.ai [])]
def zN (h:Bool) (m:Nat) (g:List Nat) (i:TY) (t:TW) (c:T0) (j:T1):Sl->al D:=λa=>
 i a>>=λl=>wn (m+g.length) t c j l (yx h m g a)>>=λd=>bZ (m+g.length) d>>=λe=>aY (h=true->D.dS e=true) (.ok (.ai e))
def yw (m:Nat) (c:List Nat) (d:L2.St) (a:Addr):L2.St:=dq m none++c.map (λj=>(d[j]?).join)++[some (.ref a)]
theorem xE {env:Env}: ∀ {names:List (Str×NameKind)} {x:Str} {k:NameKind},
  (names.map λ(n,k)=>if (k==sL&&env.scope.kind== .function&&env.kindOf n==some .cell) then (n,sM) else (n,k)).lookup x=some k-> ∃c,(x,c)∈names/\(k=c\/c= .free)
 | [],_,_,h=>by simp at h
 | (n,c)::r,x,k,h=>by
  have a:f6 x ((if (c==sL&&env.scope.kind== .function&&env.kindOf n==some .cell)=true then (n,sM) else (n,c))::(r.map λ(n,k)=>if (k==sL&&env.scope.kind== .function&&env.kindOf n==some .cell) then (n,sM) else (n,k)))=some k:=h
  by_cases g:(c==sL&&env.scope.kind== .function&&env.kindOf n==some .cell)=true
  . rw [if_pos g] at a;simp only [lx] at a
    cases d:x==n with
    |true=>
     rw [d] at a;have e:x=n:=by simpa using d
     subst e;refine ⟨c,lE,.inr ?_⟩;simp at g;exact g.1.1
    |false=>
     rw [d] at a;obtain ⟨i,j,l⟩:=xE a;exact ⟨i,gc _ j,l⟩
  . rw [if_neg g] at a;simp only [lx] at a
    cases d:x==n with
    |true=>
     rw [d] at a;have e:x=n:=by simpa using d
     subst e;cases a;exact ⟨_,lE,.inl rfl⟩
    |false=>
     rw [d] at a;obtain ⟨i,j,l⟩:=xE a;exact ⟨i,gc _ j,l⟩
noncomputable def rf (z:Option Str) (a:List (Str×Addr)) (C:Addr):List (Str×Addr):=match z with
 |none=>a
 |some y=>(y,C+1)::a
def Fm (z:Option Str) (h:Heap):Heap:=match z with
 |none=>h
 |some _=>h.push {cls:= .type "cell",data:= .cell none}
abbrev qG (z:Option Str) (X:Cx) (N:List Str) (a:Scope) (c:List (Str×Addr)) (C:Addr) (s:aM) (H:Hp) (d:List Addr):Cx:={Fl X N a (rf z c C) C s H d with fn:=λx=>some x==z}
def sN (h:f6 x (rf z a C)=some c):(z=some x/\c=C+1)\/(z≠some x/\a.lookup x=some c):=by
 cases z with
 |none=>exact .inr ⟨nofun,h⟩
 |some z=>
  have h:f6 x ((z,C+1)::a)=some c:=h;rw [lx] at h
  cases e:x==z with
  |true=>rw [e] at h;cases h;exact .inl ⟨by rw [show x=z by simpa using e],rfl⟩
  |false=>rw [e] at h;exact .inr ⟨λq=>by simp at e;exact e (fY q).symm,h⟩
def CY (d:z≠some x) (h:a.lookup x=some c):f6 x (rf z a C)=some c:=by
 cases z with
 |none=>exact h
 |some z=>
  show f6 x ((z,C+1)::a)=some c;rw [lx,show (x==z)=false by simpa using λq=>d (by rw [q])];exact h
def Sx {code:Value}
  (made: ∀n,cellsFrom (n+1) a.names q=rf z q n) (d: ∀h,pushCells h a.names=Fm z h)
  (v: ∀p,p.Ns s.heap.objs.size (λ_=>none)->(∀b o,s.heap.get? b=some o->p.get? b=some o)->(∀y,z=some y->p.IsCell (s.heap.objs.size+1) none)->Q (newEnv a s.heap.objs.size globals (rf z q s.heap.objs.size) i j code (some g) c) {s with heap:=p}):
  wpAny M A (newFunctionEnv a globals q [] i j code (some g) c) Q E s:=by
 simp only [newFunctionEnv,Option.isSome_some,if_true];refine ay (wpAny_alloc ?_);refine ay (wpAny_layCells _ (λname l r=>by cases u:l==sM<;>simp [u]) _ _ _ _ ?_);have w:(s.heap.push {cls:= .type "dict",data:= .dict #[]}).objs.size=s.heap.objs.size+1:=o3 ..;have B:=made s.heap.objs.size;rw [<-w] at B;rw [B,d];simp;refine aZ ?_;have H:=Heap.Ns.new s.heap (.type "dict")
 cases z with
 |none=>exact v _ H (λb o e=>bI _ e) nofun
 |some z=>
  refine v ((s.heap.push {cls:= .type "dict",data:= .dict #[]}).push {cls:= .type "cell",data:= .cell none}) (H.keeps λb o e=>bI _ e) (λb o e=>bI _ (bI _ e)) λ_ _=>⟨_,by rw [<-w];exact c9 _ rfl,rfl⟩
structure fO (z:Option Str) (X:Cx) (scope:Scope) (cl:List (Str×Addr)) (N:List Str) (m:Nat) (js:List Nat):Prop where
 Fn:closureFor scope X.env=pure cl
 kind:scope.kind= .function
 names: ∀x∈scope.names,x.2= .local->scope.names.lookup x.1=some .local
 sO: ∀y∈scope.names,y.2= .cell->z=some y.1
 made: ∀n,cellsFrom (n+1) scope.names cl=rf z cl n
 sP: ∀h,pushCells h scope.names=Fm z h
 zk: ∀y,z=some y->scope.names.lookup y=some .cell
 cls: ∀x c,cl.lookup x=some c->X.env.cells.lookup x=some c
 free: ∀y∈scope.names,y.2= .free-> ∃c,cl.lookup y.1=some c
 nd:N.Nodup
 len:N.length=m+js.length+1
 Sy: ∀(k j:Nat),js[k]?=some j-> ∃y,N[m+k]?=some y/\X.N[j]?=some y/\(X.env.scope.names.lookup y=some .cell\/X.env.scope.names.lookup y=some .free)/\scope.names.lookup y=some .free
 last: ∀y,N[m+js.length]?=some y-> ∀p∈scope.names,p.1≠y
section
variable {X:Cx} {tg iter elt:Expr} {ifs:List Expr} {L:Scope} {cl:List (Str×Addr)} {N:List Str} {m:Nat} {g:List Nat} {pos:Pos} {im:Bool} {z:Option Str}
 {fi:TY} {t:TW} {c:T0} {fe:T1}
def Sz {σ:L2.St} {C:Addr} {E:List Addr} (S:fO z X L cl N m g) (J:X.bM=true) (I:aA X p σ H s) (r:s.heap.objs.size<=C) (B: ∀b∈E,cZ X p H b) (w: ∀b∈E,b<s.heap.objs.size):
  (qG z X N L cl C s H E).Ok where
 mod:=I.ok.mod
 kind:=S.kind
 glob:=I.ok.glob
 blt:=I.ok.blt
 above:=r
 inj:=λx y c d a=>by
  have Y: ∀u,X.env.cells.lookup u=some (C+1)->False:=λu e=>by
    obtain ⟨v,o,ho,_⟩:=I.cell u _ e;exact absurd (bO ho) (Nat.not_lt_of_le (dG r (o4 _)))
  rcases sN d with ⟨ex,O⟩| ⟨_,Q⟩
  . rcases sN a with ⟨U,_⟩| ⟨_,g2⟩
    . rw [ex] at U;exact fY U
    . rw [O] at g2;exact (Y _ (S.cls _ _ g2)).elim
  . rcases sN a with ⟨U,O⟩| ⟨_,g2⟩
    . rw [O] at Q;exact (Y _ (S.cls _ _ Q)).elim
    . exact I.ok.inj x y c (S.cls x c Q) (S.cls y c g2)
 has:=λx h=>by
  have mem:z=some x\/ ∃j,(x,j)∈L.names/\j= .free:=by
    rcases h with h|h<;>obtain ⟨j,d,a⟩:=xE h
    . rcases a with z|z
      . exact .inl (S.sO _ d z.symm)
      . exact .inr ⟨j,d,z⟩
    . rcases a with z|z
      . exact .inr ⟨j,d,z.symm⟩
      . exact .inr ⟨j,d,z⟩
  by_cases l:z=some x
  . subst l;exact ⟨C+1,by show f6 x ((x,C+1)::cl)=_;simp [lx]⟩
  . obtain ⟨j,d,a⟩:=mem.resolve_left l;obtain ⟨c,J⟩:=S.free _ d a;exact ⟨c,CY l J⟩
 pe:=λx c h a=>by
  have e:some x=z:=by simpa using h
  rcases sN a with ⟨_,rfl⟩| ⟨n,_⟩
  . exact dG r (o4 _)
  . exact (n e.symm).elim
 hd:=λ_=>I.ok.hd J
 frames:=I.ok.frames
 qx:= .inl rfl
 qD:=λb i=>⟨λz=>absurd (fH (w b i) (by rw [z];exact r)) (oV _),λx c h=>by
  rcases sN h with ⟨_,rfl⟩| ⟨_,h⟩
  . exact λe=>absurd (w b i) (Nat.not_lt_of_le (by rw [<-e];exact dG r (o4 _)))
  . exact (B b i).2.2.2.2.1 x c (S.cls x c h)⟩
 bs:=I.bs
 mC:=dG I.ok.mC I.sz
 ir:=λb o e i=>by
  rcases (B b i).2.2.2.1 with z|z
  . exact I.ok.ir b o e z
  . exact absurd (fH (bO e) (dG I.ok.mC z)) (oV _)
 iu:=λb i z=>by
  rcases bA.mp (I.iw b z) with q|q
  . exact (B b i).2.1 q
  . exact (B b i).2.2.1 q
 eB:=I.stack
 nN:=I.cO
def LL (h:kv im env j= .aw d):False:=by
 unfold kv at h
 split at h
 . cases h
 . split at h<;>cases h
 . cases h
def SA (h:zV (yx im m g env) (yw m g p a) b):b=a:=by
 obtain ⟨i,d,h,l⟩:=h
 have q:i=m+g.length:=by
  unfold yx at h
  by_cases o:i<m
  . rw [i9,ig (by simpa using o),pD] at h
    split at h<;>cases h
  . rw [i9,gP (by simpa using o)] at h;simp at h
    by_cases l:i-m<g.length
    . rw [ig (by simpa using l),gY] at h
      cases e:g[i-m]? with
      |none=>rw [e] at h;cases h
      |some j=>
        rw [e] at h;have r:=fY h;exact (LL r).elim
    . rw [gP (by simpa using l)] at h;simp at h
      by_cases u:i-m-g.length=0
      . omega
      . rw [n5 (by simp;omega)] at h;cases h
 subst q
 have n:(yw m g p a)[m+g.length]?=some (some (.ref a)):=by
  unfold yw;rw [i9,gP (by simp),gP (by simp)];simp
 rw [n] at l;cases l;rfl
abbrev Gc (im:Bool) (G:Vi) (env:Sl) (a:L2.St):Addr->Prop:=λc=>G c/\(im=false-> ¬zV env a c)
def SD {K:aC} (k:ax K G H0 env n H) (O:H a=none):
   ax K (Gc im G env n) H (yx im m g env) (yw m g n a) (aH H a (.ai [])):=by
 have l: ∀(i:Nat) (d:D),(yx im m g env)[i]?=some (.aw d)->i=m+g.length/\d= .ai []:=λi d h=>by
   unfold yx at h
   by_cases q:i<m
   . rw [i9,ig (by simpa using q),pD] at h
     split at h<;>cases h
   . rw [i9,gP (by simpa using q)] at h;simp at h
     by_cases p:i-m<g.length
     . rw [ig (by simpa using p),gY] at h
       cases e:g[i-m]? with
       |none=>rw [e] at h;cases h
       |some j=>
         rw [e] at h;have u:=fY h;exact (LL u).elim
     . rw [gP (by simpa using p)] at h;simp at h
       by_cases w:i-m-g.length=0
       . rw [w] at h;cases h;exact ⟨by omega,rfl⟩
       . rw [n5 (by simp;omega)] at h;cases h
 have y:(yw m g n a)[m+g.length]?=some (some (.ref a)):=by
   unfold yw;rw [i9,gP (by simp),gP (by simp)];simp
 have B: ∀b,zV (yx im m g env) (yw m g n a) b->b=a:=λb ⟨i,d,q,p⟩=>by
   obtain ⟨rfl,rfl⟩:=l i d q;rw [y] at p;cases p;rfl
 have Y:ao H (aH H a (.ai [])):=ao.aH O;refine ⟨by simp [yx,yw],Y,λc z=>⟨(k.new c z).2,λ_=>(k.new c z).1⟩,λi d h=>?_,λi d h=>?_,λi j d e b q p w I=>(l i d q).1.trans (l j e p).1.symm⟩
 . unfold yx at h
   by_cases q:i<m
   . rw [i9,ig (by simpa using q),pD] at h
     split at h<;>cases h
   . rw [i9,gP (by simpa using q)] at h;simp at h
     by_cases p:i-m<g.length
     . rw [ig (by simpa using p),gY] at h
       cases e:g[i-m]? with
       |none=>rw [e] at h;cases h
       |some j=>
         rw [e] at h;have u:=fY h
         have Q:(yw m g n a)[i]?=some ((n[j]?).join):=by
           unfold yw;rw [i9,gP (by simpa using q)];simp;rw [ig (by simpa using p),gY,e];rfl
         have E: ∀v,n[j]?=some (some v)->aL K (Gc im G env n) H v d-> ∃v,(yw m g n a)[i]?=some (some v)/\aL K (Sf (Gc im G env n) (yx im m g env) (yw m g n a)) (aH H a (.ai [])) v d:=λv e1 r=>by
           refine ⟨v,by rw [Q,e1];rfl,(r.cu.am Y).aE λb z=>⟨λo=>?_,z.1⟩⟩;rw [B b o] at z;exact z.2 O
         unfold kv at u
         split at u
         . rename_i d' J;cases u;obtain ⟨v,w,I⟩:=k.ah j d J;exact E v w (I.aE λc z=>⟨z.2,λ_=>z.1⟩)
         . rename_i d' J
           split at u
           . rename_i U;cases u;obtain ⟨v,w,h0,I⟩:=k.aw j d J;exact E _ w (I.rep (λc z=>⟨⟨z.2,λ_=>z.1⟩,Ym k J w c z⟩) ⟨k.g0 _ h0,λz=>by rw [U] at z;cases z⟩)
           . cases u
         . cases u
     . rw [gP (by simpa using p)] at h;simp at h
       by_cases w:i-m-g.length=0
       . rw [w] at h;cases h
       . rw [n5 (by simp;omega)] at h;cases h
 . obtain ⟨rfl,rfl⟩:=l i d h;exact ⟨a,y,O,.ai ju .nil⟩
def Uj (use:Option (Value->Sem Unit)) (Q':Vh) (im:Bool) (N:List Str) (m:Nat) (g:List Nat) (S:fO z X L cl N m g) (hc:X.bM=true) (hi:PI X tg iter (tI X.K fi))
   (hb: ∀(C:Addr) (s:aM) (H:Hp) (fp:List Addr),PG (qG z X N L cl C s H fp) tg (tG X.K t)/\Bb (qG z X N L cl C s H fp) ifs c/\PE (qG z X N L cl C s H fp) elt (tE X.K .s fe))
   (hs: ∀x,pv iter X.env x=pure x) {pins:List (Addr×Obj)} {Q:L2.St} {H:Hp} (I:aA X pins Q H s) (k:ax X.K G H0 env Q H) (ef:zN im m g fi t c fe env= .ok d)
   (Fo: ∀(a C:Addr) (s':aM) (O:Hp) (mm:Vj) (r:Flow),s'.heap.Ns C mm->(∀h',ph C s'.heap h'->aA X pins Q O {s' with heap:=h'})->cZ X pins O C->ao H O->aL X.K (Sf G env Q) O (.ref a) d->be H (.ref a)->compPost (model X.prog X.w) X.A X.xe use Q' (.ref a) C (.ok r) s'):
   wpAny (model X.prog X.w) X.A (comprehension (.ListComp elt [⟨tg,iter,ifs,0⟩] L pos) L X.env (firstIterPos [⟨tg,iter,ifs,0⟩] pos) (newList []) (firstAsync [⟨tg,iter,ifs,0⟩]) (firstIter [⟨tg,iter,ifs,0⟩] X.env) use) Q' X.xe s:=by
 with_unfolding_all exact (by
  obtain ⟨ds,e1,ef⟩:=jd ef;obtain ⟨sQ,e2,ef⟩:=jd ef;obtain ⟨SE,e3,e4⟩:=jd ef;obtain ⟨Fp,e4⟩:=jv e4;cases e4;refine wpAny_comprehension_free rfl hs S.Fn S.kind S.names ?_;refine bi (hi pins s Q H (λJ H1=> ∃P,ao H H1/\Fj X.K (Sf G env Q) H1 J ds P/\P H1/\ ∀w E O,a9 env Q H1 w E O->P O) I ⟨G,H0,env,ds,k,e1,λJ H1 P a b c' d'=>⟨P,a,b,c',d'⟩⟩) λv s1 h1=>bi h1 λP7 s2 h2=>?_
  obtain ⟨it,fp,tn,J,Y,rfl,I2,T,Ay,f2,P,sm,wk,p0,pO⟩:=h2;have k2:=k.am sm;refine mq (Sx S.made S.sP (λsR n6 n8 n9=>?_));dsimp only at n6 n8 n9 ⊢;have ly:=I2.aV.fresh (bg _)
  let a:=s2.heap.objs.size
  have ha:=ly;have I3:=I2.pJ (t':=s2.toks) .nil (i8 _)
  let s3:aM:={s2 with heap:=s2.heap.push {cls:= .type "list",dict:=none,data:= .seq ([]:List Value).toArray}}
  let C:=s3.heap.objs.size
  have f3: ∀b∈fp,cZ X pins (aH Y a (.ai [])) b:=λb l=>by
   obtain ⟨z0,z⟩:=f2 b l;refine ⟨?_,z⟩
   have SF:b≠a:=by
     obtain ⟨o,ho,_⟩:=T.obj 0 _ Ay b l;exact dJ (bO ho)
   rw [jF SF];exact z0
  have SG: ∀b∈fp,b<s3.heap.objs.size:=λb l=>by
   obtain ⟨o,ho,_⟩:=T.obj 0 _ Ay b l;refine fH (bO ho) ?_;rw [o3];exact o4 _
  have XO:=Sz S hc I3 (bg _) f3 SG;obtain ⟨SH,SI,SJ⟩:=hb C s3 (aH Y a (.ai [])) fp;have old: ∀b o,s3.heap.get? b=some o->sR.get? b=some o:=λb o e=>n8 b o e
  have I4:aA (qG z X N L cl C s3 (aH Y a (.ai [])) fp) [] (yw m g Q a) (aH Y a (.ai [])) {s2 with heap:=sR,toks:=s2.toks+([]:List (Str×Value)).length}:=by
   refine ⟨XO,rfl,I3.bare,Un.kept old,⟨_,n6,λi y v' h1 h2 h3=>?_⟩,λy c' h=>?_,I3.aV.fresh (bg _),λy c' h=>(by
     rcases sN h with ⟨_,rfl⟩| ⟨_,h⟩
     . exact I3.aV.fresh (o4 _)
     . exact I3.ce y c' (S.cls y c' h)),λp hp=>absurd hp (by simp [Fl]),I3.aV.kept old,?_⟩
   . --a Bc name
     have Fq:N[i]?=some y:=h1;unfold yw at h2
     by_cases q1:i<m
     . rw [i9,ig (by simpa using q1),pD] at h2
       split at h2<;>cases h2
     . rw [i9,gP (by simpa using q1)] at h2;simp at h2
       by_cases q2:i-m<g.length
       . rw [ig (by simpa using q2),gY] at h2
         cases e:g[i-m]? with
         |none=>rw [e] at h2;cases h2
         |some j=>
           rw [e] at h2;have Bd:(Q[j]?).join=some v':=fY h2
           have hj:Q[j]?=some (some v'):=by
             cases z:Q[j]? with
             |none=>rw [z] at Bd;cases Bd
             |some w'=>rw [z] at Bd;simp at Bd;rw [Bd]
           obtain ⟨y',g1,g2,g3,g4⟩:=S.Sy (i-m) j e
           have ey:y'=y:=by
             rw [show m+(i-m)=i by omega,Fq] at g1;exact (fY g1).symm
           subst ey;obtain ⟨mm,hn,hl⟩:=I3.loc
           have SK:gM X.env.scope y':=by
             rcases g3 with z|z
             . exact .inr (.inl z)
             . exact .inr (.inr z)
           obtain ⟨u,ru,lk⟩:=hl j y' v' g2 hj SK;refine ⟨u,ru,.inr ⟨?_,?_⟩⟩
           . rcases h3 with z|z
             . exfalso;obtain ⟨k',m1,m2⟩:=xE z;have CY:=S.names _ m1;rcases m2 with w'|w'
               . subst w';have:=CY rfl;rw [g4] at this;cases this
               . subst w'
                 have: ∀ {names:List (Str×NameKind)},names.lookup y'=some .free->(names.map λ(n,k)=>if (k==sL&&X.env.scope.kind== .function&&X.env.kindOf n==some .cell) then (n,sM) else (n,k)).lookup y'≠some .local:=by
                  intro names
                  induction names with
                  |nil=>intro h;cases h
                  |cons p r ih=>
                   obtain ⟨n,kk⟩:=p;intro h h';have oa:f6 y' ((if (kk==sL&&X.env.scope.kind== .function&&X.env.kindOf n==some .cell)=true then (n,sM) else (n,kk))::(r.map λ(n,k)=>if (k==sL&&X.env.scope.kind== .function&&X.env.kindOf n==some .cell) then (n,sM) else (n,k)))=some .local:=h';simp only [lx] at h
                   cases hx:y'==n with
                   |true=>
                    rw [hx] at h;cases h
                    split at oa<;>simp [lx,hx] at oa
                   |false=>
                    rw [hx] at h
                    split at oa<;>(simp only [lx,hx] at oa;exact ih h oa)
                 exact this g4 z
             . exact z
           . rcases lk with ⟨kk,_⟩| ⟨kk,c',vr,Be⟩
             . exfalso;have LM:X.env.scope.names.lookup y'=some .local:=kk;rcases g3 with z|z<;>(rw [z] at LM;cases LM)
             . obtain ⟨c2,Bf⟩:=S.free (y',.free) (sh g4) rfl
               have:c2=c':=by
                 have:=S.cls _ _ Bf;rw [vr] at this;exact (fY this).symm
               subst this;obtain ⟨o,ho,hd⟩:=Be;exact ⟨c2,CY (λq=>by rw [S.zk _ q] at g4;cases g4) Bf,o,old _ _ ho,hd⟩
       . exfalso
         have LN:i=m+g.length:=by
           have hl:=(ic.mp Fq).1;rw [S.len] at hl;omega
         subst LN;have no:=S.last y Fq;rcases h3 with z|z|z<;>
         . obtain ⟨k',m1,_⟩:=xE z;exact no _ m1 rfl
   . rcases sN h with ⟨q,rfl⟩| ⟨_,h⟩
     . exact ⟨none,n9 _ q⟩
     . obtain ⟨v',o,ho,hd⟩:=I3.cell y c' (S.cls y c' h);exact ⟨v',o,old _ _ ho,hd⟩
   . show (yw m g Q a).length=N.length;rw [S.len];simp [yw];omega
  have kC:ax X.K (Gc im G env Q) Y (yx im m g env) (yw m g Q a) (aH Y a (.ai [])):=SD k2 ha
  have fC: ∀b∈fp,cZ (qG z X N L cl C s3 (aH Y a (.ai [])) fp) [] (aH Y a (.ai [])) b:=λb l=>by
   obtain ⟨z0,z1,z2,z3,z4,z5⟩:=f3 b l;exact ⟨z0,(XO.qD b l).1,XO.iu b l,.inl l,(XO.qD b l).2,λp hp=>absurd hp (by simp [Fl])⟩
  have stC:=T.keep 0 _ _ Ay λb l o e=>old b o (bI _ e)
  have loop:nQ (model X.prog X.w) X.A (.compLoop (.ListComp elt [⟨tg,iter,ifs,0⟩] L pos) 0 (.ref it) (.ref a) (compEnvC L (rf z cl C) C X.env))
     (compPost (model X.prog X.w) X.A X.xe use Q' (.ref a) C) {s2 with heap:=sR,toks:=s2.toks+([]:List (Str×Value)).length}:=by
   refine Uk (λn s'=> ∃i E O w,n=ds.length+1-i/\i<=ds.length/\aA (qG z X N L cl C s3 (aH Y a (.ai [])) fp) [] E O s'/\tn i s'.heap/\(∀b∈fp,O b=none)/\(∀b,zV w E b->b=a)/\
       ax X.K (Gc im G env Q) Y w E O/\a9 (yx im m g env) (yw m g Q a) (aH Y a (.ai [])) w E O/\wn (m+g.length) t c fe (ds.drop i) w= .ok sQ) ?_ (ds.length+1)
     ⟨0,_,_,_,rfl,i8 _,I4,stC,λb l=>(fC b l).1,?_,kC,a9.refl (ao.refl _),by simpa using e2⟩
   . rintro n s' ⟨i,E,O,w,rfl,LN,Ic,st,fr,rg,kc,fc,ec⟩;have hP:=pO env Q O (a9.refl kc.af);obtain ⟨w1,w2,w3⟩:=wk i O hP;have Fs: ∀ {O:Hp},(∀b∈fp,O b=none)-> ∀b∈fp,cZ (qG z X N L cl C s3 (aH Y a (.ai [])) fp) [] O b:=λhn b l=>⟨hn b l,(fC b l).2⟩
     by_cases bQ:i<ds.length
     . have hd:i<ds.length:=by omega
       rw [xS hd] at ec;obtain ⟨iH,e5,ec⟩:=jd ec;obtain ⟨b,e6,ec⟩:=jd ec;refine bi (T.item (qG z X N L cl C s3 (aH Y a (.ai [])) fp) rfl rfl rfl rfl i [] s' E O (λ_ _=>False) Ic (Fs fr) st (w1 bQ)) λr s4 j5=>?_;obtain ⟨u,hr,h4⟩:=j5
       subst hr;refine bi h4 λ_ s5 j5=>?_;obtain ⟨x,H5,I5,r5,y5,Ft,Ez⟩:=j5
       have LO: ∀b,(Sf G env Q b/\Y b≠none)->Sf (Gc im G env Q) w E b:=λb z=>⟨λo=>(by
         rw [rg b o] at z
         exact z.2 ha),z.1.2,λ_=>z.1.1⟩
       obtain ⟨sS,Bg⟩:ao O H5/\aL X.K (Sf (Gc im G env Q) w E) H5 x ds[i]:=by
         rcases w2 _ (cU hd) x H5 y5 with ⟨rfl,rd⟩| ⟨p,vs,es,hp,rfl,rfl,ed,sI⟩
         . exact ⟨ao.refl _,(rd.cu.am kc.af).aE LO⟩
         . refine ⟨ao.aH hp,?_⟩;rw [ed];exact .ak ju (((sI.cu.am kc.af).aE LO).am (ao.aH hp))
       have SM:=kc.am sS;have SN:=I5.pinned (Fs Ez) (T.obj _ _ Ft);refine bi (SH _ s5 E H5 x u (λpN Hn=>Hn=H5/\ax X.K (Gc im G env Q) Y iH pN H5/\a9 w E H5 iH pN H5) SN r5 ⟨_,Y,w,ds[i],iH,SM,Bg,e5,λpN k1 f1=>⟨rfl,k1,f1⟩⟩) λ_ s6 j5=>?_;obtain ⟨rX,H6,I6,z6,k6,LP⟩:=j5
       subst z6
       have Fv: ∀b,zV iH rX b->b=a:=λb o=>by
         rcases LP.more b o with z|z
         . exact rg b z
         . obtain ⟨uu,hu⟩:=k6.there o;rw [z] at hu;cases hu
       refine bi (SI _ s6 rX H6 (λb' Hn=>b'=b/\ao H6 Hn) I6 ⟨_,Y,iH,b,k6,e6,λHn sn=>⟨rfl,sn⟩⟩) λok s7 j5=>?_;obtain ⟨H7,I7,z7,LQ⟩:=j5
       subst z7;have k7:=k6.am LQ;have LR:=((fc.trans (a9.refl sS)).trans LP).trans (a9.refl LQ)
       have out: ∀ {s8:aM} {x0:L2.St} {H8:Hp} {mT:Sl},aA (qG z X N L cl C s3 (aH Y a (.ai [])) fp) ([]++Vp fp s5.heap) x0 H8 s8->(∀b,zV mT x0 b->b=a)->ax X.K (Gc im G env Q) Y mT x0 H8->
           a9 (yx im m g env) (yw m g Q a) (aH Y a (.ai [])) mT x0 H8->wn (m+g.length) t c fe (ds.drop (i+1)) mT= .ok sQ->
           ∃mm,mm<ds.length+1-i/\ ∃i E O w,mm=ds.length+1-i/\i<=ds.length/\aA (qG z X N L cl C s3 (aH Y a (.ai [])) fp) [] E O s8/\tn i s8.heap/\(∀b∈fp,O b=none)/\(∀b,zV w E b->b=a)/\
             ax X.K (Gc im G env Q) Y w E O/\a9 (yx im m g env) (yw m g Q a) (aH Y a (.ai [])) w E O/\wn (m+g.length) t c fe (ds.drop i) w= .ok sQ:=by
         intro s8 x0 H8 mT I8 SO k8 f8 e8;refine ⟨ds.length+1-(i+1),by omega,i+1,x0,H8,mT,rfl,bQ,I8.fg,T.keep _ _ _ Ft λb l o e=>(I8.pin (b,o) (oY _ (oY _ (J0 l e)))).1,λb l=>?_,SO,k8,f8,e8⟩;obtain ⟨o,e,_⟩:=T.obj _ _ Ft b l;exact (I8.pin (b,o) (oY _ (oY _ (J0 l e)))).2.1
       cases ok with
       |false=>
         rw [if_neg gd] at ec ⊢;exact out I7 Fv k7 LR ec
       |true=>
         rw [if_pos rfl] at ec ⊢;obtain ⟨vd,e7,ec⟩:=jd ec;obtain ⟨acc,e8,ec⟩:=jd ec;obtain ⟨hz,ec⟩:=jv ec;refine bi (SJ _ s7 rX H7 (λy Hn=>ao H7 Hn/\aL X.K (Sf (Gc im G env Q) iH rX) Hn y vd) I7 ⟨_,Y,iH,vd,k7,e7,λy Hn sn rn _=>⟨sn,rn⟩⟩) λyv s8 j5=>?_;obtain ⟨y,H8,I8,ry,LS,Fw⟩:=j5
         have k8:=k7.am LS;have CZ:=Q6 e8;obtain ⟨a8,LU,LV,LW,LX⟩:=Q5 k8 CZ;have ea:=Fv a8 ⟨_,_,CZ,LV⟩;subst ea;have W:=k8.write CZ LV LW (LX.append (.cons Fw .nil))
         refine bi (Xk _ s8 rX H8 (.ref a) [y] (.ref a) [yv] (λ_ Hn=>Hn=aH H8 a (.ai (LU++[y]))) I8 rfl (.cons ry .nil)
           ⟨a,LU,y,rfl,rfl,LW,by rw [LX.length];exact hz,rfl⟩) λ_ s9 ⟨_,H9,I9,_,z9⟩=>?_
         subst z9;exact out I9 (λb o=>Fv b ((Z1 CZ).mp o)) W.1 ((LR.trans (a9.refl LS)).trans W.2) ec
     . have he:i=ds.length:=by omega
       rw [Ba (by omega)] at ec;cases ec;refine bi (T.done (qG z X N L cl C s3 (aH Y a (.ai [])) fp) rfl rfl rfl rfl i [] s' E O (λ_ _=>False) Ic (Fs fr) st (w3 (by omega))) λr s4 ⟨hr,I5⟩=>?_
       subst hr;have Fx:=Q6 e3;obtain ⟨aF,xsF,LY,SQ,LZ⟩:=Q5 kc Fx;have ea:=rg aF ⟨_,_,Fx,LY⟩;subst ea;obtain ⟨mm,hn,_⟩:=I5.loc;refine Fo a C s4 O mm _ hn (λh' C0=>?_) (I3.fb (bg _) I5.free) (sm.trans kc.af) (.ai SQ (k.new a (ao.free sm ha)) ?_) (qK sm ha)
       rotate_left
       . cases L0:im with
         |true=>exact LZ.j2 (Fp L0)
         |false=>exact LZ.aE λc z=>⟨⟨z.2.2 L0,z.2.1⟩,Ym kc Fx LY c z⟩
       have nC: ∀b o,O b=some o->b≠C:=λb o e z=>by
         have:=I5.free;rw [z] at e;have e':O C=none:=this;rw [e] at e';cases e'
       have B:=I5.af;have Fy: ∀b o,s3.heap.get? b=some o->b≠C:=λb o e=>dJ (bO e)
       have U:Un (cH X.stack) fp (aH Y a (.ai [])) O s3.heap h':=⟨λb o e n l mU=>(C0.2 b (Fy b o e)).trans (B.keep b o e n l mU),
         λb o e n l mU=>let ⟨sl,z⟩:=B.slot b o e n l mU;⟨sl,(C0.2 b (Fy b o e)).trans z⟩,B.free,
         λb o e mU=>let ⟨o',z⟩:=B.there b o e mU;⟨o',(C0.2 b (Fy b o e)).trans z⟩,B.dE,B.eA,B.eP⟩
       refine aA.fZ I3 I5.os U (λb o e=>(I5.aV b o e).a5 (λc' u vr qq=>(C0.2 c' ?_).trans qq) (λ_ z=>z) λ_ _ z=>z) I5.bare (λb l=>?_)
       . rcases vr with z|z
         . rw [z];exact nC b o e
         . exact nC c' _ z
       . obtain ⟨z0,z1,z2,z3,z4,z5⟩:=f3 b l;exact ⟨z3,z1,z4,z5⟩
   . exact λb o=>SA o
  exact codeAny_compStart_list loop (T.self _ 0 _ _ _ stC loop))
def yi (im:Bool) (N:List Str) (m:Nat) (g:List Nat) (S:fO z X L cl N m g) (n:X.bM=true) (o:DI X tg iter fi)
   (p: ∀(C:Addr) (s:aM) (H:Hp) (e:List Addr),N.Nodup->DG (qG z X N L cl C s H e) tg t/\Bb (qG z X N L cl C s H e) ifs c/\DE (qG z X N L cl C s H e) .s elt fe)
   (u: ∀x,pv iter X.env x=pure x:=by intro _;rfl):
   DE X .t (.ListComp elt [⟨tg,iter,ifs,0⟩] L pos) (zN im m g fi t c fe):=by
 with_unfolding_all exact (by
  rintro h s v H Q I ⟨G,H0,w,d,k,y,q⟩;rw [eval_ListComp]
  exact Uj none (EP X h v Q) im N m g S n o (λC s H e=>p C s H e S.nd) u I k y λa C s' l B r E i J O rep U=>⟨B,E,λY j=>⟨.ref a,l,i Y j,rfl,q _ l O rep U⟩⟩)
def SR (B:D->Slot) (i:Nat) (hW: ∀ {G:Vi} {J H w:Hp} {env:Sl} {j:L2.St} {v:V} {d:D},ax X.K G J env j H->ao H w->aL X.K (Sf G env j) w v d->be H v->ax X.K G J (env.set i (B d)) (j.set i (some v)) w/\a9 env j H (env.set i (B d)) (j.set i (some v)) w) (hN:X.N.Nodup) (im:Bool) (N:List Str) (m:Nat) (g:List Nat) (S:fO z X L cl N m g) (hc:X.bM=true) (hi:DI X tg iter fi)
   (O: ∀(C:Addr) (s:aM) (H:Hp) (l:List Addr),N.Nodup->DG (qG z X N L cl C s H l) tg t/\Bb (qG z X N L cl C s H l) ifs c/\DE (qG z X N L cl C s H l) .s elt fe)
   (Q:X.N[i]?=some x) (hx:Loc X.env.scope x) (hf:UM X x)
   (U:ix (.ListComp elt [⟨tg,iter,ifs,0⟩] L pos) (some (.Name x p)) ps.line X.env=pure true) (hs: ∀x,pv iter X.env x=pure x):
   DS X (.Assign [.Name x p] (.ListComp elt [⟨tg,iter,ifs,0⟩] L pos) ps) (λenv=>zN im m g fi t c fe env>>=λd=> .ok (.nx (env.set i (B d)))):=by
 with_unfolding_all exact (by
  rintro n s j H E I ⟨G,J,env,o,k,ef,q⟩;obtain ⟨d,e1,e2⟩:=jd ef;cases e2;rw [exec_Assign_Name_used _ _ _ _ U];refine ay (xU (ay ?_));refine ay (bi (Uj (some (lG (.Name x p) X.env)) (λ_ y=>SP X n E .next y) im N m g S hc hi (λC s H l=>O C s H l S.nd) hs I k e1 λa C y H' mm r hn u Y sm rep nt=>?_) λ_ y hq=>aZ (aZ hq));have I':=u y.heap ⟨rfl,λ_ _=>rfl⟩;obtain ⟨W1,W2⟩:=hW k sm rep nt;obtain ⟨f0,f1,f2,f3,f4,f5⟩:=Y;refine wpAny_assign_Name (Vd I' hN Q hx (show aO (.ref a) (.ref a) from rfl) (λs2 I2 h=>?_) hf);obtain ⟨b,h,Fa⟩:=h
  have SS:C≠b:=by
   rcases Fa with z|z
   . rw [z];exact f1
   . exact λe=>f4 _ _ z e.symm
  refine ⟨mm,hn.sameBut h SS,λh' rg=>⟨_,H',?_,q _ _ W1 W2⟩⟩
  exact I2.turned (λb o O e=>(rg.2 b O).trans e) f0 f1 f3 f4 f5)
def KI (i:Nat) {p h:Pos} (j:X.N.Nodup) (im:Bool) (N:List Str) (m:Nat) (g:List Nat) (S:fO z X L cl N m g) (l:X.bM=true) (n:DI X tg iter fi)
  (o: ∀(C:Addr) (s:aM) (H:Hp) (a:List Addr),N.Nodup->DG (qG z X N L cl C s H a) tg t/\Bb (qG z X N L cl C s H a) ifs c/\DE (qG z X N L cl C s H a) .s elt fe)
  (d:X.N[i]?=some x:=by rfl) (q:Loc X.env.scope x:=by exact iC rfl) (u:UM X x:=by first|exact .inl rfl|exact .inr rfl|assumption)
  (e:ix (.ListComp elt [⟨tg,iter,ifs,0⟩] L pos) (some (.Name x p)) h.line X.env=pure true:=by rfl) (v: ∀x,pv iter X.env x=pure x:=by intro _;rfl):
  DS X (.Assign [.Name x p] (.ListComp elt [⟨tg,iter,ifs,0⟩] L pos) h) (jw i (zN im m g fi t c fe)):=
 SR .ah i (λk s r w=>⟨(k.am s).gz r,.set s λ_ _ z _=>by cases z⟩) j im N m g S l n o d q u e v
end
def qg (n:Nat) (ds:List D):Sl:=ds.map .ah++dq (n-ds.length) .un
def XL {K:aC} (r:au K B H g ds):ax K (λa=>H a=none\/B a) H (qg N.length ds) (start N g) H:=by
 have l:=r.length
 have c: ∀(i:Nat) (d:D),(qg N.length ds)[i]?≠some (.aw d):=λi d h=>by
   unfold qg at h
   by_cases q:i<ds.length
   . rw [ig (by simpa using q),gY] at h
     cases e:ds[i]? with
     |none=>rw [e] at h;cases h
     |some x=>rw [e] at h;cases h
   . rw [gP (by simpa using q),pD] at h
     split at h<;>cases h
 refine ⟨by simp [L2.start,qg,l],ao.refl H,λ_ z=> .inl z,λi d h=>?_,λi d h=>(c i d h).elim,λi j d e a h=>(c i d h).elim⟩;unfold qg at h
 by_cases q:i<ds.length
 . rw [ig (by simpa using q),gY] at h
   cases e:ds[i]? with
   |none=>rw [e] at h;cases h
   |some x=>
     rw [e] at h;cases h;obtain ⟨v,n,p⟩:=r.get e;refine ⟨v,?_,p.aE λa z=>⟨λo=>?_,.inr z⟩⟩
     . unfold L2.start;rw [ig (by simp;omega),gY,n];rfl
     . obtain ⟨u,w,z,_⟩:=o;exact c u w z
 . rw [gP (by simpa using q),pD] at h
   split at h<;>cases h
section
variable {P:bB} {w:World} {K:aC} {mg:Vj} {af:Heap}
def Meets (e:Bool) (n:Nat) (g:TZ) (ds:List D) (d:D):Prop:=(∃a,g (qg n ds)= .ok (.rt a d)/\(e=true->a=true))\/(d= .aU/\ ∃c,g (qg n ds)= .ok (.nx c))
def Fz {st:Stmt} (y:iB K x j st f I) (S:ar N l (jf st))
    (J: ∀(i:Value) (A:bH) (c:List Env) (s:aM) (H:Hp) (E:XK),aI k (A.deeper (gn j (jf st) s.heap.objs.size f i))->iD (bu gq P w K mg af N j (jf st) f i A c s H E).lF (qa st) g)
    (L: ∀ds d,ds.length=l.length->F ds= .ok d->Meets O N.length g ds d):
    bX P w K mg af gq (k+1) f I l (nD K O l.length F):=by
 with_unfolding_all exact (by
  refine y.ok S (λU H Q E ⟨B,ds,d,n,_⟩=>n) (λi A c s H U Q E Y h=>?_);obtain ⟨B,ds,d,n,r,e,q⟩:=h;refine ⟨_,J i A c s H E Y,?_⟩;have p:=XL (N:=N) r;rcases L ds d (by rw [<-r.length];exact n) e with ⟨L1,z,hf⟩| ⟨rfl,u,z⟩
  . exact ⟨_,H,_,_,p,z,λv o s r nt=>q v o s r λhh=>nt (hf hh)⟩
  . exact ⟨_,H,_,_,p,z,λgy o k' f'=>q .aU o k'.af .aU λ_ a e=>by cases e⟩)
end
open PySem.W in
theorem SU {a:List Int} (h:WData.layableAll [WData.list (a.map WData.int)]=true): ∀n∈a,sT n<=2^20:=λn c=>by
 have d:=layableW_arg h _ lE;have e:=layableW_item d (.int n) (hG.mpr ⟨n,c,rfl⟩);have g:=(layableW_iff.mp e).2.2;simpa only [WData.weight,sT] using g
open PySem.W PySem.Calls Att in
theorem kT {l:AZ}
  (hn:l.most=some n) (I:d.params.defaults=[])
  (call: ∀(w:World) (e c:aM) (B J:Vj) (j:Addr) (o:Obj) (L E g:Value) (a:Addr) (i:List Value) (p:List Int),
   Ground q loose [] XP w e B J c.heap->YP w c.heap->
   c.heap.get? j=some o->o.data= .func (docDef d.name d.params d.body d.scope L E g)->c.heap.CodeRec E d.name->B d.name=some (.ref j)->
   c.heap.get? a=some {cls:= .type "list",data:= .seq i.toArray}->IntsAre i p->p.length<=n->(∀n∈p,sT n<=2^20)->c.gens= #[]->
   nQ (model l.prog w) callerA (.call (.ref j) ⟨[.ref a],[]⟩) (λr H=>r= .ok (.ret (.bool true))/\OldK c.heap H.heap/\H.os=c.os/\oX H.gens) c):
  WalkO q loose XP YP l.row.toRowW d [] (λf i=>PySem.call f i):=by
 intro w e c B J G Y j o L E g dV kV ho hd N U O hg args vals as u v hrd Q hlo;obtain rfl:dV= .none:=Dflts.none U I;obtain rfl:kV= .none:=Dflts.noKw U;obtain ⟨a,i,p,rfl,rfl,y,h,z⟩:=R0 hn u Q;refine enter_call (pB (call w e c B J j o L E g a i p G Y ho (fd_plain hd) N O y h z (SU v) hg) λr H hq=>?_);obtain ⟨rfl,h2,h3,h4⟩:=hq;exact ⟨.inl ⟨.bool true,.bool true,[],rfl,λ_=>rfl,.bool true,R1 l _,λ_=>⟨List.Pairwise.nil,λ_ hm=>(nomatch hm)⟩⟩,h2,h3,h4⟩
def SV {K:aC} (c:sx H) (h:cY K H a d):nV K H a d:=by
 rcases h with (h|h)|h
 . rcases c a with z| ⟨o,e,z⟩
   . rw [z] at h;cases h
   . rw [z] at h;cases h
 . exact .inl h
 . exact .inr h
theorem uc {K:aC}: ∀a:List Int,au K A H (a.map V.int) (a.map D.int)
 | []=> .nil
 |n::r=> .cons (.int n) (uc r)
def og {l:AZ} {K:Params->aC}
  (hn:l.most=some n) (I:n<=aP) (J:d.params.defaults=[]) (hr:aI k callerA)
  (hY: ∀(w:World) (h:Heap),YP w h->(K w.params).In h)
  (hF: ∀(w:World) (y:Vj) (E:Addr) (h:Heap),(K w.params).In h->h.Ns cc y->y d.name=some (.ref E)->
   ∃L:mH,(∀(s:aM) (u:Value),BindsTo s L ⟨[u],[]⟩ [(x,u)])/\
    ∀c:Heap,(K w.params).In c->c.Ns cc y->bX l.prog w (K w.params) y c gq k E L [x] (nD (K w.params) true 1 F))
  (ht: ∀z:List Int,z.length<=n->(∀i∈z,sT i<=2^20)->F [.eN (z.map D.int)]= .ok (.bl true)):
  PySem.W.WalkO q loose XP YP l.row.toRowW d [] (λf Q=>PySem.call f Q):=by
 refine kT hn J λw U SW y mb E o pm cd doc a Q z G Y ho hd wE N B j g p hg=>?_
 have KX:=hY w _ Y;obtain ⟨L,hb,O⟩:=hF w y E _ KX G.T.g N;refine R3 KX G.T.g G.T.b G.T.builtins G.T.nolimit hg B j (dG g I) hr O hb (λH hO hS=>?_) λH e s' h=>h
 exact ⟨Any,_,_,rfl,.cons (.Fc (SV hO hS) (uc z)) .nil,ht z g p,λv H' _ r _=>r.sC⟩
section
variable {X:Cx} {K:aC}
noncomputable def gf (C:Int->Int->Prop) [∀i j,Decidable (C i j)] (g:Int->Int->D):D->D->al D
 | .int i,.int j=>aY (C i j) (.ok (g i j))
 |_,_=> .aj
def L3 {C:Int->Int->Prop} [∀i j,Decidable (C i j)] {g:Int->Int->D} {a b d:D} (h:gf C g a b= .ok d): ∃i j,a= .int i/\b= .int j/\C i j/\d=g i j:=by
 unfold gf at h
 split at h
 . obtain ⟨c,e⟩:=jv h;cases e;exact ⟨_,_,rfl,rfl,c,rfl⟩
 . cases h
def pP {C c:Int->Int->Prop} [∀i j,Decidable (C i j)] {h:Int->Int->V} {g:Int->Int->D} (w: ∀i j,C i j->c i j) (r: ∀i j,Sc K (h i j) (g i j)):fJ K (rI c h) (gf C g):=by
 intro x y H a b d Q l n e q;obtain ⟨i,j,rfl,rfl,o,rfl⟩:=L3 e;exact ⟨i,j,l.cL,n.cL,w i j o,q _ (r i j)⟩
abbrev WD:Int->Int->Prop:=λ_ _=>True
instance: ∀i j,Decidable (WD i j):=λ_ _=>inferInstanceAs (Decidable True)
def Bh (r: ∀i j,Sc K (h i j) (g i j)):fJ K (ls h) (gf WD g):=by
 intro x y H a b d Q c l e q;obtain ⟨i,j,rfl,rfl,n,rfl⟩:=L3 e;exact ⟨i,j,c.cL,l.cL,q _ (r i j)⟩
def FA (h:Sc K v d):be H v:=λa e=>absurd e (h.2 a)
noncomputable def aK:D->D->al D
 | .int i,.int j=> .ok (.int (i+j))
 | .str i,.str j=>aY (i.length+j.length<=aP) (.ok (.str (i++j)))
 | .ai a,.ai b=>aY (a.length+b.length<=aP) (.ok (.ai (a++b)))
 | .ak a,.ak b=>aY (a.isEmpty=false/\a.length+b.length<=aP) (.ok (.ak (a++b)))
 |_,_=> .aj
def jx:ck X (gw .Add) (λx y H Q=>ls (λi j=> .int (i+j)) x y H Q\/(∃i j,x= .str i/\y= .str j/\i.length+j.length<=aP/\Q (.str (i++j)) H)\/su x y H Q\/EY X.K x y H Q):=
 rZ.or (lH.or (sv.or RG))
def au.len_app (r:au K A H c a) (s:au K A H d b) (h:a.length+b.length<=aP):c.length+d.length<=aP:=by rw [r.length,s.length];exact h
def rh {A:Vi} {H:Hp}: ∀c,A c->(H c=none\/A c):=λ_ z=> .inr z
def jN:sE K (λx y H Q=>ls (λi j=> .int (i+j)) x y H Q\/(∃i j,x= .str i/\y= .str j/\i.length+j.length<=aP/\Q (.str (i++j)) H)\/su x y H Q\/EY K x y H Q) aK:=by
 intro A x y H a b d Q w B e q;unfold aK at e
 split at e
 . cases e;exact .inl ⟨_,_,w.cL,B.cL,q _ H (ao.refl H) (.int _) (FA (ms (K:=K) _))⟩
 . obtain ⟨E,Y⟩:=jv e;cases Y;have g: ∀i j:Str,i.length+j.length<=aP->(i++j).length<=aP:=λi j h=>by rw [Bi];exact h
   exact .inr (.inl ⟨_,_,w.j4.1,B.j4.1,E,q _ H (ao.refl H) (.str _ (g _ _ E)) (FA (CU (K:=K) _ (g _ _ E)))⟩)
 . obtain ⟨I,J⟩:=jv e;cases J;obtain ⟨l,L,rfl,g,_,r⟩:=w.cK;obtain ⟨N,O,rfl,u,_,v⟩:=B.cK;refine .inr (.inr (.inl ⟨l,N,L,O,rfl,rfl,g,u,r.low.len_app v.low I,λp n=>q _ _ (ao.aH n) ?_ (qK (ao.refl H) n)⟩));exact .ai ju (.inl n) (((r.low.append v.low).laid n).aE λc z=>⟨.inr z.1,z.2⟩)
 . obtain ⟨⟨I,J⟩,h5⟩:=jv e;cases h5;obtain ⟨l,L,rfl,g,r⟩:=w.dH;obtain ⟨N,O,rfl,u,v⟩:=B.dH;refine .inr (.inr (.inr ⟨l,N,L,O,rfl,rfl,.of g,.of u,λz=>?_,r.len_app v J,λz=>?_,λz p n=>q _ _ (ao.aH n) ?_ (qK (ao.refl H) n)⟩))
   . subst z;cases r;cases I
   . subst z;cases v;rw [nS] at q;refine q _ H (ao.refl H) (.ak g (r.aE rh)) λa e o U m=>?_
     cases e;rw [g] at U;cases U;exact m
   . exact .ak ju (((r.append v).aE rh).am (ao.aH n))
 . cases e
def Za:fJ K (ls λi j=> .int (i-j)) (gf WD λi j=> .int (i-j)):=Bh λi j=>ms _
abbrev oh:Int->Int->Prop:=λi j=>sT i+sT j<=134217728
def Jy:ck X (gw .Mult) (rI oh λi j=> .int (i*j)):=CD λ_ _ _ _ _ _ _ a q=>mul_int q (IntMulOk.of_le (bg _) (bg _) a)
def Wq:fJ K (rI oh λi j=> .int (i*j)) (gf oh λi j=> .int (i*j)):=pP (λ_ _ h=>h) λi j=>ms _
abbrev Bj:Int->Int->Prop:=λ_ j=>0<j
def xH:fJ K (rI (λ_ j=>0<j) λi j=> .int (i%j)) (gf Bj λi j=> .int (i%j)):=pP (λ_ _ h=>h) λi j=>ms _
abbrev sU:Int->Int->Prop:=λi j=>0<=j/\j<=1000000/\i.natAbs<2^64
def vQ:fJ K (rI AB λi j=> .int (i^j.toNat)) (gf sU λi j=> .int (i^j.toNat)):=pP (λ_ _ h=>h) λi j=>ms _
def Bk:fJ K (ls λi j=> .bl (decide (i<j))) (gf WD λi j=> .bl (decide (i<j))):=Bh λi j=>lv _
def VC:fJ K (ls λi j=> .bl (decide (i<=j))) (gf WD λi j=> .bl (decide (i<=j))):=Bh λi j=>lv _
def Bl:fJ K (ls λi j=> .bl (decide (j<i))) (gf WD λi j=> .bl (decide (j<i))):=Bh λi j=>lv _
def SX:fJ K (ls λi j=> .bl (decide (j<=i))) (gf WD λi j=> .bl (decide (j<=i))):=Bh λi j=>lv _
noncomputable def pQ (i j:Str):Bool:=!(EE j i 0 j.length 1).isEmpty
def inD:D->D->al D
 | .str i,.str j=> .ok (.bl (pQ i j))
 |_,_=> .aj
def SY:fJ K (λx y H Q=> ∃i j,x= .str i/\y= .str j/\Q (.bl (!(EE j i 0 j.length 1).isEmpty)) H) inD:=by
 intro x y H a b d Q c g e q;unfold inD at e
 split at e
 . cases e;exact ⟨_,_,c.j4.1,g.j4.1,q _ (lv _)⟩
 . cases e
noncomputable def D.oi:D->Bool
 | .aU=>true
 |_=>false
def ri:D->D->al D
 |a,.aU=> .ok (.bl a.oi)
 |_,_=> .aj
def Vl (r:aL K A H x a):decide (x=V.aU)=a.oi:=by
 have r:=r.f
 cases a with
 |aU=>cases r;rfl
 |bl b=>cases r;rfl
 |int i=>cases r;rfl
 |str z=>cases r.1;rfl
 |mem B d=>obtain ⟨_,rfl,_⟩:=r;rfl
 |du c=>obtain ⟨_,_,_,_,rfl,_⟩:=r;rfl
 |obj c e g=>obtain ⟨_,_,_,_,rfl,_⟩:=r;rfl
 |_=>obtain ⟨_,_,rfl,_⟩:=r;rfl
def L4:fJ K (λx y H Q=>y= .aU/\Q (.bl (decide (x= .aU))) H) ri:=by
 intro x y H a b d Q c g e q;unfold ri at e
 split at e
 . cases e;refine ⟨g.sD,?_⟩;rw [Vl c];exact q _ (lv _)
 . cases e
noncomputable def bo:List D->al D
 | [.ai a]=> .ok (.int a.length)
 | [.eN a]=> .ok (.int a.length)
 | [.ak a]=> .ok (.int a.length)
 | [.str z]=> .ok (.int z.length)
 |_=> .aj
def j7:bC X (.builtin "len") (λc H Q=>(∃p a,c=[.ref p]/\(cY X.K H p a\/eQ X.K H p a)/\Q (.int a.length) H)\/(∃z,c=[.str z]/\z.length<=aP/\Q (.int z.length) H)):=iA.or Uq
def wf:A4 K (λi H Q=>(∃p a,i=[.ref p]/\(cY K H p a\/eQ K H p a)/\Q (.int a.length) H)\/(∃z,i=[.str z]/\z.length<=aP/\Q (.int z.length) H)) bo:=by
 intro i H l d Q r e q;unfold bo at e
 split at e
 . cases e;obtain ⟨v,rfl,c⟩:=r.one;obtain ⟨p,a,rfl,g,_,h⟩:=c.cK;exact .inl ⟨p,a,rfl,.inl (.of g),by rw [h.length];exact q _ (ms _)⟩
 . cases e;obtain ⟨v,rfl,c⟩:=r.one;obtain ⟨p,a,rfl,g,h⟩:=c.mL;exact .inl ⟨p,a,rfl,.inl g.nW,by rw [h.length];exact q _ (ms _)⟩
 . cases e;obtain ⟨v,rfl,c⟩:=r.one;obtain ⟨p,a,rfl,g,h⟩:=c.dH;exact .inl ⟨p,a,rfl,.inr (.of g),by rw [h.length];exact q _ (ms _)⟩
 . cases e;obtain ⟨v,rfl,c⟩:=r.one;obtain ⟨rfl,j⟩:=c.j4;exact .inr ⟨_,rfl,j,q _ (ms _)⟩
 . cases e
def Ye:List D->al D
 | [.ai a]=>(.ok (.ak a))
 | [.ak a]=>(.ok (.ak a))
 |_=> .aj
def L5 (h:H p=some (.ak c)):be H (.ref p):=λa e o q m=>by
 cases e;rw [h] at q;cases q;exact m
def KN:Uz K (λj H Q=> ∃p a,j=[.ref p]/\((cY K H p a/\ ∀l,H l=none->Q (.ref l) (aH H l (.ak a)))\/(eQ K H p a/\Q (.ref p) H))) Ye:=by
 intro A j H n d Q r e q;unfold Ye at e
 split at e
 . cases e;obtain ⟨v,rfl,g⟩:=r.one;obtain ⟨p,a,rfl,c,_,h⟩:=g.cK;exact ⟨p,a,rfl,.inl ⟨.of c,λl i=>q _ _ (ao.aH i) (.ak ju ((h.low.aE rh).am (ao.aH i))) (qK (ao.refl H) i)⟩⟩
 . cases e;obtain ⟨v,rfl,g⟩:=r.one;obtain ⟨p,a,rfl,c,h⟩:=g.dH;exact ⟨p,a,rfl,.inr ⟨.of c,q _ H (ao.refl H) (.ak c (h.aE rh)) (L5 c)⟩⟩
 . cases e
def VL:List D->al D
 | [.ai a]=>(.ok (.ai a))
 | [.ak a]=>(.ok (.ai a))
 |_=> .aj
def KO:Uz K (λn H Q=> ∃p g,n=[.ref p]/\(cY K H p g\/eQ K H p g)/\ ∀l,H l=none->Q (.ref l) (aH H l (.ai g))) VL:=by
 intro A n H o d Q r e q;unfold VL at e
 split at e
 . cases e;obtain ⟨v,rfl,h⟩:=r.one;obtain ⟨p,g,rfl,i,_,j⟩:=h.cK;exact ⟨p,g,rfl,.inl (.of i),λl a=>q _ _ (ao.aH a) (.ai ju (.inl a) ((j.low.laid a).aE λc z=>⟨.inr z.1,z.2⟩)) (qK (ao.refl H) a)⟩
 . cases e;obtain ⟨v,rfl,h⟩:=r.one;obtain ⟨p,g,rfl,i,j⟩:=h.dH;exact ⟨p,g,rfl,.inr (.of i),λl a=>q _ _ (ao.aH a) (.ai ju (.inl a) ((j.laid a).aE λc z=>⟨.inr z.1,z.2⟩)) (qK (ao.refl H) a)⟩
 . cases e
noncomputable def FC:D->Option String
 | .aU=>some "NoneType"
 | .bl _=>some "bool"
 | .int _=>some "int"
 | .str _=>some "str"
 | .ak _=>some "tuple"
 | .ai _=>some "list"
 | .eN _=>none
 | .aQ _ _=>some "dict"
 | .bP _ _=>some "dict"
 | .du _=>none
 | .fq _ _=>none
 | .ii _ _=>none
 | .obj _ _ _=>none
 | .mem _ _=>none
 | .dn _=>none
def S0 (r:aL K A H v d) (h:FC d=some n):fL K H v (.type n):=by
 have r:=r.f;cases d<;>cases h
 . cases r;exact .aU
 . cases r;exact .bl _
 . cases r;exact .int _
 . cases r.1;exact .str _
 . obtain ⟨_,_,rfl,e,_⟩:=r;exact .ak e
 . obtain ⟨_,_,rfl,e,_⟩:=r;exact .ai e
 . obtain ⟨_,_,rfl,e,_⟩:=r;exact .dK e
 . obtain ⟨_,_,rfl,e,_⟩:=r;exact .dT e
noncomputable def iI (T n:String):Bool:=n==T|| (T== "int" &&n== "bool")
def kZ (T:String):Prop:= ∀(K:aC) (n:String),n∈["NoneType", "bool", "int", "str", "tuple", "list", "dict"]->lJ K (.type n) (.type T)=some (iI T n)
def S1 (h:FC d=some n):n∈["NoneType", "bool", "int", "str", "tuple", "list", "dict"]:=by
 cases d<;>first| (cases h;done)| (cases h;decide)
def Xs (h: ∀(K:aC),lJ K (.type "NoneType") (.type T)=some (iI T "NoneType")/\lJ K (.type "bool") (.type T)=some (iI T "bool")/\lJ K (.type "int") (.type T)=some (iI T "int")/\
  lJ K (.type "str") (.type T)=some (iI T "str")/\lJ K (.type "tuple") (.type T)=some (iI T "tuple")/\lJ K (.type "list") (.type T)=some (iI T "list")/\lJ K (.type "dict") (.type T)=some (iI T "dict")):kZ T:=by
 intro K n a;obtain ⟨c,d,e,g,i,j,l⟩:=h K;simp at a;rcases a with rfl|rfl|rfl|rfl|rfl|rfl|rfl<;>assumption
def ub:kZ "int" :=Xs λK=>⟨rfl,rfl,rfl,rfl,rfl,rfl,rfl⟩
def VR:kZ "bool" :=Xs λK=>⟨rfl,rfl,rfl,rfl,rfl,rfl,rfl⟩
def S4:kZ "str" :=Xs λK=>⟨rfl,rfl,rfl,rfl,rfl,rfl,rfl⟩
def qL:kZ "tuple" :=Xs λK=>⟨rfl,rfl,rfl,rfl,rfl,rfl,rfl⟩
def VQ:kZ "list" :=Xs λK=>⟨rfl,rfl,rfl,rfl,rfl,rfl,rfl⟩
def dW (T:String) (d:D):al D:=match FC d with
 |some n=> .ok (.bl (iI T n))
 |none=> .aj
def S5 (T:String) (h:kZ T):bC X (.builtin "isinstance") (λa H Q=> ∃x d,a=[x,.ty T]/\aL X.K Any H x d/\ ∃b,dW T d= .ok (.bl b)/\Q (.bl b) H):=by
 rintro c s v H a w Q I r ⟨x,d,i,j,b,e,q⟩;subst i;obtain ⟨u,l,rfl,o,p⟩:=AE r;cases (show l=vc T from p);unfold dW at e
 split at e
 . rename_i n g;cases e;refine Rk I o (S0 j g) (h X.K n (S1 g)) λtk=>⟨.bl _,H,I.tok tk,rfl,q⟩
 . cases e
def bv (T:String) (f:T1):Sl->al D:=λa=>f a>>=dW T
def wp (T:String) (Ty:Str) {l':Lv} {p c g:Pos} (w:kZ T) (y:DE X l e f) (z:Gl X "isinstance") (B:X.mg "isinstance" =none) (h:Gl X Ty) (i:X.mg Ty=none) (E:lD Ty=some (.type T))
   (I:Ty≠ "__name__" :=by decide) (J:YU Ty:=by decide) (u:bb [e,.Name Ty c] X.env=(false,eval e X.env)::bb [.Name Ty c] X.env:=by exact jm rfl)
   (j:bb [.Name Ty c] X.env=(false,eval (.Name Ty c) X.env)::bb [] X.env:=by exact jm rfl) (n:(dL g (bb [.Name Ty c] X.env)).any (·.1)=false:=by exact jS rfl):
   DE X l' (.Call (.Name "isinstance" p) [e,.Name Ty c] [] g) (bv T f):=by
 with_unfolding_all exact (
  PE.imp (Q4 (S5 T w) z B boot_isinstance (qc y (qc (PB (v:= .ty T) h i E rfl I J) wo j) u) (by decide) (by decide) u n) λY H Q=>by
   rintro ⟨G,L,o,d,k,N,q⟩;obtain ⟨a,e1,e2⟩:=jd N;refine ⟨G,L,o,a,k,e1,λv O s r _=>?_⟩
   have U: ∃b,d= .bl b:=by
    unfold dW at e2
    split at e2
    . cases e2;exact ⟨_,rfl⟩
    . cases e2
   obtain ⟨b,rfl⟩:=U
   exact ⟨v,a,rfl,r.aE Lv.bf,b,e2,q _ O s (.bl b) (lv (K:=X.K) b).T⟩)
def X8:List D->Option (List Bool)
 | []=>some []
 | .bl b::r=>(X8 r).map (b:: ·)
 |_=>none
theorem Ut: ∀ {ds:List D} {bs:List Bool},X8 ds=some bs->ds=bs.map D.bl
 | [],bs,h=>by cases h;rfl
 |d::r,bs,h=>by
  cases d with
  |bl b=>
   simp only [X8,E7] at h;obtain ⟨a,c,rfl⟩:=h;rw [Ut c];rfl
  |_=>cases h
def S6 (bs:List Bool):X8 (bs.map D.bl)=some bs:=by
 induction bs with
 |nil=>rfl
 |cons b r a=>simp [X8,a]
noncomputable def k4:List D->al D
 | [.ai a]=>match X8 a with
  |some bs=> .ok (.bl (bs.all id))
  |none=> .aj
 |_=> .aj
theorem Yi: ∀ {bs:List Bool} {a:List V},au K A H a (bs.map D.bl)->a=bs.map V.bl
 | [],_,.nil=>rfl
 |b::bs,_,.cons h t=>by rw [h.sC,Yi t];rfl
theorem Yb: ∀ {bs:List Bool} {a:List Value},aN (bs.map V.bl) a->a=bs.map qt
 | [],_,.nil=>rfl
 |b::bs,_,.cons h t=>by
  rw [Yb t];have:_=qt b:=h;rw [this];rfl
def XU (J:X.bM=true):bC X (.builtin "all") (λB H Q=> ∃(p:Addr) (bs:List Bool),B=[.ref p]/\cY X.K H p (bs.map V.bl)/\Q (.bl (bs.all id)) H):=by
 rintro E s σ H B us Q I r ⟨p,bs,L,N,q⟩;subst L;obtain ⟨u,rfl,O⟩:=Wx r;cases O;obtain ⟨U,Y,h,hz⟩:=I.list N;have c:=Yb Y;subst c;refine call_all_walk (A6 h.isList ?_)
 have j:p≠s.heap.objs.size:=by
   obtain ⟨o,n,e,_⟩:=h;exact dJ (bO e)
 refine ⟨s.heap.objs.size,_,_,_,_,_,λi=>(bs[i]?).getD true,rfl,Walks.list (show X.A.in1.handled=none from I.ok.hd J) s.heap.objs.size p j (bs.map qt).toArray,⟨⟨_,c9 _ rfl,rfl,rfl⟩,h.isList.at λo e=>bI _ e⟩,?_,λh' tk kk=>?_⟩
 . intro i v s' Q' E' hP l;have a:(bs.map qt)[i]?=some v:=by simpa using hP
   rw [gY] at a
   cases e:bs[i]? with
   |none=>rw [e] at a;cases a
   |some b=>
    rw [e] at a;cases a;dsimp only at l;rw [e] at l;exact pk l
 . have hn:(bs.map qt).toArray.size=bs.length:=by simp
   have e:((lC (bs.map qt).toArray.size).all λi=>(bs[i]?).getD true)=bs.all id:=by
    rw [hn,Bool.eq_iff_iff,mP,mP]
    constructor
    . intro w b y;obtain ⟨i,g,rfl⟩:=List.mem_iff_getElem.mp y;have:=w i (pd.mpr g);rw [cU g] at this;exact this
    . intro w i g;have d:=pd.mp g;rw [cU d];exact w _ (pR d)
   rw [e];refine ⟨.bl _,H,?_,rfl,q⟩
   exact I.kept λb o e=>kk b o (by
    intro z;have y:b=s.heap.objs.size:=by simpa using z
    exact absurd (bO e) (by rw [y];exact oV _)) (bI _ e)
def FD:A4 K (λc H Q=> ∃(p:Addr) (bs:List Bool),c=[.ref p]/\cY K H p (bs.map V.bl)/\Q (.bl (bs.all id)) H) k4:=by
 intro c H j d Q r e q;unfold k4 at e
 split at e
 . split at e
   . rename_i bs a;cases e;obtain ⟨v,rfl,h⟩:=r.one;obtain ⟨p,l,rfl,i,_,g⟩:=h.cK;rw [Ut a] at g;have:=Yi g;subst this;exact ⟨p,bs,rfl,.of i,q _ (lv _)⟩
   . cases e
 . cases e
end
end M
namespace M
open PySem PySem.Spec L2
open PyProof.Rows hiding St
open PySem.SeqAt (EqAt RcAt RcNeAt)
mutual
theorem D.ind {P:D->Prop} (g:P .aU) (h1: ∀b,P (.bl b)) (h2: ∀i,P (.int i)) (h: ∀x,P (.str x)) (j: ∀ds,(∀d∈ds,P d)->P (.ak ds)) (l: ∀ds,(∀d∈ds,P d)->P (.ai ds))
  (n: ∀ds,(∀d∈ds,P d)->P (.eN ds)) (a:(∀e ds,(∀d∈ds,P d)->P (.aQ e ds))/\(∀e ds,(∀d∈ds,P d)->P (.bP e ds))/\(∀c,P (.du c))/\(∀e ds,(∀d∈ds,P d)->P (.fq e ds))/\(∀e ds,(∀d∈ds,P d)->P (.ii e ds))/\(∀c ns ds,(∀d∈ds,P d)->P (.obj c ns ds))/\(∀B o,P (.mem B o))/\ ∀ds,P (.dn ds)): ∀d,P d
 | .aU=>g
 | .bl b=>h1 b
 | .int i=>h2 i
 | .str x=>h x
 | .ak ds=>j ds (D.iJ g h1 h2 h j l n a ds)
 | .ai ds=>l ds (D.iJ g h1 h2 h j l n a ds)
 | .eN ds=>n ds (D.iJ g h1 h2 h j l n a ds)
 | .aQ e ds=>a.1 e ds (D.iJ g h1 h2 h j l n a ds)
 | .bP e ds=>a.2.1 e ds (D.iJ g h1 h2 h j l n a ds)
 | .du c=>a.2.2.1 c
 | .fq e ds=>a.2.2.2.1 e ds (D.iJ g h1 h2 h j l n a ds)
 | .ii e ds=>a.2.2.2.2.1 e ds (D.iJ g h1 h2 h j l n a ds)
 | .obj c ns ds=>a.2.2.2.2.2.1 c ns ds (D.iJ g h1 h2 h j l n a ds)
 | .mem B o=>a.2.2.2.2.2.2.1 B o
 | .dn ds=>a.2.2.2.2.2.2.2 ds
theorem D.iJ {P:D->Prop} (e:P .aU) (h1: ∀b,P (.bl b)) (h2: ∀i,P (.int i)) (g: ∀x,P (.str x)) (j: ∀ds,(∀d∈ds,P d)->P (.ak ds)) (l: ∀ds,(∀d∈ds,P d)->P (.ai ds))
  (n: ∀ds,(∀d∈ds,P d)->P (.eN ds)) (o:(∀a ds,(∀d∈ds,P d)->P (.aQ a ds))/\(∀a ds,(∀d∈ds,P d)->P (.bP a ds))/\(∀c,P (.du c))/\(∀a ds,(∀d∈ds,P d)->P (.fq a ds))/\(∀a ds,(∀d∈ds,P d)->P (.ii a ds))/\(∀c ns ds,(∀d∈ds,P d)->P (.obj c ns ds))/\(∀B u,P (.mem B u))/\ ∀ds,P (.dn ds)): ∀ds:List D,∀d∈ds,P d
 | [],_,h=>by cases h
 |x::r,d,h=>by
  have p:=D.ind e h1 h2 g j l n o x;have q:=D.iJ e h1 h2 g j l n o r;rcases bA.mp h with z|z
  . rw [z];exact p
  . exact q d z
end
mutual
def D.dX:D->Nat
 | .ak a=>D.cW a+1
 | .ai a=>D.cW a+1
 |_=>0
def D.cW:List D->Nat
 | []=>0
 |d::a=>max (D.dX d) (D.cW a)
end
mutual
def D.cy:D->Bool
 | .eN _=>false
 | .aQ _ _=>false
 | .bP _ _=>false
 | .du _=>false
 | .fq _ _=>false
 | .ii _ _=>false
 | .obj _ _ _=>false
 | .mem _ _=>false
 | .dn _=>false
 | .ak a=>D.b7 a
 | .ai a=>D.b7 a
 |_=>true
def D.b7:List D->Bool
 | []=>true
 |d::a=>D.cy d&&D.b7 a
end
mutual
def df:D->D->Bool
 | .aU,.aU=>true
 | .bl a,.bl b=>a==b
 | .bl a,.int j=>(if a then 1 else 0)==j
 | .int i,.bl b=>i==(if b then 1 else 0)
 | .int i,.int j=>i==j
 | .str x,.str y=>x==y
 | .ak a,.ak b=>cz a b
 | .ai a,.ai b=>cz a b
 |_,_=>false
def cz:List D->List D->Bool
 | [],[]=>true
 |a::c,b::bs=>df a b&&cz c bs
 |_,_=>false
end
def L6:(∀i,D.cy (.int i)=true)/\(∀x,D.cy (.str x)=true)/\(∀ds,D.cy (.ak ds)=D.b7 ds)/\(∀ds,D.cy (.ai ds)=D.b7 ds):=by and_intros<;>intros<;>rfl
def FE:(∀i c,df (.int i) (.int c)=(i==c))/\(∀i d,df (.int i) (.str d)=false)/\(∀i a,df (.int i) (.ak a)=false)/\(∀x c,df (.str x) (.int c)=false)/\(∀x d,df (.str x) (.str d)=(x==d))/\(∀x a,df (.str x) (.ak a)=false)/\(∀ds c,df (.ak ds) (.int c)=false)/\(∀ds d,df (.ak ds) (.str d)=false)/\(∀ds a,df (.ak ds) (.ak a)=cz ds a)/\(∀ds a,df (.ai ds) (.ai a)=cz ds a):=by and_intros<;>intros<;>rfl
theorem Zr: ∀ {ds:List D} {d:D},d∈ds->D.dX d<=D.cW ds
 |x::r,d,h=>by
  simp only [D.cW];rcases bA.mp h with rfl|h
  . omega
  . have:=Zr h;omega
theorem Ky: ∀ {ds:List D} {d:D},D.b7 ds=true->d∈ds->D.cy d=true
 |x::r,d,a,h=>by
  simp only [D.b7,dR] at a;rcases bA.mp h with rfl|h
  . exact a.1
  . exact Ky a.2 h
theorem JJ: ∀ {ds:List D},(∀d∈ds,D.cy d=true->df d d=true)->D.b7 ds=true->cz ds ds=true
 | [],_,_=>by simp [cz]
 |d::ds,h,a=>by
  simp only [D.b7,dR] at a;simp only [cz,dR];exact ⟨h d lE a.1,JJ (λx c=>h x (gc _ c)) a.2⟩
def gC (d:D):D.cy d=true->df d d=true:=by
 refine D.ind (P:=λd=>D.cy d=true->df d d=true) ?_ ?_ ?_ ?_ ?_ ?_ ?_ ?_ d
 . intro _;rfl
 . intro b _;exact beq_self_eq_true b
 . intro i _;exact beq_self_eq_true i
 . intro x _;exact beq_self_eq_true x
 . intro g e a;exact JJ e a
 . intro g e a;exact JJ e a
 . intro g e a;cases a
 . exact ⟨(by intro h g e a;cases a),(by intro h g e a;cases a),(by intro c a;cases a),(by intro h g e a;cases a),(by intro h g e a;cases a),(by intro c j g e a;cases a),(by intro B l a;cases a),(by intro g a;cases a)⟩
section
variable {K:aC} {H:Hp}
def au.lR (h: ∀d∈ds,∀(A l:Vi) v g,D.cy d=true->D.cy g=true->aL K A H v d->aL K l H v g->d=g) (i:D.b7 ds=true) (a:D.b7 c=true) (r:au K A H j ds) (e:au K l H j c):ds=c:=by
 induction j generalizing ds c with
 |nil=>cases r.fN;cases e.fN;rfl
 |cons v j n=>
  obtain ⟨_,_,rfl,r,t⟩:=r.cP;obtain ⟨_,_,rfl,e,o⟩:=e.cP;simp only [D.b7,dR] at i a;rw [h _ lE _ _ _ _ i.1 a.1 r e,n (λd hd=>h d (gc _ hd)) i.2 a.2 t o]
def YA (h:gZ K A H v d/\D.cy d=true):(v= .aU/\d= .aU)\/(∃b,v= .bl b/\d= .bl b)\/(∃b,v= .int b/\d= .int b)\/(∃b,v= .str b/\d= .str b)\/(∃a g ds,v= .ref a/\d= .ak ds/\H a=some (.ak g)/\au K A H g ds)\/(∃a g ds,v= .ref a/\d= .ai ds/\H a=some (.ai g)/\au K (λc=>A c/\c≠a) H g ds):=by
 obtain ⟨r,h⟩:=h
 cases d with
 |aU=>exact .inl ⟨r,rfl⟩
 |bl b=>exact .inr (.inl ⟨_,r,rfl⟩)
 |int b=>exact .inr (.inr (.inl ⟨_,r,rfl⟩))
 |str b=>exact .inr (.inr (.inr (.inl ⟨_,r.1,rfl⟩)))
 |ak ds=>
  obtain ⟨a,g,r,e,i⟩:=r;exact .inr (.inr (.inr (.inr (.inl ⟨_,_,_,r,rfl,e,i⟩))))
 |ai ds=>
  obtain ⟨a,g,r,e,_,i⟩:=r;exact .inr (.inr (.inr (.inr (.inr ⟨_,_,_,r,rfl,e,i⟩))))
 |_=>cases h
def S7 (h:gZ K A H .aU d/\D.cy d=true): .aU=d:=by
 rcases YA h with ⟨_,e⟩| ⟨_,z,_⟩| ⟨_,z,_⟩| ⟨_,z,_⟩| ⟨_,_,_,z,_⟩| ⟨_,_,_,z,_⟩
 . exact e.symm
 all_goals cases z
def S8 (h:gZ K A H (.bl b) d/\D.cy d=true): .bl b=d:=by
 rcases YA h with ⟨z,_⟩| ⟨_,z,e⟩| ⟨_,z,_⟩| ⟨_,z,_⟩| ⟨_,_,_,z,_⟩| ⟨_,_,_,z,_⟩<;>cases z;exact e.symm
def S9 (h:gZ K A H (.int b) d/\D.cy d=true): .int b=d:=by
 rcases YA h with ⟨z,_⟩| ⟨_,z,_⟩| ⟨_,z,e⟩| ⟨_,z,_⟩| ⟨_,_,_,z,_⟩| ⟨_,_,_,z,_⟩<;>cases z;exact e.symm
def Ta (h:gZ K A H (.str b) d/\D.cy d=true): .str b=d:=by
 rcases YA h with ⟨z,_⟩| ⟨_,z,_⟩| ⟨_,z,_⟩| ⟨_,z,e⟩| ⟨_,_,_,z,_⟩| ⟨_,_,_,z,_⟩<;>cases z;exact e.symm
def Tb (h:gZ K A H (.ref a) d/\D.cy d=true) (c:H a=some (.ak g)): ∃ds,d= .ak ds/\au K A H g ds:=by
 rcases YA h with ⟨z,_⟩| ⟨_,z,_⟩| ⟨_,z,_⟩| ⟨_,z,_⟩| ⟨_,_,_,z,e,q,r⟩| ⟨_,_,_,z,e,q,r⟩<;>cases z<;>rw [c] at q<;>cases q;exact ⟨_,e,r⟩
def Tc (h:gZ K A H (.ref a) d/\D.cy d=true) (g:H a=some (.ai i)): ∃ds,d= .ai ds/\au K (λc=>A c/\c≠a) H i ds:=by
 rcases YA h with ⟨z,_⟩| ⟨_,z,_⟩| ⟨_,z,_⟩| ⟨_,z,_⟩| ⟨_,_,_,z,e,q,r⟩| ⟨_,_,_,z,e,q,r⟩<;>cases z<;>rw [g] at q<;>cases q;exact ⟨_,e,r⟩
def aL.inj (d:D): ∀(A j:Vi) v g,D.cy d=true->D.cy g=true->aL K A H v d->aL K j H v g->d=g:=by
 have w: ∀ {v A g I},aL K A H v g->D.cy g=true->v=I->gZ K A H I g/\D.cy g=true:=λr h e=>⟨e▸r.f,h⟩
 refine D.ind (P:=λd=> ∀(A j:Vi) v g,D.cy d=true->D.cy g=true->aL K A H v d->aL K j H v g->d=g) ?_ ?_ ?_ ?_ ?_ ?_ ?_ ?_ d
 . intro A j v g _ h r l;exact S7 (w l h r.f)
 . intro b A j v g _ h r l;exact S8 (w l h r.f)
 . intro b A j v g _ h r l;exact S9 (w l h r.f)
 . intro b A j v g _ h r l;exact Ta (w l h r.f.1)
 . intro o p A j v g i n r l;obtain ⟨a,J,rfl,y,z⟩:=r.dH;have q:D.b7 o=true:=i;obtain ⟨L,rfl,u⟩:=Tb (w l n rfl) y;rw [au.lR p q n z u]
 . intro o p A j v g i n r l;obtain ⟨a,J,rfl,y,_,z⟩:=r.cK;have q:D.b7 o=true:=i;obtain ⟨L,rfl,u⟩:=Tc (w l n rfl) y;rw [au.lR p q n z u]
 . intro o p A j v g i;cases i
 . exact ⟨(by intro E o p A j v g i;cases i),(by intro E o p A j v g i;cases i),(by intro c A j v g i;cases i),(by intro E o p A j v g i;cases i),(by intro E o p A j v g i;cases i),(by intro c ns o p A j v g i;cases i),(by intro B N A j v g i;cases i),(by intro o A j v g i;cases i)⟩
end
def Bm (a b:List D) (j:Nat):Bool:=match a[j]?,b[j]? with
 |some x,some y=>df x y
 |_,_=>true
theorem J7: ∀(a b:List D),a.length=b.length->cz a b=(lC a.length).all (Bm a b)
 | [],[],_=>by simp [cz]
 |x::a,y::b,h=>by
  have c:a.length=b.length:=by simpa using h
  rw [bN,List.range_succ_eq_map,A2,List.all_map];simp only [cz];rw [J7 a b c];congr 1
theorem Zn: ∀(a b:List D),a.length≠b.length->cz a b=false
 | [],[],h=>absurd rfl h
 | [],y::b,_=>by simp [cz]
 |x::a,[],_=>by simp [cz]
 |x::a,y::b,h=>by
  simp only [cz];rw [Zn a b (by simpa using h),Bool.and_false]
def ur (a b:List D):cz a b=((lC (min a.length b.length)).all (Bm a b)&&a.length==b.length):=by
 by_cases h:a.length=b.length
 . rw [J7 a b h,h];simp
 . rw [Zn a b h];simp [h]
section
variable {X:Cx} {Y:List (Addr×Obj)} {U:L2.St} {H:Hp} {s:aM}
inductive Cm (X:Cx) (H:Hp) (s:aM):Value->D->Prop where
 |aU:Cm X H s .none .aU
 |bl (b:Bool):Cm X H s (.bool b) (.bl b)
 |int (i:Int) (t:Tok):Cm X H s (.int i t) (.int i)
 |str (x:Str) (t:Tok):Cm X H s (.str x t) (.str x)
 |ak {a:Addr} {xs:List V} {nF:List Value} {ds:List D}:H a=some (.ak xs)->s.heap.IsTuple a nF.toArray->aN xs nF->au X.K Any H xs ds->Cm X H s (.ref a) (.ak ds)
 |ai {a:Addr} {xs:List V} {nF:List Value} {ds:List D}:H a=some (.ai xs)->s.heap.IsList a nF.toArray->aN xs nF->au X.K Any H xs ds->Cm X H s (.ref a) (.ai ds)
def Zu (I:aA X Y U H s) (r:aL X.K Any H v d) (a:aO v u) (j:D.cy d=true):Cm X H s u d:=by
 have r:=r.f
 cases d with
 |aU=>cases r;cases a;exact .aU
 |bl b=>cases r;cases a;exact .bl b
 |int i=>cases r;obtain ⟨t,rfl⟩:=a;exact .int i t
 |str x=>cases r.1;obtain ⟨t,rfl⟩:=a;exact .str x t
 |ak l=>
  obtain ⟨_,_,rfl,e,c⟩:=r;cases a;obtain ⟨g,h,p,n⟩:=I.tuple (.of e);exact .ak e p h c
 |ai l=>
  obtain ⟨_,_,rfl,e,_,c⟩:=r;cases a;obtain ⟨g,h,p,n⟩:=I.list (.of e);exact .ai e p.isList h c.low
 |_=>cases j
def C1 {A:bH} (p:au X.K Any H B a) (r:au X.K Any H E b) (w:aN B g) (vb:aN E c)
  (I: ∀d∈a,∀(v i:V) (u h:Value) (n:D),aL X.K Any H v d->aO v u->aL X.K Any H i n->aO i h->D.cy d=true->D.cy n=true->EqAt A.in1 s u h (df d n)) (J:D.b7 a=true) (L:D.b7 b=true):
  ∀j (y:j<g.toArray.size) (z:j<c.toArray.size),EqAt A.in1 s g.toArray[j] c.toArray[j] (Bm a b j):=by
 intro j y z;have l1:=w.length;have l2:=vb.length;have l3:=p.length;have l4:=r.length;have l:j<a.length:=by simp at y;omega
 have o:j<b.length:=by simp at z;omega
 obtain ⟨v,e1,N⟩:=p.get (cU l);obtain ⟨i,e2,O⟩:=r.get (cU o);obtain ⟨u,Q,r3⟩:=w.get e1;obtain ⟨h,e4,r4⟩:=vb.get e2
 have g1:g.toArray[j]=u:=by
  have:=ic.mp Q;obtain ⟨_,q⟩:=this;simpa using q
 have g2:c.toArray[j]=h:=by
  have:=ic.mp e4;obtain ⟨_,q⟩:=this;simpa using q
 rw [g1,g2];have e:Bm a b j=df a[j] b[j]:=by unfold Bm;rw [cU l,cU o]
 rw [e];exact I _ (pR l) v i u h _ N r3 O r4 (Ky J (pR l)) (Ky L (pR o))
def ut (I:aA X Y U H s) (d:D): ∀(A:bH) (v n:V) (u o:Value) (l:D),A.units+d.dX<cLine->aL X.K Any H v d->aO v u->aL X.K Any H n l->aO n o->D.cy d=true->D.cy l=true->EqAt A s u o (df d l):=by
 refine D.ind (P:=λd=> ∀(A:bH) (v n:V) (u o:Value) (l:D),A.units+d.dX<cLine->aL X.K Any H v d->aO v u->aL X.K Any H n l->aO n o->D.cy d=true->D.cy l=true->EqAt A s u o (df d l)) ?_ ?_ ?_ ?_ ?_ ?_ ?_ ?_ d
 . intro A v n u o l w r y E g h j;cases Zu I r y h;have a:A.units<cLine:=by simp only [D.dX] at w;omega
   cases Zu I E g j
   . exact EqAt.same _
   . exact EqAt.none_bool _
   . exact EqAt.none_int _ _
   . exact EqAt.none_str _ _
   . exact EqAt.none_tuple (by assumption) a
   . exact EqAt.none_list (by assumption) a
 . intro b A v n u o l w r y E g h j;cases Zu I r y h;have a:A.units<cLine:=by simp only [D.dX] at w;omega
   cases Zu I E g j
   . exact EqAt.bool_none _
   . exact EqAt.bool_bool _ _
   . exact EqAt.bool_int _ _ _
   . exact EqAt.bool_str _ _ _
   . exact EqAt.bool_tuple _ (by assumption) a
   . exact EqAt.bool_list _ (by assumption) a
 . intro i A v n u o l w r y E g h j;cases Zu I r y h;have a:A.units<cLine:=by simp only [D.dX] at w;omega
   cases Zu I E g j
   . exact EqAt.int_none _ _
   . exact EqAt.int_bool _ _ _
   . exact EqAt.int_int _ _ _ _
   . exact EqAt.int_str _ _ _ _
   . exact EqAt.int_tuple _ _ (by assumption) a
   . exact EqAt.int_list _ _ (by assumption) a
 . intro x A v n u o l w r y E g h j;cases Zu I r y h;have a:A.units<cLine:=by simp only [D.dX] at w;omega
   cases Zu I E g j
   . exact EqAt.str_none _ _
   . exact EqAt.str_bool _ _ _
   . exact EqAt.str_int _ _ _ _
   . exact EqAt.str_str _ _ _ _
   . exact EqAt.str_tuple _ _ (by assumption) a
   . exact EqAt.str_list _ _ (by assumption) a
 . intro O ih A v n u o l w r y E g h j;have a:A.units<cLine:=by simp only [D.dX] at w;omega
   have c1:=Zu I r y h;have c2:=Zu I E g j
   cases c1 with
   |ak e p rv rs=>
     cases c2 with
     |aU=>exact EqAt.tuple_none p a
     |bl b=>exact EqAt.tuple_bool _ p a
     |int i t=>exact EqAt.tuple_int _ _ p a
     |str x t=>exact EqAt.tuple_str _ _ p a
     |ai e2 p2 L J=>exact EqAt.tuple_list p p2 a
     | @ak a2 FG Q N e2 p2 L J=>
      rename_i a1 FH mV
      by_cases z:a1=a2
      . subst z;have ed:=aL.inj _ Any Any _ _ h j (aL.ak e rs) (aL.ak e2 J);rw [<-ed,gC _ h];exact EqAt.same _
      . have q:=RcAt.tuples p p2 a (C1 rs J rv L (λd hd v n u o l g1 g2 g3 g4 g5 g6=>ih d hd A.in1 v n u o l (by
          have:=Zr hd;simp only [D.dX] at w;show A.units+1+d.dX<cLine
          omega) g1 g2 g3 g4 g5 g6) h j)
        have n1:mV.toArray.size=O.length:=by rw [cb,<-rv.length,rs.length]
        have n2:Q.toArray.size=N.length:=by rw [cb,<-L.length,J.length]
        rw [n1,n2,<-ur] at q;exact EqAt.of_refs z q
 . intro O ih A v n u o l w r y E g h j;have a:A.units<cLine:=by simp only [D.dX] at w;omega
   have c1:=Zu I r y h;have c2:=Zu I E g j
   cases c1 with
   |ai e p rv rs=>
     cases c2 with
     |aU=>exact EqAt.list_none p a
     |bl b=>exact EqAt.list_bool _ p a
     |int i t=>exact EqAt.list_int _ _ p a
     |str x t=>exact EqAt.list_str _ _ p a
     |ak e2 p2 L J=>exact EqAt.list_tuple p p2 a
     | @ai a2 FG Q N e2 p2 L J=>
      rename_i a1 FH mV;have n1:mV.toArray.size=O.length:=by rw [cb,<-rv.length,rs.length]
      have n2:Q.toArray.size=N.length:=by rw [cb,<-L.length,J.length]
      by_cases z:a1=a2
      . subst z
        have ed:D.ai O=D.ai N:=by
          rw [e] at e2;cases e2;rw [au.lR (λd _ A A' v l=>aL.inj d A A' v l) h j rs J]
        rw [<-ed,gC _ h];exact EqAt.same _
      . simp only [FE]
        by_cases hl:O.length=N.length
        . have q:=RcAt.lists p p2 (by rw [n1,n2];exact hl) a (C1 rs J rv L (λd hd v n u o l g1 g2 g3 g4 g5 g6=>ih d hd A.in1 v n u o l (by
           have:=Zr hd;simp only [D.dX] at w;show A.units+1+d.dX<cLine
           omega) g1 g2 g3 g4 g5 g6) h j)
          rw [n1,<-J7 O N hl] at q;exact EqAt.of_refs z q
        . rw [Zn O N hl];exact EqAt.of_refs z (RcAt.lists_lengths p p2 (by rw [n1,n2];simp [hl]) a)
 . intro O ih A v n u o l w r y E g h;cases h
 . exact ⟨(by intro ks O ih A v n u o l w r y E g h;cases h),(by intro ks O ih A v n u o l w r y E g h;cases h),(by intro c A v n u o l w r y E g h;cases h),(by intro ks O ih A v n u o l w r y E g h;cases h),(by intro ks O ih A v n u o l w r y E g h;cases h),(by intro c ns O ih A v n u o l w r y E g h;cases h),(by intro B Φ A v n u o l w r y E g h;cases h),(by intro O A v n u o l w r y E g h;cases h)⟩
def vB (I:aA X Y U H s) {A:bH} (hu:A.units+d.dX<cLine) (r:aL X.K Any H v d) (ru:aO v u) (r':aL X.K Any H N o) (Td:aO N z) (hb:D.cy d=true) (w:D.cy o=true):
  RcAt A s u z (df d o)/\RcNeAt A s u z (!df d o):=by
 have a:A.units<cLine:=by omega
 have c1:=Zu I r ru hb;have B:=Zu I r' Td w
 cases c1 with
 |aU=>
  cases B
  . exact ⟨RcAt.none_none,RcNeAt.none_none⟩
  . exact ⟨RcAt.none_bool _,RcNeAt.none_bool _⟩
  . exact ⟨RcAt.none_int _ _,RcNeAt.none_int _ _⟩
  . exact ⟨RcAt.none_str _ _,RcNeAt.none_str _ _⟩
  . exact ⟨RcAt.none_tuple (by assumption) a,RcNeAt.none_tuple (by assumption) a⟩
  . exact ⟨RcAt.none_list (by assumption) a,RcNeAt.none_list (by assumption) a⟩
 |bl b=>
  cases B
  . exact ⟨RcAt.bool_none _,RcNeAt.bool_none _⟩
  . exact ⟨RcAt.bool_bool _ _,RcNeAt.bool_bool _ _⟩
  . exact ⟨RcAt.bool_int _ _ _,RcNeAt.bool_int _ _ _⟩
  . exact ⟨RcAt.bool_str _ _ _,RcNeAt.bool_str _ _ _⟩
  . exact ⟨RcAt.bool_tuple _ (by assumption) a,RcNeAt.bool_tuple _ (by assumption) a⟩
  . exact ⟨RcAt.bool_list _ (by assumption) a,RcNeAt.bool_list _ (by assumption) a⟩
 |int i t=>
  cases B
  . exact ⟨RcAt.int_none _ _,RcNeAt.int_none _ _⟩
  . exact ⟨RcAt.int_bool _ _ _,RcNeAt.int_bool _ _ _⟩
  . exact ⟨RcAt.int_int _ _ _ _,RcNeAt.int_int _ _ _ _⟩
  . exact ⟨RcAt.int_str _ _ _ _,RcNeAt.int_str _ _ _ _⟩
  . exact ⟨RcAt.int_tuple _ _ (by assumption) a,RcNeAt.int_tuple _ _ (by assumption) a⟩
  . exact ⟨RcAt.int_list _ _ (by assumption) a,RcNeAt.int_list _ _ (by assumption) a⟩
 |str x t=>
  cases B
  . exact ⟨RcAt.str_none _ _,RcNeAt.str_none _ _⟩
  . exact ⟨RcAt.str_bool _ _ _,RcNeAt.str_bool _ _ _⟩
  . exact ⟨RcAt.str_int _ _ _ _,RcNeAt.str_int _ _ _ _⟩
  . exact ⟨RcAt.str_str _ _ _ _,RcNeAt.str_str _ _ _ _⟩
  . exact ⟨RcAt.str_tuple _ _ (by assumption) a,RcNeAt.str_tuple _ _ (by assumption) a⟩
  . exact ⟨RcAt.str_list _ _ (by assumption) a,RcNeAt.str_list _ _ (by assumption) a⟩
 | @ak a1 FH l E e p O Q=>
  cases B with
  |aU=>exact ⟨RcAt.tuple_none p a,RcNeAt.tuple_none p a⟩
  |bl b=>exact ⟨RcAt.tuple_bool _ p a,RcNeAt.tuple_bool _ p a⟩
  |int i t=>exact ⟨RcAt.tuple_int _ _ p a,RcNeAt.tuple_int _ _ p a⟩
  |str x t=>exact ⟨RcAt.tuple_str _ _ p a,RcNeAt.tuple_str _ _ p a⟩
  |ai e2 h c g=>exact ⟨RcAt.tuple_list p h a,RcNeAt.tuple_list p h a⟩
  | @ak a2 FG n j e2 h c g=>
    have y:l.toArray.size=E.length:=by rw [cb,<-O.length,Q.length]
    have J:n.toArray.size=j.length:=by rw [cb,<-c.length,g.length]
    have el:=C1 Q g O c (λd hd v N u z o g1 g2 g3 g4 g5 g6=>ut I d A.in1 v N u z o (by
      have:=Zr hd;simp only [D.dX] at hu;show A.units+1+d.dX<cLine
      omega) g1 g2 g3 g4 g5 g6) hb w
    have q:=RcAt.tuples p h a el;have q2:=RcNeAt.tuples p h a el;rw [y,J,<-ur] at q q2;exact ⟨q,q2⟩
 | @ai a1 FH l E e p O Q=>
  cases B with
  |aU=>exact ⟨RcAt.list_none p a,RcNeAt.list_none p a⟩
  |bl b=>exact ⟨RcAt.list_bool _ p a,RcNeAt.list_bool _ p a⟩
  |int i t=>exact ⟨RcAt.list_int _ _ p a,RcNeAt.list_int _ _ p a⟩
  |str x t=>exact ⟨RcAt.list_str _ _ p a,RcNeAt.list_str _ _ p a⟩
  |ak e2 h c g=>exact ⟨RcAt.list_tuple p h a,RcNeAt.list_tuple p h a⟩
  | @ai a2 FG n j e2 h c g=>
    have y:l.toArray.size=E.length:=by rw [cb,<-O.length,Q.length]
    have J:n.toArray.size=j.length:=by rw [cb,<-c.length,g.length]
    simp only [FE]
    by_cases L:E.length=j.length
    . have el:=C1 Q g O c (λd hd v N u z o g1 g2 g3 g4 g5 g6=>ut I d A.in1 v N u z o (by
       have:=Zr hd;simp only [D.dX] at hu;show A.units+1+d.dX<cLine
       omega) g1 g2 g3 g4 g5 g6) hb w
      have q:=RcAt.lists p h (by rw [y,J];exact L) a el;have q2:=RcNeAt.lists p h (by rw [y,J];exact L) a el;rw [y,<-J7 E j L] at q q2;exact ⟨q,q2⟩
    . rw [Zn E j L];exact ⟨RcAt.lists_lengths p h (by rw [y,J];simp [L]) a,RcNeAt.lists_lengths p h (by rw [y,J];simp [L]) a⟩
end
section
variable {X:Cx}
def Yc:D->D->Bool
 | .ai a,.ai b=>a.length !=b.length
 |_,_=>false
def K9 (h:Yc a b=true):df a b=false:=by
 unfold Yc at h
 split at h
 . exact Zn _ _ (by simpa using h)
 . cases h
def sV (a b:D):Prop:=(D.cy a=true/\D.cy b=true/\a.dX<=190)\/Yc a b=true
instance (a b:D):Decidable (sV a b):=inferInstanceAs (Decidable (_\/_))
def pS (K:aC) (neg:Bool):R2:=λx y H Q=> ∃a b,aL K Any H x a/\aL K Any H y b/\sV a b/\Q (.bl (if neg then !df a b else df a b)) H
def Va {z:L2.St} (I:aA X o z H s) (q:A.units<cLine) (r:aL X.K Any H v d) (B:aO v u) (E:aL X.K Any H J L) (g:aO J w) (h:Yc d L=true):
   RcAt A s u w false/\RcNeAt A s u w true:=by
 unfold Yc at h
 split at h
 . obtain ⟨a,Y,rfl,N,_,O⟩:=r.cK;obtain ⟨a',Q,rfl,i,_,j⟩:=E.cK;cases B;cases g;obtain ⟨l,U,p,_⟩:=I.list (.of N);obtain ⟨c,n,y,_⟩:=I.list (.of i)
   have e:(l.toArray.size !=c.toArray.size)=true:=by
    rw [cb,cb,<-U.length,<-n.length,O.length,j.length];exact h
   exact ⟨RcAt.lists_lengths p.isList y.isList e q,RcNeAt.lists_lengths p.isList y.isList e q⟩
 . cases h
def xb (n:X.A.units+200<cLine):ck X (gV .Eq) (pS X.K false):=by
 rintro c s o H x y v u Q I d e ⟨a,b,g,h,hc,q⟩;rcases hc with ⟨i,j,p⟩|hc
 . exact (vB I (by omega) g d h e i j).1 X.prog X.w X.xe _ ⟨.bl _,H,I,rfl,q⟩
 . have l:Q (.bl false) H:=by have:=K9 hc;simpa [this] using q
   exact (Va I (by omega) g d h e hc).1 X.prog X.w X.xe _ ⟨.bl _,H,I,rfl,l⟩
def yl (n:X.A.units+200<cLine):ck X (gV .NotEq) (pS X.K true):=by
 rintro c s o H x y v u Q I d e ⟨a,b,g,h,hc,q⟩;rcases hc with ⟨i,j,p⟩|hc
 . exact (vB I (by omega) g d h e i j).2 X.prog X.w X.xe _ ⟨.bl _,H,I,rfl,q⟩
 . have l:Q (.bl true) H:=by have:=K9 hc;simpa [this] using q
   exact (Va I (by omega) g d h e hc).2 X.prog X.w X.xe _ ⟨.bl _,H,I,rfl,l⟩
def eO (a b:D):al D:=aY (sV a b) (.ok (.bl (df a b)))
def dA (a b:D):al D:=aY (sV a b) (.ok (.bl (!df a b)))
def Qw {K:aC}:fJ K (pS K false) eO:=λx y H a b d Q c g e q=>by
 obtain ⟨h,e2⟩:=jv e;cases e2;exact ⟨a,b,c,g,h,q _ (lv _)⟩
def Z5 {K:aC}:fJ K (pS K true) dA:=λx y H a b d Q c g e q=>by
 obtain ⟨h,e2⟩:=jv e;cases e2;exact ⟨a,b,c,g,h,q _ (lv _)⟩
def aI.bR (r:aI k A):A.units+200<cLine:=by have:=r.un;omega
end
end M
namespace PySem
open Builtin
def ym:fillsNumberSlot (.type "tuple") "mul" =pure false:=
 fillsNumberSlot_seq C3.lookup (by decide+kernel) F.slot_tuple_rmul.lookup (by decide+kernel)
def QY:seqRepeat? (.type "tuple")=pure (some (.builtin "tuple.__mul__")):=by
 unfold seqRepeat?;rw [seqSlot_of (name:= "__mul__") C3.lookup (by decide+kernel),seqSlot_of (name:= "__rmul__") F.slot_tuple_rmul.lookup (by decide+kernel)];rfl
def JA (a:Int) (t:Tok) (l:Addr) (c:Array Value) (n:Nat) (dd:Option Addr) (i:Array (Option Value)):
  Meets (g9.«int.__rmul__» ⟨[.int a t,.ref l],[]⟩) (λ_ R s=>s.heap.get? l=some {cls:= .type "tuple",dict:=dd,data:= .seq c n,slots:=i}/\R (.ok (.ret Value.notImplemented)) s):=
 .of_wp λe w A R s h=>by obtain ⟨j,g,d,tk,os⟩:=s;obtain ⟨o,h⟩:=h;wp_walk;exact ⟨_,rfl,h⟩
end PySem
namespace M
open PySem PySem.Spec L2
open PyProof.Rows hiding St
section
variable {X:Cx} {K:aC}
def Ks {lo:Option Int} (c:IsTup s.heap t a) (l:s.heap.IsSliceOf n vl p .none) (q:IsPart vl lo) (r:IsPart p e)
  (hw:HT.bG a.size 0 lo=0/\HT.bG a.size a.size e=a.size) (h:Q (.ref t) s):wpAny (model o w) A (getItem (.ref t) (.ref n)) Q E s:=by
 obtain ⟨os,g,i,u⟩:=id l;have j:s.TypeIs (.ref n) "slice" :=⟨os,g,i⟩
 unfold getItem
 try with_reducible refine iy ?_
 first|refine ay (aZ ?_)|skip
 refine ay (wpAny_sequenceKey c.typeIs (by decide) ?_)
 refine ay (rc c.typeIs si
  (nT si c.typeIs entry_tuple_getitem ?_ (args_tuple_getitem _ _)))
 show wpAny _ _ (Lo (.ref t)>>=_) _ _ s;refine ay (EX c ?_);refine ay (wpAny_typeOf j ?_);rw [if_pos (by decide)];refine ay (HT.dc l q r ?_)
 have d:(((HT.bG a.size 0 lo:Nat):Int)==0&&(1:Int)==1&&(HT.bG a.size a.size e-HT.bG a.size 0 lo)==a.size)=true:=by
  rw [hw.1,hw.2];simp
 show wpAny _ _ (if (((HT.bG a.size 0 lo:Nat):Int)==0&&(1:Int)==1&&(HT.bG a.size a.size e-HT.bG a.size 0 lo)==a.size)=true then _ else _) _ _ s;rw [if_pos d];unfold Builtin.Tuple.tupleIsExact;refine ay (ay (wpAny_typeOf c.typeIs (aZ ?_)));rw [if_pos (by decide)]
 first
  |exact ay (sW (ay (aZ (aZ ⟨_,rfl,aZ h⟩))))
  |exact ay (sW (aZ ⟨_,rfl,aZ h⟩))
  |exact ay (sW (ay (aZ ⟨_,rfl,aZ h⟩)))
def Bo (K:aC):V->Option Int->Option Int->Hp->VK->Prop:=λx lo d H Q=> ∃a c,x= .ref a/\eQ K H a c/\(HT.bG c.length 0 lo=0/\HT.bG c.length c.length d=c.length)/\Q (.ref a) H
def oj:pF X (Bo X.K):=by
 rintro e s u H x v vl w lo y z Q I h i j l ⟨a,n,o,p,hw,q⟩;subst o;cases h;obtain ⟨d,r,g,B⟩:=I.tuple p;have c:d.toArray.size=n.length:=by rw [cb];exact r.length.symm
 exact ⟨"tuple",_,si.lookup,g.typeIs,Ks g i j l (by rw [c];exact hw) ⟨.ref a,H,I,rfl,q⟩⟩
noncomputable def fu (z:Str) (lo a:Option Int):Str:=
 if ((nG lo a 1 z.length).length==z.length)=true then z else ⟨((nG lo a 1 z.length).filterMap (z.cps[·]?)).toArray⟩
def uH (z:Str) (lo a:Option Int):(fu z lo a).length<=z.length:=by
 unfold fu
 split
 . exact bg _
 . show ((nG lo a 1 z.length).filterMap (z.cps[·]?)).toArray.size<=z.length;rw [cb];exact dG (List.length_filterMap_le _ _) (PyProof.Rows.indices_len_le lo a z.length)
def Bp:V->Option Int->Option Int->Hp->VK->Prop:=λx lo a H Q=> ∃z,x= .str z/\z.length<=aP/\Q (.str (fu z lo a)) H
def L7 (h:IsPart v o): ∃p:Option (Int×Tok),v=partValue p/\p.map (·.1)=o:=by
 cases h with
 |none=>exact ⟨none,rfl,rfl⟩
 |int i t=>exact ⟨some (i,t),rfl,rfl⟩
def Te:pF X Bp:=by
 rintro d s B H x v vl E lo a J Q I h i j n ⟨z,o,p,q⟩;subst o;obtain ⟨t,rfl⟩:=h;obtain ⟨l,rfl,r⟩:=L7 j;obtain ⟨u,rfl,w⟩:=L7 n;refine ⟨"str",_,F.slot_str_getitem.lookup,typeIs_str s z t,wpAny_getItem_str_slice (st:=none) i rfl ?_⟩;have y:slicePicked z l u none=nG lo a 1 z.length:=by unfold slicePicked;rw [r,w];rfl
 unfold sliceMade;rw [y]
 by_cases c:((nG lo a 1 z.length).length==z.length)=true
 . have e:fu z lo a=z:=by unfold fu;rw [if_pos c]
   rw [e] at q;rw [if_pos (by simpa using c)];exact ⟨.str z,H,I,⟨t,rfl⟩,q⟩
 . have e:fu z lo a=⟨((nG lo a 1 z.length).filterMap (z.cps[·]?)).toArray⟩:=by unfold fu;rw [if_neg c]
   have g:=uH z lo a;rw [e] at q g;rw [if_neg (by simpa using c)];exact ⟨dG g p,.str _,H,I.tok _,⟨_,rfl⟩,q⟩
def e9:D->Option Int->Option Int->al D
 | .ak c,lo,a=>(.ok (.ak (cutD c lo a)))
 | .ai c,lo,a=>(.ok (.ai (cutD c lo a)))
 | .str z,lo,a=> .ok (.str (fu z lo a))
 |_,_,_=> .aj
def Tf {lo:Option Int} (a:HT.bG ds.length 0 lo=0) (c:HT.bG ds.length ds.length d=ds.length):cutD ds lo d=ds:=by
 unfold cutD;rw [a,c];simp
def Tg {lo:Option Int} (o:aL X.K A H x a) (l:e9 a lo h= .ok d) (q: ∀v r,ao H r->aL X.K (λc=>H c=none\/A c) r v d->be H v->Q v r):
  AN X.K x lo h H Q\/Bo X.K x lo h H Q\/AS X.K x lo h H Q\/Bp x lo h H Q:=by
 cases a with
 |ak w=>
  cases l;obtain ⟨b,e,rfl,i,j⟩:=o.dH;have n:=j.length
  by_cases hw:HT.bG e.length 0 lo=0/\HT.bG e.length e.length h=e.length
  . refine .inr (.inl ⟨b,e,rfl,.of i,hw,?_⟩);rw [n] at hw;rw [Tf hw.1 hw.2] at q;exact q _ H (ao.refl H) (.ak i (j.aE rh)) (L5 i)
  . exact .inl ⟨b,e,rfl,.of i,hw,λp g=>q _ _ (ao.aH g) (.ak ju (((kO j).aE rh).am (ao.aH g))) (qK (ao.refl H) g)⟩
 |ai w=>
  cases l;obtain ⟨b,e,rfl,i,_,j⟩:=o.cK;exact .inr (.inr (.inl ⟨b,e,rfl,.of i,λp g=>q _ _ (ao.aH g) (.ai ju (.inl g) (((kO j.low).laid g).aE λc z=>⟨.inr z.1,z.2⟩)) (qK (ao.refl H) g)⟩))
 |str z=>
  cases l;obtain ⟨rfl,u⟩:=o.j4;have n:=dG (uH z lo h) u;exact .inr (.inr (.inr ⟨z,rfl,u,q _ H (ao.refl H) (.str _ n) (FA (CU (K:=X.K) _ n))⟩))
 |_=>cases l
def qJ {lo:Option Expr} (u:DE X .s e f) (w:DO X lo y) (B:DO X E I):
   DE X .t (.Subscript e (.Slice lo E none p2) J) (qv f y I e9):=by
 with_unfolding_all exact (
  PE.imp (vJ (sj.or (oj.or (mr.or Te))) u w B) λσ H Q=>by
   rintro ⟨G,i,g,d,k,h,q⟩;obtain ⟨a,e1,h⟩:=jd h;obtain ⟨j,e2,h⟩:=jd h;obtain ⟨l,L,N⟩:=jd h;refine ⟨G,i,g,a,k,e1,λx H1 n O _=>⟨G,i,g,j,k.am n,e2,λH2 o=>⟨G,i,g,l,(k.am n).am o,L,λH3 r=>?_⟩⟩⟩;have p:=n.trans (o.trans r)
   exact Tg ((O.am o).am r) N λv U Y r4 nt=>q v U (p.trans Y) (r4.aE λc z=>z.elim (λz=>k.new c (ao.free p z)) λz=>z) (nt.am p))
noncomputable def cD:Sl->al D:=λ_=> .ok (.aQ [] [])
def uE:DE X .t (.Dict [] [] c) cD:=by
 with_unfolding_all exact (PE.imp RX λh H Q=>by
  rintro ⟨G,i,e,d,k,g,q⟩;cases g
  exact λp a=>q _ _ (ao.aH a) (.aQ ju (k.new p a) rfl rfl .nil) (qK (ao.refl H) a))
noncomputable def FK:D->al D
 | .int i=> .ok (.int (-i))
 |_=> .aj
def fx (f:T1):Sl->al D:=λa=>f a>>=FK
def Zs (h:DE X l e f):DE X l' (.UnaryOp .USub e g) (fx f):=by
 with_unfolding_all exact (PE.imp (P9 Qk h) λp H Q=>by
  rintro ⟨G,j,c,d,k,n,q⟩;obtain ⟨a,e1,e2⟩:=jd n;refine ⟨G,j,c,a,k,e1,λv o s r _=>?_⟩
  cases a with
  |int i=>cases e2;exact ⟨i,r.cL,q _ o s (.int _) (ms (K:=X.K) _).T⟩
  |_=>cases e2)
end
end M
namespace PySem.AutoSeq1
open PySem Builtin
def lS (l:Addr) (items:Array Value) (n:Nat) (dd:Option Addr) (q:Array (Option Value)) (x:Int) (u:Tok) (I:2<=x) (J:x<1000000) (a:items.isEmpty=false) (r:items.size*x.toNat<=aP)
  (c:(w4 (λe i=>e++i) #[] (dq x.toNat items)).size<=aP):
  Meets (g9.«tuple.__mul__» ⟨[.ref l,.int x u],[]⟩) (λ_ R s=>s.heap.get? l=some {cls:= .type "tuple",dict:=dd,data:= .seq items n,slots:=q}/\
   R (.ok (.ret (cX s.heap.objs.size))) {s with heap:=s.heap.push {cls:=vc "tuple",data:=Data.seq (w4 (λe i=>e++i) #[] (dq x.toNat items))}}):=
 .of_wp λj w A R s h=>by
  obtain ⟨L,g,d,tk,os⟩:=s;obtain ⟨o,h⟩:=h;have N:=idx_int;have O:=sub_tuple_tuple
  have p:((items.size:Int)*x)=((items.size*x.toNat:Nat):Int):=by
   have:(x.toNat:Int)=x:=by omega
   rw [Int.natCast_mul,this]
  have Q:=oZ
  have v: ¬(decide (x< -2^63)||decide (x>=2^63))=true:=by
   intro z;simp at z;omega
  have y: ¬(items.isEmpty||x==1)=true:=by
   rw [a];intro z;simp at z;omega
  have B: ¬(decide (x<=0)||items.isEmpty)=true:=by
   rw [a];intro z;simp at z;omega
  have E: ¬((items.size:Int)*x>(2^63-1)/8):=by rw [p];omega
  have H: ¬Tuple.tupleTooMany ((items.size:Int)*x)=true:=by
   unfold Tuple.tupleTooMany;rw [p];intro z;have:=of_decide_eq_true z;omega
  wp_walk using sJ o
  rw [if_neg v];refine ay (EX ⟨_,o,rfl,n,rfl⟩ ?_);dsimp only;rw [if_neg y];rw [if_neg B];rw [if_neg E];rw [if_neg H]
  first
   |exact ay (mq (aZ ⟨_,rfl,h⟩) c)
   |exact ay (mq (aZ h) c)
   | (trace_state;exact ay (mq (ay (aZ (aZ h))) c))
end PySem.AutoSeq1
namespace M
open PySem PySem.Spec L2
open PyProof.Rows hiding St
section
variable {X:Cx}
def C4 (K:aC):R2:=λx y H Q=> ∃l k a,x= .ref l/\y= .int k/\H l=some (.ak a)/\2<=k/\k<1000000/\a.isEmpty=false/\a.length*k.toNat<=aP/\
 ∀p,H p=none->Q (.ref p) (aH H p (.ak (dq k.toNat a).flatten))
def pT:ck X (gw .Mult) (C4 X.K):=by
 intro E s σ H x y v u Q I L N h;obtain ⟨l,k,xs,rfl,rfl,O,U,Y,h3,o,q⟩:=h;cases L;obtain ⟨t,rfl⟩:=N;obtain ⟨a,r,⟨ob,e,hc,n,hd⟩,z⟩:=I.tuple (.of O);have J:=r.length;obtain ⟨c2,g,Sw,i⟩:=ob;have p:=hc;have w:=hd;subst p w
 have c:w4 (λx1 x2=>x1++x2) #[] (dq k.toNat a.toArray)=(dq k.toNat a).flatten.toArray:=by
  have:=XG a k.toNat [];rw [AW] at this;exact this
 have B:a.toArray.isEmpty=false:=by
  cases r with
  |nil=>cases h3
  |cons _ _=>rfl
 have j:a.toArray.size*k.toNat<=aP:=by rw [cb,<-J];exact o
 have d:(dq k.toNat a).flatten.length<=aP:=by rw [kB,Nat.mul_comm,<-J];exact o
 refine E5 (by decide) ⟨_,e,rfl⟩ (λs'=>sq s' k t) ym F.fills_int_mul xi QY F.slot_int_index.lookup
  (pK xi (sq s k t) F.entry_int_rmul (F.args_int_rmul_2 _ _) (JA k t l a.toArray n g i)
   ⟨e,rfl,⟨_,e,rfl⟩,pK C3 ⟨_,e,rfl⟩ F.entry_tuple_mul (F.args_tuple_mul_2 _ _) (AutoSeq1.lS l a.toArray n g i k t U Y B j (by rw [c,cb];exact d)) ⟨e,?_⟩⟩)
 rw [c];refine ⟨.ref s.heap.objs.size,_,I.laid (λb ob q=>bI _ q) (bg _) ?_,rfl,q _ (I.aV.fresh (bg _))⟩;exact ⟨by rw [kB,Nat.mul_comm];exact o,_,r.rep k.toNat,IsTup.new _ _⟩
noncomputable def sX:D->D->al D
 | .ak a,.int k=>aY (2<=k/\k<1000000/\a.isEmpty=false/\a.length*k.toNat<=aP) (.ok (.ak (dq k.toNat a).flatten))
 |_,_=> .aj
def Th {K:aC}:sE K (C4 K) sX:=by
 intro A x y H a b d Q h i e q;unfold sX at e
 split at e
 . obtain ⟨⟨j,l,n,o⟩,e2⟩:=jv e;cases e2;cases i.cL;obtain ⟨p,r,rfl,u,g⟩:=h.dH;refine ⟨p,_,r,rfl,rfl,u,j,l,by rw [<-g.isEmpty];exact n,by rw [g.length];exact o,λv c=>q _ _ (ao.aH c) (.ak ju ?_) (qK (ao.refl H) c)⟩;exact ((g.rep _).aE rh).am (ao.aH c)
 . cases e
end
abbrev eS:D->D->al D:=gf WD λi j=> .int (i-j)
abbrev gD:D->D->al D:=gf oh λi j=> .int (i*j)
abbrev a7:D->D->al D:=gf Bj λi j=> .int (i%j)
abbrev bS:D->D->al D:=gf sU λi j=> .int (i^j.toNat)
abbrev ltI:D->D->al D:=gf WD λi j=> .bl (decide (i<j))
abbrev mW:D->D->al D:=gf WD λi j=> .bl (decide (i<=j))
abbrev nH:D->D->al D:=gf WD λi j=> .bl (decide (j<i))
abbrev Ti:D->D->al D:=gf WD λi j=> .bl (decide (j<=i))
structure Av (P:bB) (w:World) (K:aC) (mg:Vj) (af:Heap) (k:Nat) (x:Str) (ps:List Str) (fr:Bool) (F:TX):Prop where
 ex: ∃f fd,bX P w K mg af gq k f fd ps (nD K fr ps.length F)/\mg x=some (.ref f)/\iZ K (.ref f)=true/\Binds K fd ps []
def Av.mono {K:aC} (h:Av P w K mg af j x c d F) (e:j<=k):Av P w K mg af k x c d F:=
 let ⟨f,g,a,b⟩:=h.ex
 ⟨f,g,a.mono e,b⟩
section
variable {X:Cx} {k:Nat} {x:Str} {Q:List Str} {O:Bool} {F:TX} {e:Expr} {U:List Expr} {p Y:Pos} {g:TY}
def Av.call (A:Av X.prog X.w X.K X.mg X.af k x Q O F) (hr:aI k X.A) (d:DA X .s (e::U) g) (h:Q.length=n:=by rfl) (hg:Gl X x:=by rfl) (a:YU x:=by decide)
  (i:UO X e U:=by exact jm rfl) (c:UN X Y U:=by exact jS rfl):DE X .s (.Call (.Name x p) (e::U) [] Y) (jj n F g):=by
 subst h;obtain ⟨f,o,h1,h2,j,l⟩:=A.ex;exact Sk h1 hr hg h2 j l xL d a i c
def Av.aB (A:Av X.prog X.w X.K X.mg X.af k x Q true F) (hr:aI k X.A) (d:DA X .s (e::U) g) (h:Q.length=n:=by rfl) (hg:Gl X x:=by rfl) (a:YU x:=by decide)
  (i:UO X e U:=by exact jm rfl) (c:UN X Y U:=by exact jS rfl):DE X .t (.Call (.Name x p) (e::U) [] Y) (jj n F g):=by
 subst h;obtain ⟨f,o,h1,h2,j,l⟩:=A.ex;exact Sm h1 hr hg h2 j l xL d a i c
end
noncomputable def aG (c:Bool) (n:Nat) (g:TZ) (ds:List D):al D:=match g (qg n ds) with
 | .ok (.rt a d)=>if c=true/\a=false then .aj else .ok d
 | .ok (.nx _)=> .ok .aU
 |_=> .aj
def ZT (h:aG i n g ds= .ok d):Meets i n g ds d:=by
 unfold aG at h
 split at h
 . rename_i a o e
   split at h
   . cases h
   . rename_i j;cases h;refine .inl ⟨a,e,λl=>?_⟩
     cases a with
     |true=>rfl
     |false=>exact absurd ⟨l,rfl⟩ j
 . rename_i c e;cases h;exact .inr ⟨rfl,c,e⟩
 . cases h
section
variable {P:bB} {w:World} {K:aC} {mg:Vj} {af:Heap}
def Tj {st:Stmt} (j:Bool) (l:iB K x x st f n) (e:mg x=some (.ref f)) (S:ar N o (jf st)) (i:Binds K n o [])
  (p: ∀(c:Value) (A:bH) (a:List Env) (s:aM) (H:Hp) (E:XK),aI k (A.deeper (gn x (jf st) s.heap.objs.size f c))->iD (bu gq P w K mg af N x (jf st) f c A a s H E).lF (qa st) g):
  Av P w K mg af (k+1) x o j (aG j N.length g):=
 ⟨f,n,Fz l S p λq d _ h=>ZT h,e,l.kp,i⟩
def Tl {st:Stmt} (i:Bool) (j:iB K x x st f h) (a:mg x=some (.ref f)) (c:Binds K h l []):Av P w K mg af k x l i (λ_=> .aj):=
 ⟨f,h,⟨λn H Q E ⟨B,o,d,p,_⟩=>p,λA g s H args q n Q E _ _ _ _ ⟨B,o,d,_,_,e,_⟩=>by cases e⟩,a,j.kp,c⟩
end
def Tn {K:aC} {st:Stmt} (i:Bool) (l:iB K x x st f n) (S:ar N j (jf st))
 (o: ∀(c:Value) (A:bH) (a:List Env) (s:aM) (H:Hp) (E:XK),aI k (A.deeper (gn x (jf st) s.heap.objs.size f c))->iD (bu gq P w K p e N x (jf st) f c A a s H E).lF (qa st) g):
 bX P w K p e gq (k+1) f n j (nD K i j.length (aG i N.length g)):=Fz l S o λq d _ h=>ZT h
def To {p n:Pos} (i:Nat) (U:DE X l2 b Y) (hN:X.N[i]?=some x:=by rfl) (hv:gM X.env.scope x:=by exact eE rfl)
   (hd:YU x:=by decide) (o:WV x:=by decide) (hs:KY b:=by intro _ _;rfl):DE X .s (.Subscript (.Name x p) b n) (ap (ge i) Y aX):=by
 with_unfolding_all exact (
  PE.imp (EZ Lq (xF hN hv hd o) U hs) λσ H Q=>by
   rintro ⟨G,J,g,d,k,u,q⟩;obtain ⟨w,e1,u⟩:=jd u;obtain ⟨c,e2,a⟩:=jd u;rcases US e1 with z|z
   . obtain ⟨v,l,L⟩:=k.ah i w z;exact ⟨v,l,G,J,g,c,k,e2,λy B h E _=>LH (L.am h) (E.aE Lv.bf) a λv r3=>q v B h r3 trivial⟩
   . obtain ⟨v,l,h0,L⟩:=k.aw i w z;refine ⟨_,l,G,J,g,c,k,e2,λy B h E _=>?_⟩;have h3:=(k.am h).aw i w z;obtain ⟨v2,N,_,g2⟩:=h3;rw [l] at N;cases N
     cases g2 with
     |ai e r=>
      cases c with
      |int j=>
       cases (E.aE Lv.bf).cL;unfold aX at a;dsimp only at a
       cases I:gQ _ j with
       |none=>rw [I] at a;cases a
       |some d'=>
        rw [I] at a;cases a;obtain ⟨O,e6,r6⟩:=KR r I;exact .inl ⟨_,_,j,O,rfl,rfl,.of e,e6,q O B h r6 trivial⟩
      |_=>cases a
     |aQ e _ _ r=>cases c<;>cases a
     |bP e _ _ r=>cases c<;>cases a
     |obj e _ _ r=>cases c<;>cases a
     |dn e _ _ r=>cases c<;>cases a)
def wI:lD "list" =some (.type "list"):=by decide+kernel
def Tp (d:List Str) (L8 a:Scope) (N:List Str) (m:Nat) (c:List Nat):Bool:=(lC c.length).all λk=>match N[m+k]?,(c[k]?).bind (d[·]?) with
 |some y,some e=>y==e&&(L8.names.lookup y==some .cell||L8.names.lookup y==some .free)&&a.names.lookup y==some .free
 |_,_=>false
noncomputable def Bq (z:Option Str) (d:List Str) (a scope:Scope) (cl:List (Str×Addr)) (N:List Str) (m:Nat) (c:List Nat):Bool:=
 (scope.names.all λx=>x.2 != .local||scope.names.lookup x.1==some .local)&&(scope.names.all λx=>x.2 != .cell||z==some x.1)&&(match z with
   |some y=>scope.names.lookup y==some .cell
   |none=>true)&&(scope.names.all λy=>y.2 != .free||cl.any λp=>p.1==y.1)&&
  Tp d a scope N m c&&(match N[m+c.length]? with
   |some y=>scope.names.all λp=>p.1 !=y
   |none=>true)&&N.length==m+c.length+1
def Tq {a:List (Str×Addr)} (h:(a.any λp=>p.1==y)=true): ∃c,a.lookup y=some c:=by
 induction a with
 |nil=>cases h
 |cons p r d=>
  obtain ⟨n,c⟩:=p;rw [xo,Bool.or_eq_true] at h;simp only [lx]
  cases e:y==n with
  |true=>exact ⟨c,rfl⟩
  |false=>
   rcases h with h|h
   . have:n=y:=by simpa using h
     subst this;simp at e
   . exact d h
def ol (a:List (Str×Addr)):List (Str×Addr)->Prop
 | []=>True
 |p::r=>a.lookup p.1=some p.2/\ol a r
theorem ol.mem: ∀ {c:List (Str×Addr)},ol a c-> ∀p∈c,a.lookup p.1=some p.2
 |_::_,h,p,d=>(bA.mp d).elim (λe=>e▸h.1) (ol.mem h.2 p)
def wH (z:Option Str) {X:Cx} (g:closureFor a X.env=pure i) (l:a.kind= .function) (v:N.Nodup) (o:ol X.env.cells i)
   (h:Bq z X.N X.env.scope a i N m w=true) (made: ∀n,cellsFrom (n+1) a.names i=rf z i n:=by intro _;rfl) (d: ∀h,pushCells h a.names=Fm z h:=by intro _;rfl):fO z X a i N m w:=by
 simp only [Bq,dR,mP,beq_iff_eq] at h;obtain ⟨⟨⟨⟨⟨⟨B,E⟩,r⟩,H⟩,I⟩,u⟩,J⟩:=h;refine ⟨g,l,λx L e=>?_,λy q e=>?_,made,d,λy e=>by rw [e] at r;exact beq_iff_eq.mp r,λx c e=>o.mem (x,c) (sh e),λy q e=>?_,v,J,λk j e=>?_,λy e p O=>?_⟩
 . have:=B x L;rw [e] at this;simpa using this
 . have:=E y q;rw [e] at this;simpa using this
 . have:=H y q;rw [e] at this;exact Tq (by simpa using this)
 . have Q:=(ic.mp e).1;have:=mP.mp I k (pd.mpr Q);rw [e] at this;simp at this
   cases e1:N[m+k]? with
   |none=>rw [e1] at this;cases this
   |some y=>
    cases e2:X.N[j]? with
    |none=>rw [e1,e2] at this;cases this
    |some Y=>
     rw [e1,e2] at this;simp at this;obtain ⟨⟨U,g2⟩,g3⟩:=this;subst U;exact ⟨y,rfl,rfl,g2,g3⟩
 . rw [e] at u;have:=mP.mp u p O;simpa using this
end M
namespace M
open PySem PySem.Spec L2
def wc (h:a d env= .ok (.nx U)):bh a (d::ds) env=bh a ds U:=by
 show (a d env>>=_)=_;rw [h];rfl
theorem XF {c:Type} (E:c->Sl) (step:c->D->c) (P:List D->c->Prop)
  (e: ∀d ds a,P (d::ds) a->body d (E a)= .ok (.nx (E (step a d)))/\P ds (step a d)): ∀(ds:List D) (a:c),P ds a->bh body ds (E a)= .ok (.nx (E (ds.foldl step a)))
 | [],a,_=>rfl
 |d::ds,a,h=>by
  obtain ⟨g,i⟩:=e d ds a h;rw [wc g,XF E step P e ds _ i];rfl
theorem XT {E:D->List D->Sl} (h:D->D) (P:D->Prop)
  (i: ∀x a,bZ n (E x a)= .ok a) (j: ∀x a c,(E x a).set n (.aw (.ai c))=E x c)
  (l: ∀x d a,t d (E x a)= .ok (E d a)) (o: ∀d a,P d->g (E d a)= .ok (h d)):
  ∀(ds:List D) (x:D) (a:List D),(∀d∈ds,P d)->a.length+ds.length<=aP-> ∃y,wn n t qz g ds (E x a)= .ok (E y (a++ds.map h))
 | [],x,a,_,_=>⟨x,by simp [wn]⟩
 |d::ds,x,a,p,q=>by
  simp at q;obtain ⟨y,r⟩:=XT h P i j l o ds d (a++[h d]) (λe u=>p e (by simp [u])) (by simp;omega);refine ⟨y,?_⟩
  have v:wn n t qz g (d::ds) (E x a)=wn n t qz g ds (E d (a++[h d])):=by
   show (t d (E x a)>>=_)=_;rw [l];show (g (E d a)>>=_)=_;rw [o d a (p d (by simp))];rw [i];show aY _ _=_;rw [jn (by omega),j]
  rw [v,r];simp
def FL {ds:List D} (h:D->D) (P:D->Prop) (o:i env= .ok ds) (j: ∀d∈ds,P d) (p:ds.length<=aP)
  (l: ∀d g,P d->a [.ah d,.aw (.ai g)]= .ok (h d)):zN false 1 [] i (gN 0) qz a env= .ok (.ai (ds.map h)):=by
 show (i env>>=_)=_;rw [o];show (wn 1 (gN 0) qz a ds [.un,.aw (.ai [])]>>=_)=_
 cases ds with
 |nil=>rfl
 |cons d ds=>
  simp at p;obtain ⟨y,q⟩:=XT (n:=1) (t:=gN 0) h P (λ_ _=>rfl) (λ_ _ _=>rfl) (λ_ _ _=>rfl) l ds d [h d] (λe r=>j e (by simp [r])) (by simp;omega)
  have u:wn 1 (gN 0) qz a (d::ds) [.un,.aw (.ai [])]=wn 1 (gN 0) qz a ds [.ah d,.aw (.ai [h d])]:=by
   show (a [.ah d,.aw (.ai [])]>>=_)=_;rw [l d [] (j d (by simp))];exact jn (c:=([]:List D).length<aP) (by simp;omega)
  rw [u,q];rfl
variable {env U:Sl} {f Q O I:T1} {g N g2:TZ} {t J L:T0} {Y:TY} {i:Nat} {d:D} {b:Bool}
@[simp] theorem xp {c e:Type} {a:c} {f:c->al e}:(al.ok a>>=f)=f a:=rfl
@[simp] theorem FM {e h:Type} {c:Prop} [Decidable c] {a b:al e} {f:e->al h}:((if c then a else b)>>=f)=if c then a>>=f else b>>=f:=by split<;>rfl
noncomputable def iK (g:TZ):aT->al aT
 | .nx e=>g e
 |o=> .ok o
@[simp] theorem L9:iK g (.nx env)=g env:=rfl
@[simp] theorem U8 {a:Bool}:iK g (.rt a d)= .ok (.rt a d):=rfl
@[simp] theorem yt:aq N g2 env=(N env>>=iK g2):=by
 show (N env>>=_)=_;congr 1;funext o;cases o<;>rfl
@[simp] theorem Tr:de i f env=(f env>>=λd=> .ok (.nx (env.set i (QS d)))):=rfl
@[simp] theorem WN:jw i f env=(f env>>=λd=> .ok (.nx (env.set i (.ah d)))):=rfl
@[simp] theorem XJ:aJ f env=(f env>>=λd=> .ok (.rt true d)):=rfl
@[simp] theorem Ma:retS f env=(f env>>=λd=> .ok (.rt false d)):=rfl
@[simp] theorem Mb:bF env= .ok (.nx env):=rfl
@[simp] theorem Yz:bW t N g2 env=(t env>>=λb=>if b=true then N env else g2 env):=rfl
@[simp] theorem Ts:iE J L env=(J env>>=λb=>if b=true then L env else .ok false):=rfl
@[simp] theorem Uc:g8 J L env=(J env>>=λb=>if b=true then .ok true else L env):=rfl
@[simp] theorem kH:bx t env=(t env>>=λb=> .ok (!b)):=rfl
noncomputable def Br:D->al Bool
 | .bl b=> .ok b
 |_=> .aj
@[simp] theorem kW:Br (.bl b)= .ok b:=rfl
@[simp] theorem uo:aW f env=(f env>>=Br):=rfl
@[simp] theorem ul {h:D->D->al D}:ap Q O h env=(Q env>>=λx=>O env>>=λy=>h x y):=rfl
@[simp] theorem FN {j:Int}:cI j env= .ok (.int j):=rfl
@[simp] theorem Mc:cB b env= .ok (.bl b):=rfl
@[simp] theorem yW:jb f Y env=(f env>>=λd=>Y env>>=λds=> .ok (d::ds)):=rfl
@[simp] theorem kI:ae env= .ok []:=rfl
@[simp] theorem Ud {h:TX}:app Y h env=(Y env>>=h):=rfl
@[simp] theorem um {n:Nat} {F:TX}:jj n F Y env=(Y env>>=λds=>aY (ds.length=n) (F ds)):=rfl
@[simp] theorem Md:aD Y env=(Y env>>=λds=>aY (ds.length<=aP) (.ok (.ak ds))):=rfl
@[simp] theorem Tt:aS Y env=(Y env>>=λds=>aY (ds.length<=aP) (.ok (.ai ds))):=rfl
@[simp] theorem yV {T:String}:bv T f env=(f env>>=dW T):=rfl
@[simp] theorem FP:dU f env=(f env>>=A5):=rfl
@[simp] theorem kJ {a:TW} {c:TY}:eH c a g env=(c env>>=λds=>bh (wx a g) ds env):=rfl
@[simp] theorem Tu {c e:Sl->al (Option Int)} {h:D->Option Int->Option Int->al D}:qv f c e h env=(f env>>=λa=>c env>>=λlo=>e env>>=λj=>h a lo j):=rfl
@[simp] theorem Tv:zU f env=(f env>>=LI):=rfl
@[simp] theorem FQ:ag i env=match env[i]? with|some (.ah d)=> .ok d|_=> .aj:=rfl
noncomputable def toK (g:al D) (w:Bool):D->al D
 | .bl b=>if b=w then g else .ok (.bl b)
 |_=> .aj
@[simp] theorem Me {r:al D} {w:Bool}:toK r w (.bl b)=if b=w then r else .ok (.bl b):=rfl
@[simp] theorem Mf {w:Bool}:nY Q O w env=(Q env>>=toK (O env) w):=by
 show (Q env>>=_)=_;congr 1
noncomputable def Bs (f:al D) (a:D->D->al D) (y:D):D->al D
 | .bl true=>f>>=λw=>a y w
 | .bl false=> .ok (.bl false)
 |_=> .aj
@[simp] theorem uL {r:al D} {h:D->D->al D} {y:D}:Bs r h y (.bl b)=if b=true then r>>=λw=>h y w else .ok (.bl false):=by cases b<;>rfl
@[simp] theorem WO {h a:D->D->al D}:Zv Q O I h a env=(Q env>>=λx=>O env>>=λy=>h x y>>=Bs (I env) a y):=by
 show (Q env>>=_)=_;congr 1
@[simp] theorem Tw {a:Type} {c:Prop} [Decidable c] {r:al a}:aY c r=if c then r else .aj:=rfl
@[simp] theorem FR {C:Int->Int->Prop} [∀i j,Decidable (C i j)] {h:Int->Int->D} {m n:Int}:gf C h (.int m) (.int n)=if C m n then .ok (h m n) else .aj:=rfl
noncomputable def runK (c:Bool):aT->al D
 | .rt a d=>if c=true/\a=false then .aj else .ok d
 | .nx _=> .ok .aU
 |_=> .aj
def JI (h:g (qg n ds)= .ok o):aG a n g ds=runK a o:=by
 unfold aG;rw [h];cases o<;>rfl
end M
namespace M
def K6 (c:t env= .ok true) (h:g env= .ok (.nx a)):zX (n+1) t g env=zX n t g a:=by
 rw [zX,c,xp,if_pos rfl,h];rfl
def K5 (a:t env= .ok true) (h:g env= .ok (.rt c d)):zX (n+1) t g env= .ok (.rt c d):=by
 rw [zX,a,xp,if_pos rfl,h];rfl
def Ya (a:t env= .ok false):zX (n+1) t g env= .ok (.nx env):=by
 rw [zX,a,xp,if_neg (by simp)]
end M
namespace M
open PySem PySem.Spec L2
noncomputable def bc:D->List D
 | .ak (_::r)=>r
 |_=>[]
mutual
noncomputable def num:D->Nat
 | .ak (_::r)=>1+nums r
 |_=>1
noncomputable def nums:List D->Nat
 | []=>0
 |d::r=>num d+nums r
end
mutual
def ba:D->Nat
 | .ak (_::r)=>1+bj r
 |_=>1
def bj:List D->Nat
 | []=>0
 |d::r=>max (ba d) (bj r)
end
mutual
def cg:D->List D
 | .ak (x::r)=> .ak (x::r)::dg r
 |d=>[d]
def dg:List D->List D
 | []=>[]
 |d::r=>cg d++dg r
end
def Zb:D->Bool| .eN _=>false| .du _=>false| .fq _ _=>false| .ii _ _=>false| .obj _ _ _=>false| .mem _ _=>false| .dn _=>false|_=>true
mutual
def bT:D->Bool
 | .eN _=>false
 | .du _=>false
 | .fq _ _=>false
 | .ii _ _=>false
 | .obj _ _ _=>false
 | .mem _ _=>false
 | .dn _=>false
 | .ak a=>decide (a.length<=11)&&br a
 |_=>true
def br:List D->Bool
 | []=>true
 |d::r=>bT d&&br r
end
def Yo (d:D):num d=1+nums (bc d):=by
 cases d with
 |ak a=>cases a<;>simp [num,bc,nums]
 |_=>simp [num,bc,nums]
def Yu (d:D):ba d=1+bj (bc d):=by
 cases d with
 |ak a=>cases a<;>simp [ba,bc,bj]
 |_=>simp [ba,bc,bj]
def Tx (d:D):cg d=d::dg (bc d):=by
 cases d with
 |ak a=>cases a<;>simp [cg,bc,dg]
 |_=>simp [cg,bc,dg]
def Kc (a b:List D):nums (a++b)=nums a+nums b:=by
 induction a with
 |nil=>simp [nums]
 |cons d r c=>simp [nums,c];omega
def Tz (a b:List D):bj (a++b)=max (bj a) (bj b):=by
 induction a with
 |nil=>simp [bj]
 |cons d r c=>simp [bj,c]
def Zl (h:bT d=true):Zb d=true:=by
 cases d<;>first|rfl| (simp [bT] at h)
theorem xJ: ∀ {ds:List D} {d:D},br ds=true->d∈ds->bT d=true
 |x::r,d,h,hm=>by
  simp only [br,dR] at h;rcases bA.mp hm with rfl|hm
  . exact h.1
  . exact xJ h.2 hm
theorem WL: ∀ {ds:List D},(∀d∈ds,bT d=true)->br ds=true
 | [],_=>rfl
 |x::r,h=>by simp only [br,dR];exact ⟨h x (by simp),WL λd a=>h d (by simp [a])⟩
def JD (h:bT d=true):br (bc d)=true/\(bc d).length<=10:=by
 cases d with
 |ak a=>
  cases a with
  |nil=>exact ⟨rfl,by simp [bc]⟩
  |cons x r=>
   simp only [bT,br,dR,decide_eq_true_eq,bN] at h;exact ⟨h.2.2,by simp only [bc];omega⟩
 |_=>exact ⟨rfl,by simp [bc]⟩
def xq (a:List D):List D:=a.flatMap bc
def TB (a:List D):nums a=a.length+nums (xq a):=by
 induction a with
 |nil=>rfl
 |cons d r c=>
  have:xq (d::r)=bc d++xq r:=rfl;rw [this,Kc];simp only [nums,bN,c,Yo d];omega
def TC (a:List D) (h:a≠[]):bj a=1+bj (xq a):=by
 induction a with
 |nil=>exact absurd rfl h
 |cons d r c=>
  have e:xq (d::r)=bc d++xq r:=rfl;rw [e,Tz];simp only [bj,Yu d]
  cases r with
  |nil=>simp [bj,xq]
  |cons x r=>rw [c (by simp)];omega
def kG (h:br a=true):br (xq a)=true:=
 WL λd c=>by
  obtain ⟨x,e,g⟩:=Bt.mp c;exact xJ (JD (xJ h e)).1 g
def TD (h:br a=true):(xq a).length<=10*a.length:=by
 induction a with
 |nil=>simp [xq]
 |cons d r c=>
  simp only [br,dR] at h;have e:xq (d::r)=bc d++xq r:=rfl;have:=c h.2;have:=(JD h.1).2;rw [e,dr,bN];omega
def Mg (d:D):1<=num d:=by rw [Yo];omega
def JB (d:D):1<=ba d:=by rw [Yu];omega
mutual
theorem W8: ∀d:D,(cg d).length=num d
 | .ak (x::r)=>by simp [cg,num,la r];omega
 | .ak []=>by simp [cg,num]
 | .aU=>by simp [cg,num]
 | .bl _=>by simp [cg,num]
 | .int _=>by simp [cg,num]
 | .str _=>by simp [cg,num]
 | .ai _=>by simp [cg,num]
 | .eN _=>by simp [cg,num]
 | .aQ _ _=>by simp [cg,num]
 | .bP _ _=>by simp [cg,num]
 | .du _=>by simp [cg,num]
 | .fq _ _=>by simp [cg,num]
 | .ii _ _=>by simp [cg,num]
 | .obj _ _ _=>by simp [cg,num]
 | .mem _ _=>by simp [cg,num]
 | .dn _=>by simp [cg,num]
theorem la: ∀ds:List D,(dg ds).length=nums ds
 | []=>rfl
 |d::r=>by simp [dg,nums,W8 d,la r]
end
mutual
theorem vE: ∀d:D,bT d=true->br (cg d)=true
 | .ak (x::r),h=>by
  have a:=(JD h).1;simp only [bc] at a;simp only [cg,br,dR];exact ⟨h,ij r a⟩
 | .ak [],h=>rfl
 | .aU,h=>rfl
 | .bl _,h=>rfl
 | .int _,h=>rfl
 | .str _,h=>rfl
 | .ai _,h=>rfl
 | .eN _,h=>by simp [bT] at h
 | .aQ _ _,h=>rfl
 | .bP _ _,h=>rfl
 | .du _,h=>by simp [bT] at h
 | .fq _ _,h=>by simp [bT] at h
 | .ii _ _,h=>by simp [bT] at h
 | .obj _ _ _,h=>by simp [bT] at h
 | .mem _ _,h=>by simp [bT] at h
 | .dn _,h=>by simp [bT] at h
theorem ij: ∀ds:List D,br ds=true->br (dg ds)=true
 | [],_=>rfl
 |d::r,h=>by
  simp only [br,dR] at h;refine WL λe he=>?_
  rcases mD.mp (show e∈cg d++dg r from he) with he|he
  . exact xJ (vE d h.1) he
  . exact xJ (ij r h.2) he
end
def cm {a:Type} {xs:List a} {k:Nat}:gQ xs (k:Int)=xs[k]?:=by
 unfold gQ pG
 by_cases h:k<xs.length
 . rw [if_pos (by omega),if_pos (by omega)];simp
 . rw [if_pos (by omega),if_neg (by omega)];simp;omega
def om {x:D} {r:List D}:aX (.ak (x::r)) (.int 0)= .ok x:=by
 have:=cm (xs:=x::r) (k:=0);simp only [aX];rw [show ((0:Int))=((0:Nat):Int) from rfl,this];rfl
section
variable {env env':Sl} {f L N f3:T1} {g U g2:TZ} {t Q O:T0} {Y:TY} {i:Nat} {d x y z:D} {b:Bool} {ds:List D}
def jk (a:L env= .ok x) (c:N env= .ok y) (e:h x y= .ok z):ap L N h env= .ok z:=by rw [ul,a,xp,c,xp,e]
def jD (h:f env= .ok d):jw i f env= .ok (.nx (env.set i (.ah d))):=by rw [WN,h];rfl
def YT (h:f env= .ok d):de i f env= .ok (.nx (env.set i (QS d))):=by rw [Tr,h];rfl
def qA (h:f env= .ok d):aJ f env= .ok (.rt true d):=by rw [XJ,h];rfl
def Jv (h:f env= .ok d):retS f env= .ok (.rt false d):=by rw [Ma,h];rfl
def jl (h:U env= .ok (.nx env')):aq U g2 env=g2 env':=by rw [yt,h];rfl
def Jn (h:U env= .ok (.rt a d)):aq U g2 env= .ok (.rt a d):=by rw [yt,h];rfl
def fy (h:t env= .ok true):bW t U g2 env=U env:=by rw [Yz,h];rfl
def dY (h:t env= .ok false):bW t U g2 env=g2 env:=by rw [Yz,h];rfl
def jg (a:f env= .ok d) (c:Y env= .ok ds):jb f Y env= .ok (d::ds):=by rw [yW,a,xp,c];rfl
def JO (a:Y env= .ok ds) (c:h ds= .ok d):app Y h env= .ok d:=by rw [Ud,a,xp,c]
def jo (a:Y env= .ok ds) (c:ds.length=n) (e:F ds= .ok d):jj n F Y env= .ok d:=by rw [um,a,xp,jn c,e]
def xa (a:Y env= .ok ds) (c:ds.length<=aP):aD Y env= .ok (.ak ds):=by rw [Md,a,xp,jn c]
def VJ (a:Y env= .ok ds) (c:ds.length<=aP):aS Y env= .ok (.ai ds):=by rw [Tt,a,xp,jn c]
def jG (h:f env= .ok (.bl b)):aW f env= .ok b:=by rw [uo,h];rfl
def Wz (a:Q env= .ok b) (c:O env= .ok b2):g8 Q O env= .ok (b||b2):=by rw [Uc,a,xp,c];cases b<;>rfl
def FS (a:Q env= .ok b) (c:O env= .ok e):iE Q O env= .ok (b&&e):=by rw [Ts,a,xp,c];cases b<;>rfl
def qQ (a:Q env= .ok b):bx Q env= .ok (!b):=by rw [kH,a];rfl
def Zx (a:bZ i env= .ok ds) (c:f env= .ok d) (e:ds.length<aP):qH i f env= .ok (.nx (env.set i (.aw (.ai (ds++[d]))))):=by
 show (bZ i env>>=_)=_;rw [a];rw [c];exact jn e
def qP (a:f env= .ok x) (c:e env= .ok lo) (j:l env= .ok n) (o:h x lo n= .ok z):qv f e l h env= .ok z:=by
 rw [Tu,a,xp,c,xp,j,xp,o]
def xg (h:f env= .ok (.int j)):zU f env= .ok (some j):=by rw [Tv,h];rfl
def XC (h:a env= .ok ds):eH a c g env=bh (wx c g) ds env:=by rw [kJ,h];rfl
def Xr (h:f env= .ok d) (a:A5 d= .ok ds):dU f env= .ok ds:=by rw [FP,h,xp,a]
end
def ue {C:Int->Int->Prop} [∀i j,Decidable (C i j)] {g:Int->Int->D} {i j:Int} (h:C i j):gf C g (.int i) (.int j)= .ok (g i j):=if_pos h
def Xb (h:sU i j):bS (.int i) (.int j)= .ok (.int (i^j.toNat)):=ue h
def TF (h:oh i j):gD (.int i) (.int j)= .ok (.int (i*j)):=ue h
def yn (h:0<j):a7 (.int i) (.int j)= .ok (.int (i%j)):=ue h
def yE (h:t d env= .ok env'):wx t g d env=g env':=by
 show (t d env>>=g)=_;rw [h];rfl
def zy (h:g (qg n ds)= .ok (.rt true d)):aG a n g ds= .ok d:=by rw [JI h];simp [runK]
def Bu (h:g (qg n ds)= .ok (.rt false d)):aG false n g ds= .ok d:=by rw [JI h];simp [runK]
def W5 (h:a env= .ok [.int j]) (c: -(2^62)<=j/\j<2^62):eG a env= .ok (Qd 0 j.toNat):=by
 show (a env>>=sG)=_;rw [h];exact jn c
def KS (c:a.isEmpty=false) (d:a.length+b.length<=aP):aK (.ak a) (.ak b)= .ok (.ak (a++b)):=jn ⟨c,d⟩
def Mh (c:a.length+b.length<=aP):aK (.ai a) (.ai b)= .ok (.ai (a++b)):=jn c
def gr:eO (.int a) (.int b)= .ok (.bl (a==b)):=by
 unfold eO;rw [jn (by left;simp [L6,D.dX])];simp [FE]
theorem Ku (I:List D->Sl->Prop)
  (c: ∀d ds env,I (d::ds) env-> ∃a,body d env= .ok (.nx a)/\I ds a): ∀(ds:List D) (env:Sl),I ds env-> ∃a,bh body ds env= .ok (.nx a)/\I [] a
 | [],env,h=>⟨env,rfl,h⟩
 |d::ds,env,h=>by
  obtain ⟨e1,e,g⟩:=c d ds env h;obtain ⟨e2,i,j⟩:=Ku I c ds e1 g;exact ⟨e2,by rw [wc e,i],j⟩
def Ze (h:d∈Qd lo n): ∃k:Int,d= .int k/\lo<=k/\k<lo+n:=by
 unfold Qd at h;obtain ⟨i,a,e⟩:=hG.mp h;have:=pd.mp a;exact ⟨_,e.symm,by omega,by omega⟩
def wP (lo:Int) (n:Nat):(Qd lo n).length=n:=by simp [Qd]
def Mi {c:Type} {xs:List c} {i:Int} (d:0<=i) (e:i<xs.length): ∃x,gQ xs i=some x/\x∈xs:=by
 obtain ⟨k,rfl⟩:=FT d;have a:k<xs.length:=by omega
 exact ⟨xs[k],by rw [M.cm];exact cU a,pR a⟩
def C5 {ds:List D} {i:Int} (a:0<=i) (e:i<ds.length): ∃d,aX (.ai ds) (.int i)= .ok d/\d∈ds:=by
 obtain ⟨c,g,h⟩:=Mi a e;exact ⟨c,by simp only [aX];rw [g],h⟩
open Builtin.Int (intBits)
def Mj (p:kv false env j=c) (h:D->D) (P:D->Prop) (q:i env= .ok ds) (l: ∀d∈ds,P d) (r:ds.length<=aP)
  (o: ∀d g,P d->a [.ah d,c,.aw (.ai g)]= .ok (h d)):zN false 1 [j] i (gN 0) qz a env= .ok (.ai (ds.map h)):=by
 show (i env>>=_)=_;rw [q];show (wn 2 (gN 0) qz a ds [.un,kv false env j,.aw (.ai [])]>>=_)=_;rw [p]
 cases ds with
 |nil=>rfl
 |cons d ds=>
  simp at r;obtain ⟨y,u⟩:=XT (n:=2) (t:=gN 0) h P (λ_ _=>rfl) (λ_ _ _=>rfl) (λ_ _ _=>rfl) o ds d [h d] (λe v=>l e (by simp [v])) (by simp;omega)
  have w:wn 2 (gN 0) qz a (d::ds) [.un,c,.aw (.ai [])]=wn 2 (gN 0) qz a ds [.ah d,c,.aw (.ai [h d])]:=by
   show (a [.ah d,c,.aw (.ai [])]>>=_)=_;rw [o d [] (l d (by simp))];exact jn (c:=([]:List D).length<aP) (by simp;omega)
  rw [w,u];rfl
theorem iL: ∀ {ds:List D},(∀d∈ds,ba d<=k)->bj ds<=k
 | [],_=>by simp [bj]
 |d::ds,h=>by
  simp only [bj];have:=h d (by simp);have:=iL (ds:=ds) λe a=>h e (by simp [a])
  omega
theorem qI: ∀ {ds:List D} {d:D},d∈ds->ba d<=bj ds
 |x::r,d,h=>by
  simp only [bj];rcases bA.mp h with rfl|h
  . omega
  . have:=qI h;omega
end M
namespace M
open PySem PySem.Spec L2
open PyProof.Rows hiding St
noncomputable def hH:D->Option aR
 | .int i=>some (.inl i)
 | .str x=>some (.inr x)
 |_=>none
noncomputable def fP (a:List aR) (k:aR):Bool:=a.any λx=>decide (x=k)
noncomputable def bU (a:List aR) (ds:List D) (k:aR):Option D:=((a.zip ds).find? λp=>decide (p.1=k)).map (·.2)
def ZU (a:List aR) (k:aR):List aR:=if fP a k=true then a else a++[k]
def ZV (a:List aR) (ds:List D) (k:aR) (d:D):List D:=if fP a k=true then (a.zip ds).map (λp=>if p.1=k then d else p.2) else ds++[d]
section
variable {K:aC} {A:Vi} {H:Hp}
def Xq (r:aL K A H y d) (h:hH d=some k):y=kV k:=by
 cases d<;>cases h
 . exact r.f
 . exact r.f.1
theorem W6: ∀ {a:List (aR×V)} {ds:List D} (k:aR),au K A H (a.map (·.2)) ds->(∀d,bU (a.map (·.1)) ds k=some d-> ∃v,cf a k=some v/\aL K A H v d)/\(bU (a.map (·.1)) ds k=none->cf a k=none)
 | [],ds,k,r=>⟨λd h=>by simp [bU] at h,λ_=>rfl⟩
 | (c,v)::a,ds,k,r=>by
  . obtain ⟨g,e,rfl,j,l⟩:=r.cP;have n:=W6 k l
    by_cases i:c=k
    . subst i;have e1:bU ((((c,v)::a)).map (·.1)) (g::e) c=some g:=by simp [bU]
      have e2:cf ((c,v)::a) c=some v:=by simp [cf]
      rw [e1,e2];exact ⟨λd h=>by cases h;exact ⟨v,rfl,j⟩,λh=>by cases h⟩
    . have e1:bU ((((c,v)::a)).map (·.1)) (g::e) k=bU (a.map (·.1)) e k:=by simp [bU,i]
      have e2:cf ((c,v)::a) k=cf a k:=by simp [cf,i]
      rw [e1,e2];exact n
def TH (a:List (aR×V)) (k:aR):(a.any λc=>decide (c.1=k))=fP (a.map (·.1)) k:=by
 unfold fP;rw [List.any_map];rfl
theorem vA (k:aR) (g:aL K A H v d): ∀ {a:List (aR×V)} {ds:List D},au K A H (a.map (·.2)) ds->au K A H ((a.map (λc=>if c.1=k then (c.1,v) else c)).map (·.2)) (((a.map (·.1)).zip ds).map (λp=>if p.1=k then d else p.2))
 | [],_,r=>by cases r.fN;exact .nil
 | (i,n)::a,_,r=>by
  obtain ⟨_,_,rfl,j,l⟩:=r.cP;have h:=vA k g l
  by_cases e:i=k
  . simp only [fh,ya,e,if_true];exact .cons g (by simpa [e] using h)
  . simp only [fh,ya,e,if_false];exact .cons j h
def TJ (k:aR) (r:au K A H (a.map (·.2)) ds) (c:aL K A H v d):
   (putK a k v).map (·.1)=ZU (a.map (·.1)) k/\au K A H ((putK a k v).map (·.2)) (ZV (a.map (·.1)) ds k d):=by
 unfold putK ZU ZV;rw [TH]
 by_cases h:fP (a.map (·.1)) k=true
 . rw [if_pos h,if_pos h,if_pos h];refine ⟨?_,vA k c r⟩;rw [sY];apply List.map_congr_left;intro p _;simp
   split<;>rfl
 . rw [if_neg h,if_neg h,if_neg h];refine ⟨by simp,?_⟩;rw [C6];exact r.append (.cons c .nil)
def aL.pU (r:aL K A H v (.aQ e ds)): ∃a d,v= .ref a/\H a=some (.dK d)/\A a/\d.map (·.1)=e/\au K (λc=>A c/\c≠a) H (d.map (·.2)) ds:=r.f
end
def vM {K:aC} {i:Nat} (k:ax K G p env d H) (g:env[i]?=some (.aw (.aQ h ds))): ∃a c,d[i]?=some (some (.ref a))/\H a=some (.dK c)/\c.map (·.1)=h/\au K (Sf G env d) H (c.map (·.2)) ds:=by
 obtain ⟨a,j,q,l⟩:=k.aw i _ g
 cases l with
 |aQ e n o r=>subst o;exact ⟨a,_,j,e,n,r⟩
noncomputable def mX (i:Nat) (env:Sl):al (List aR×List D):=match env[i]? with
 |some (.aw (.aQ a c))=> .ok (a,c)
 |_=> .aj
def WH (h:mX i env= .ok p):env[i]?=some (.aw (.aQ p.1 p.2)):=by
 unfold mX at h
 split at h
 . cases h;assumption
 . cases h
def ax.putD {K:aC} (k:ax K G j env g H) (l:env[i]?=some (.aw (.aQ h ds))) (n:g[i]?=some (some (.ref a))) (o:H a=some (.dK c)) (hk:c.map (·.1)=h)
  (r:au K (Sf G env g) H (c.map (·.2)) ds) (p:aL K (Sf G env g) H v d):ax K G j (env.set i (.aw (.aQ (ZU h kk) (ZV h ds kk d)))) g (aH H a (.dK (putK c kk v)))/\a9 env g H (env.set i (.aw (.aQ (ZU h kk) (ZV h ds kk d)))) g (aH H a (.dK (putK c kk v))):=by
 subst hk;obtain ⟨q,u⟩:=TJ kk r p;exact k.iG l n o trivial λy z st e w=> .aQ e q rfl (u.a5 st w)
section
variable {X:Cx} {K:aC}
variable {a b:Expr} {J E:T1} {l2:Lv} {pos p:Pos}
def TK:V->List V->Hp->VK->Prop:=λx d H Q=> ∃a c k z,x= .ref a/\d=[kV k,z]/\H a=some (.dK c)/\Q ((cf c k).getD z) H
def TL (i:X.A.units+1<cLine):pH X "dict.get" TK:=by
 intro g s N H x O v j Q I l n h;obtain ⟨a,o,k,z,rfl,rfl,r,q⟩:=h;obtain rfl:v=cX a:=l
 obtain ⟨c,d,rfl,u,w⟩: ∃c d,j=[c,d]/\aO (kV k) c/\aO z d:=by
  cases n with
  |cons y t=>cases t with|cons B t=>cases t;exact ⟨_,_,rfl,y,B⟩
 exact RZ i I (lP.k r) u w λU Y L e=>⟨_,H,L,e,q⟩
def Bv:D->List D->al D
 | .aQ c d,[e,z]=>match hH e with
  |some k=> .ok ((bU c d k).getD z)
  |none=> .aj
 |_,_=> .aj
def Ml (f J E:T1):Sl->al D:=λc=>f c>>=λa=>J c>>=λd=>E c>>=λz=>Bv a [d,z]
def TM {h c:Pos} (hu:X.A.units+1<cLine) (ho:DE X .s o f) (h1:DE X l1 e1 fk) (h2:DE X .s e2 fz)
   (i:nR o "get" X.env (eval o X.env)=eval o X.env:=by rfl)
   (I:((dL c (bb [e1,e2] X.env)).all (λx=>!x.1)&&(lK c (lL [] X.env)).all (λx=>x.1.isSome)
    &&decide ([e1,e2].length+([]:List i3).length+(if ([]:List i3).isEmpty then 0 else 1)<30))=true:=by exact JE rfl rfl)
   (j:(h.endLine==c.line)=true:=by rfl) (hs:bb [e1,e2] X.env=(false,eval e1 X.env)::bb [e2] X.env:=by exact jm rfl) (g:(dL c (bb [e2] X.env)).any (·.1)=false:=by exact jS rfl)
   (Bw:bb [e2] X.env=(false,eval e2 X.env)::bb [] X.env:=by exact jm rfl):
   DE X .s (.Call (.Attribute o "get" h) [e1,e2] [] c) (Ml f fk fz):=by
 with_unfolding_all exact (
  PE.imp (AT PySem.F.plainAttrs_dict E9 PySem.F.type_dict_get (TL hu) ho (qc h1 (qc h2 wo Bw) hs) i I j hs g) λσ H Q=>by
   rintro ⟨G,H0,l,d,k,L,q⟩;obtain ⟨a',e1,L⟩:=jd L;obtain ⟨kd,e2,L⟩:=jd L;obtain ⟨z,e3,n⟩:=jd L
   cases a' with
   |aQ ks ds=>
    unfold Bv at n;dsimp only at n
    cases u:hH kd with
    |none=>rw [u] at n;cases n
    |some O=>
     rw [u] at n;cases n;refine ⟨G,H0,l,_,k,e1,λx H1 U r1 _=>?_⟩;obtain ⟨p,B,rfl,hp,_,rfl,r⟩:=r1.pU;refine ⟨.inr (.inr (.inl ⟨rfl,.inl ⟨B,hp⟩⟩)),G,H0,l,_,k.am U,e2,λy H2 N r2 _=>⟨G,H0,l,_,(k.am U).am N,e3,λw H3 Y r3 _=>?_⟩⟩;have TN:=Y _ _ (N _ _ hp);refine ⟨p,B,O,w,rfl,by rw [Xq (r2.aE Lv.bf) u],TN,?_⟩;have rr:=((r.low.am N).am Y)
     cases e:bU (B.map (·.1)) ds O with
     |none=>
      rw [(W6 O rr).2 e];exact q _ H3 ((U.trans N).trans Y) (by rw [e];exact r3) trivial
     |some d'=>
      obtain ⟨v,g1,g2⟩:=(W6 O rr).1 _ e;rw [g1];exact q _ H3 ((U.trans N).trans Y) (by rw [e];exact g2) trivial
   |_=>cases n)
end
section
variable {X:Cx} {K:aC} {L l2:Lv} {e1 e2:Expr} {O N:T1} {U bY Y p:Pos} {x:Str}
def Bx (i:Nat) (O N:T1):Sl->al aT:=λa=>mX i a>>=λq=>N a>>=λd=>O a>>=λc=>match hH c with
 |some k=>aY (q.1.length<aP) (.ok (.nx (a.set i (.aw (.aQ (ZU q.1 k) (ZV q.1 q.2 k d))))))
 |none=> .aj
def TQ (i:Nat) (hu:X.A.units+1<cLine) (hk:DE X L e1 O) (hv:DE X .s e2 N) (hN:X.N[i]?=some x:=by rfl) (u:gM X.env.scope x:=by exact eE rfl)
   (hd:YU x:=by decide) (w:WV x:=by decide)
   (hs:ix e2 (some (.Subscript (.Name x p) e1 Y)) U.line X.env=pure false:=by rfl):
   DS X (.Assign [.Subscript (.Name x p) e1 Y] e2 U) (Bx i O N):=by
 with_unfolding_all exact (
  PS.imp (Lw hu (xF hN u hd w) hk hv hs) λE σ H=>by
   rintro ⟨G,B,e,o,k,g,q⟩;obtain ⟨ks,c1,g⟩:=jd g;obtain ⟨d,c2,g⟩:=jd g;obtain ⟨I,c3,r⟩:=jd g;have J:=WH c1;obtain ⟨a,z,Q,hx,h,rs⟩:=vM k J
   cases c:hH I with
   |none=>rw [c] at r;cases r
   |some kk=>
    rw [c] at r;obtain ⟨hz,c5⟩:=jv r;cases c5;refine ⟨G,B,e,d,k,c2,λv H1 j r1 _=>⟨.ref a,Q,G,B,e,I,k.am j,c3,λy H2 l r2 _=>?_⟩⟩;have n:=l _ _ (j _ _ hx);have hy:=Xq (r2.aE Lv.bf) c;subst hy;have hl:z.length<aP:=by rw [<-h,dQ] at hz;exact hz
    refine ⟨a,_,rfl,jK.k n hl,?_⟩;have W:=((k.am j).am l).putD (kk:=kk) J Q n h ((rs.am j).am l) (r1.am l)
    exact q σ _ W.1 ((W.2.am l).am j))
def TR:V->List V->Hp->VK->Prop:=λx d H Q=> ∃a c k z,x= .ref a/\d=[kV k,z]/\H a=some (.dK c)/\c.length<aP/\(∀v,cf c k=some v->Q v H)/\(cf c k=none->Q z (aH H a (.dK (putK c k z))))
def TU:pH X "dict.setdefault" TR:=by
 intro u s σ H x xs v us Q I rx rs h;obtain ⟨a,d,k,z,rfl,rfl,y,hl,q1,q2⟩:=h;obtain rfl:v=cX a:=rx
 obtain ⟨l,j,rfl,r1,B⟩: ∃l j,us=[l,j]/\aO (kV k) l/\aO z j:=by
   cases rs with
   |cons h1 t=>cases t with|cons h2 t=>cases t;exact ⟨_,_,rfl,h1,h2⟩
 obtain ⟨hz,E,J,e,dd⟩:=E6 I.aV y;have n:J.length<=aP:=by rw [<-e.length];exact hz
 have o:(putK d k z).length<=aP:=by have:=Qx d k z;omega
 refine call_meetsIn Mm dd.typeIs PySem.F.entry_dict_setdefault (PySem.F.args_dict_setdefault_3 _ _ _) (kt_meets_setdefault (qE X.prog X.w) a (AX r1) E j) ⟨J,dd,n,λw hw=>?_,λhn h' i hs=>?_⟩
 . have g:=e.val k;rw [hw] at g
   cases c:cf d k with
   |none=>rw [c] at g;exact g.elim
   |some r=>
    rw [c] at g;exact ⟨r,H,I.tok _,g,q1 r c⟩
 . have g:=e.val k;rw [hn] at g
   cases c:cf d k with
   |some r=>rw [c] at g;exact g.elim
   |none=>
    have he: ∃q,h'.get? a=some q:=let ⟨q,_,_,hq,_⟩:=i;⟨q,hq⟩
    exact ⟨z,_,kN I (by rw [y];exact ny) hs he (Lu o E (e.put k B) i),B,q2 c⟩
noncomputable def kD:aR->D
 | .inl i=> .int i
 | .inr x=> .str x
theorem Mn: ∀ {c:List (aR×Value)} {a:List Value},a.length=c.length->(∀(j:Nat) (v:Value),a[j]?=some v-> ∃k x,c[j]?=some (k,x)/\(qE P w).is k v=true)->aN (c.map λq=>kV q.1) a
 | [],[],_,_=> .nil
 | [],_::_,h,_=>by simp at h
 |_::_,[],h,_=>by simp at h
 | (k,x)::c,v::a,h,d=>by
  obtain ⟨n,o,e,g⟩:=d 0 v rfl;simp at e;obtain ⟨rfl,rfl⟩:=e;refine .cons ?_ (Mn (by simpa using h) λj u l=>d (j+1) u (by simpa using l))
  cases k with
  |inl i=>
   obtain ⟨t,rfl⟩:=Ee g;exact ⟨t,rfl⟩
  |inr z=>
   obtain ⟨t,rfl⟩:=Value.isStrOf_shape g;exact ⟨t,rfl⟩
def TV (hc:X.bM=true):bC X (.type "list") (λy H Q=> ∃a c,y=[.ref a]/\H a=some (.dK c)/\ ∀l,H l=none->Q (.ref l) (aH H l (.ai (c.map λq=>kV q.1)))):=by
 intro z s σ H y us Q I r h;obtain ⟨a,c,rfl,ha,q⟩:=h;obtain ⟨u,rfl,rx⟩:=Wx r;cases rx;obtain ⟨B,hd,E,i,dd⟩:=E6 I.aV ha;have o:E.length<=aP:=by rw [<-i.length];exact B
 obtain ⟨ep,w⟩:=dd.dictAt;refine PySem.W.kdl_call (PySem.W.kdl_dict hd) (I.ok.hd hc) w o λh' tk n c' hk hS d=>?_
 have J:=Mn (by rw [rT];exact d.1) λj v e=>d.2 j v (by rw [<-FU];exact e)
 have g:(E.map λq=>kV q.1)=(c.map λq=>kV q.1):=by
  have:=i.keys;have h2:=congrArg (List.map kV) this;simp at h2;exact h2.symm
 rw [g] at J;refine ⟨.ref s.heap.objs.size,_,I.laid hk (bg _) (show a6 X.prog X.w _ h' _ (.ai (c.map λq=>kV q.1)) from ⟨by rw [dQ];exact B,n.toList,c',J,by rw [Array.toArray_toList];exact hS⟩),rfl,q _ (I.aV.fresh (bg _))⟩
def C7:List D->al D
 | [.aQ a _]=>aY ((a.all λk=>match k with| .inl _=>true| .inr _=>false)=true) (.ok (.ai (a.map kD)))
 |_=> .aj
def UA:Uz K (λw H Q=> ∃a c,w=[.ref a]/\H a=some (.dK c)/\ ∀l,H l=none->Q (.ref l) (aH H l (.ai (c.map λq=>kV q.1)))) C7:=by
 intro A w H I d Q r e q;unfold C7 at e
 split at e
 . rename_i J vs;obtain ⟨g,e2⟩:=jv e;cases e2;obtain ⟨v,rfl,y⟩:=r.one;obtain ⟨p,c,rfl,B,_,rfl,_⟩:=y.pU;refine ⟨p,c,rfl,B,λl o=>q _ _ (ao.aH o) (.ai ju (.inl o) ?_) (qK (ao.refl H) o)⟩
   have u: ∀(c:List (aR×V)),((c.map (·.1)).all λk=>match k with| .inl _=>true| .inr _=>false)=true-> ∀(j:Vi) (n:Hp),au K j n (c.map λq=>kV q.1) ((c.map (·.1)).map kD):=by
    intro c
    induction c with
    |nil=>intro _ j n;exact .nil
    |cons q r E=>
     intro h j n;simp only [fh,A2,dR] at h;obtain ⟨k,v⟩:=q
     cases k with
     |inl i=>exact .cons (.int i) (E h.2 j n)
     |inr z=>cases h.1
   exact u c g _ _
 . cases e
end
section
variable {X:Cx} {tg a b c:Expr} {ta:TA} {p pos:Pos}
def au.three {K:aC} (r:au K A H l [d,n,g]): ∃v i e,l=[v,i,e]/\aL K A H v d/\aL K A H i n/\aL K A H e g:=by
 cases r with
 |cons h t=>
  obtain ⟨i,e,rfl,o,j⟩:=t.ap;exact ⟨_,_,_,rfl,h,o,j⟩
end
end M
namespace M
open PySem PySem.W PyProof.Rows
def Wk {c:Type} (lt:Nat->Nat->Bool) (n:Nat) (R:c->Prop):KasT c->Prop
 | .ret a=>R a
 | .ask i j k=>i<n/\j<n/\Wk lt n R (k (lt i j))
theorem Wk.bind {c d:Type} {R:c->Prop} {e:d->Prop} {f:c->KasT d} (g: ∀a,R a->Wk lt n e (f a)): ∀ {t:KasT c},Wk lt n R t->Wk lt n e (t.bind f)
 | .ret a,h=>g a h
 | .ask i j k,h=>⟨h.1,h.2.1,Wk.bind g h.2.2⟩
theorem Wk.imp {c:Type} {R d:c->Prop} (hr: ∀a,R a->d a): ∀ {t:KasT c},Wk lt n R t->Wk lt n d t
 | .ret a,h=>hr a h
 | .ask i j k,h=>⟨h.1,h.2.1,Wk.imp hr h.2.2⟩
theorem Mo {d:Type} {R:d->Prop} {Q:d->aM->Prop} {P:aM->Prop}
  (o: ∀i j C s,i<n->j<n->P s->(∀c,P c->C (lt i j) c)->e i j C s) (p: ∀a s,R a->P s->Q a s): ∀(t:KasT d) (s:aM),Wk lt n R t->P s->t.kasWp e Q s
 | .ret a,s,h,g=>p a s h g
 | .ask i j k,s,h,g=>o i j _ s h.1 h.2.1 g λc l=>Mo o p _ c h.2.2 l
structure Ord (lt:Nat->Nat->Bool) (n:Nat):Prop where
 FV: ∀i j,lt i j=true->lt j i=false
 trans: ∀i j k,i<n->j<n->k<n->lt i j=true->lt j k=true->lt i k=true
 total: ∀i j,i<n->j<n->i≠j->lt i j=true\/lt j i=true
noncomputable abbrev cJ (p:Array Nat) (i:Nat):Nat:=p.getD i 0
structure Pm (p:Array Nat) (n:Nat):Prop where
 size:p.size=n
 perm:p.toList.Perm (lC n)
def QG (h:i<p.size):p[i]?=some (cJ p i):=by
 rw [Array.getElem?_eq_getElem h];simp [cJ,yh,h]
def Pm.lt (h:Pm p n) (c:i<n):cJ p i<n:=by
 have a:i<p.size:=by rw [h.size];exact c
 have:cJ p i∈p.toList:=by simp [cJ,yh,a]
 exact pd.mp (h.perm.mem_iff.mp this)
def Pm.ne (h:Pm p n) (g:i<n) (l:j<n) (d:i≠j):cJ p i≠cJ p j:=by
 have nd:=h.perm.nodup_iff.mpr List.nodup_range;have a:i<p.toList.length:=by simp [h.size,g]
 have c:j<p.toList.length:=by simp [h.size,l]
 intro e;have e1:cJ p i=p.toList[i]:=by simp [cJ,yh,h.size,g]
 have e2:cJ p j=p.toList[j]:=by simp [cJ,yh,h.size,l]
 rw [e1,e2] at e;have o:=FW.mp nd;rcases Nat.lt_or_gt_of_ne d with z|z
 . exact o i j a c z e
 . exact o j i c a z e.symm
def Pm.of (h:Pm p n) (a:q.size=p.size) (c:q.Perm p):Pm q n:=⟨by rw [a,h.size],(Array.perm_iff_toList_perm.mp c).trans h.perm⟩
def Pm.rev (h:Pm p n) (i j:Nat):Pm (kas_rev p i j) n:=h.of (mirror_size _ _ _ _) (mirror_perm _ _ _ _)
def Mp (h:Pm p n) (d:j<=n) (c:k<n):cJ (kas_rev p 0 j) k=if k<j then cJ p (j-1-k) else cJ p k:=by
 have g:=h.rev 0 j;have e:=getElem?_mirror_all (i:=0) (by rw [h.size];exact d) k;have e1:=QG (by rw [g.size];exact c);unfold kas_rev at e1;rw [e] at e1;simp only [i8,true_and,yD] at e1
 split at e1
 . rename_i a;rw [if_pos a];rw [QG (by rw [h.size];omega)] at e1;exact (fY e1).symm
 . rename_i a;rw [if_neg a];rw [QG (by rw [h.size];exact c)] at e1;exact (fY e1).symm
section
variable {lt:Nat->Nat->Bool} {n:Nat} (O:Ord lt n)
def Up (lt:Nat->Nat->Bool) (p:Array Nat) (k:Nat):Prop:= ∀i j,i<j->j<k->lt (cJ p i) (cJ p j)=true
def Down (lt:Nat->Nat->Bool) (p:Array Nat) (k:Nat):Prop:= ∀i j,i<j->j<k->lt (cJ p j) (cJ p i)=true
include O
theorem Up.snoc (a:Pm p n) (hk:k+1<n) (h:Up lt p (k+1)) (hl:lt (cJ p k) (cJ p (k+1))=true):Up lt p (k+2):=λi j c d=>by
 by_cases e:j=k+1
 . subst e
   by_cases e2:i=k
   . subst e2;exact hl
   . exact O.trans _ _ _ (a.lt (by omega)) (a.lt (by omega)) (a.lt hk) (h i k (by omega) (by omega)) hl
 . exact h i j c (by omega)
theorem Down.snoc (a:Pm p n) (hk:k+1<n) (h:Down lt p (k+1)) (hl:lt (cJ p (k+1)) (cJ p k)=true):Down lt p (k+2):=λi j c d=>by
 by_cases e:j=k+1
 . subst e
   by_cases e2:i=k
   . subst e2;exact hl
   . exact O.trans _ _ _ (a.lt hk) (a.lt (by omega)) (a.lt (by omega)) hl (h i k (by omega) (by omega))
 . exact h i j c (by omega)
theorem FX (a:Pm p n) (d:i<n) (e:j<n) (c:i≠j) (h:lt (cJ p i) (cJ p j)=false):lt (cJ p j) (cJ p i)=true:=by
 rcases O.total _ _ (a.lt d) (a.lt e) (a.ne d e c) with z|z
 . rw [h] at z;cases z
 . exact z
theorem FY {p:Array Nat} (g:Pm p n): ∀(f m:Nat),1<=m->m+f=n->Up lt p m->Wk lt n (λr=>m<=r/\r<=n/\Up lt p r/\(r<n->lt (cJ p r) (cJ p (r-1))=true)) (kas_asc p f m)
 |0,m,l,o,h=>⟨bg _,by omega,h,λz=>by omega⟩
 |f+1,m,l,o,h=>by
  refine ⟨g.lt (by omega),g.lt (by omega),?_⟩
  cases j:lt (p.getD m 0) (p.getD (m-1) 0) with
  |true=>
   exact ⟨bg _,by omega,h,λ_=>j⟩
  |false=>
   have i:Up lt p (m+1):=by
    have e:m=(m-1)+1:=by omega
    have q:=FX O g (by omega) (by omega) (by omega) j;rw [e] at h ⊢;exact Up.snoc O g (by omega) h (by rw [<-e];exact q)
   have u:=FY g f (m+1) (by omega) (by omega) i;exact Wk.imp (λr ⟨a,b,c,d⟩=>⟨by omega,b,c,d⟩) u
theorem Mq {p:Array Nat} (g:Pm p n): ∀(f m:Nat),1<=m->m+f=n->Down lt p m->Wk lt n (λr=>r.1=p/\m<=r.2.1/\r.2.1<=n/\Down lt p r.2.1/\r.2.2=0) (kas_desc f p m 0)
 |0,m,o,q,h=>⟨rfl,bg _,(show m<=n by omega),h,rfl⟩
 |f+1,m,o,q,h=>by
  refine ⟨g.lt (by omega),g.lt (by omega),?_⟩
  cases l:lt (p.getD m 0) (p.getD (m-1) 0) with
  |true=>
   have i:Down lt p (m+1):=by
    have e:m=(m-1)+1:=by omega
    have j:=l;rw [e] at h ⊢;exact Down.snoc O g (by omega) h (by rw [<-e];exact j)
   have u:=Mq g f (m+1) (by omega) (by omega) i;exact Wk.imp (λr ⟨a,b,c,d,e⟩=>⟨a,by omega,c,d,e⟩) u
  |false=>
   have j:=FX O g (by omega) (by omega) (by omega) l;refine ⟨g.lt (by omega),g.lt (by omega),?_⟩;show Wk lt n _ (if lt (cJ p (m-1)) (cJ p m)=true then _ else _);rw [if_pos j];exact ⟨rfl,bg _,(show m<=n by omega),h,rfl⟩
theorem Down.rev (a:Pm p n) (hk:k<=n) (h:Down lt p k):Up lt (kas_rev p 0 k) k:=λi j c d=>by
 rw [Mp a hk (by omega),Mp a hk (by omega),if_pos (by omega),if_pos d];exact h _ _ (by omega) (by omega)
theorem UB {k:Nat} (d:Pm p n) (e:1<=k) (g:k<=n) (h:Down lt p k):Wk lt n (λr=>1<=r.1/\r.1<=n/\Pm r.2 n/\Up lt r.2 r.1) (kas_tail3 k n p):=by
 unfold kas_tail3;refine Wk.bind (λr ⟨a,b,c,_⟩=>?_) (FY O (d.rev 0 k) (n-k) k e (by omega) (Down.rev O d g h));exact ⟨by omega,b,d.rev 0 k,c⟩
theorem UC {p:Array Nat} (g:Pm p n) (B:1<=n):Wk lt n (λr=>1<=r.1/\r.1<=n/\Pm r.2 n/\Up lt r.2 r.1) (kas_count n p):=by
 unfold kas_count;refine Wk.bind (λr ⟨a,b,c,d⟩=>?_) (FY O g (n-1) 1 (bg _) (by omega) (λi j h o=>by omega))
 by_cases e:r=n
 . subst e;rw [if_pos (by simp)];exact ⟨a,b,g,c⟩
 . rw [if_neg (by simpa using e)]
   by_cases l:r>1
   . rw [if_pos l];refine ⟨g.lt (by omega),g.lt (by omega),?_⟩;have:lt (p.getD 0 0) (p.getD (r-1) 0)=true:=c 0 (r-1) (by omega) (by omega);show Wk lt n _ (if lt (p.getD 0 0) (p.getD (r-1) 0)=true then _ else _);rw [if_pos this];exact ⟨a,b,g,c⟩
   . rw [if_neg l];have u:r=1:=by omega
     subst u;unfold kas_descPart
     have v:Down lt p 2:=λi j h o=>by
      have:i=0/\j=1:=by omega
      obtain ⟨rfl,rfl⟩:=this;exact d (by omega)
     refine Wk.bind (λq ⟨w,E,y,z,H⟩=>?_) (Mq O g (n-2) 2 (by omega) (by omega) v);rw [if_neg (by omega),w];exact UB O g (by omega) y z
theorem UY (c:Pm p n) (d:k<n) (h:Up lt p k): ∀(f l r:Nat),l<=r->r<=k->r-l<=f->(∀i,i<l->lt (cJ p i) (cJ p k)=true)->(∀i,r<=i->i<k->lt (cJ p k) (cJ p i)=true)->
  Wk lt n (λm=>m<=k/\(∀i,i<m->lt (cJ p i) (cJ p k)=true)/\ ∀i,m<=i->i<k->lt (cJ p k) (cJ p i)=true) (kas_place p k f l r)
 |0,l,r,v,u,w,j,o=>⟨by omega,j,λi a b=>o i (by omega) b⟩
 |f+1,l,r,v,u,w,j,o=>by
  unfold kas_place
  by_cases e:l>=r
  . rw [if_pos e];exact ⟨by omega,j,λi a b=>o i (by omega) b⟩
  . rw [if_neg e];have y:(l+r)/2<r:=by omega
    refine ⟨c.lt d,c.lt (by omega),?_⟩
    cases q:lt (p.getD k 0) (p.getD ((l+r)/2) 0) with
    |true=>
     refine UY c d h f l ((l+r)/2) (by omega) (by omega) (by omega) j λi a b=>?_
     by_cases e2:i=(l+r)/2
     . rw [e2];exact q
     . exact O.trans _ _ _ (c.lt d) (c.lt (show (l+r)/2<n by omega)) (c.lt (by omega)) q (h _ _ (by omega) b)
    |false=>
     have g:=FX O c d (by omega) (by omega) q;refine UY c d h f ((l+r)/2+1) r (by omega) u (by omega) (λi a=>?_) o
     by_cases e2:i=(l+r)/2
     . rw [e2];exact g
     . exact O.trans _ _ _ (c.lt (by omega)) (c.lt (show (l+r)/2<n by omega)) (c.lt d) (h _ _ (by omega) (by omega)) g
theorem YH (a:Pm p n) (g:k<n) (o:l<=k) (h:i<n):cJ (bubble p k (k-l)) i=if i=l then cJ p k else if l<i/\i<=k then cJ p (i-1) else cJ p i:=by
 have j:Pm (bubble p k (k-l)) n:=a.of (bubble_size _ _ _) (bubble_perm _ _ _);have e:=getElem?_bubble (by rw [a.size];exact g) (k-l) (by omega) i;rw [QG (by rw [j.size];exact h)] at e;have c:k-(k-l)=l:=by omega
 rw [c] at e
 split at e
 . rename_i z;rw [if_pos z];rw [QG (by rw [a.size];exact g)] at e;exact fY e
 . rename_i z;rw [if_neg z]
   split at e
   . rename_i d;rw [if_pos d];rw [QG (by rw [a.size];omega)] at e;exact fY e
   . rename_i d;rw [if_neg d];rw [QG (by rw [a.size];exact h)] at e;exact fY e
theorem Mr: ∀(f:Nat) (p:Array Nat) (k:Nat),Pm p n->k+f=n->Up lt p k->Wk lt n (λq=>Pm q n/\Up lt q n) (kas_bin f p k)
 |0,p,k,d,r,h=>⟨d,by
  have:k=n:=by omega
  rw [this] at h;exact h⟩
 |f+1,p,k,d,r,h=>by
  unfold kas_bin;refine Wk.bind (λl ⟨a,b,c⟩=>?_) (UY O d (by omega) h k 0 k (by omega) (bg _) (by omega) (λi z=>by omega) (λi z w=>by omega));refine Mr f _ (k+1) (d.of (bubble_size _ _ _) (bubble_perm _ _ _)) (by omega) λi j e u=>?_
  rw [YH O d (by omega) a (by omega),YH O d (by omega) a (by omega)]
  by_cases e1:i=l
  . rw [if_pos e1,if_neg (by omega),if_pos (by omega)];exact c _ (by omega) (by omega)
  . rw [if_neg e1]
    by_cases e2:l<i/\i<=k
    . rw [if_pos e2,if_neg (by omega),if_pos (by omega)];exact h _ _ (by omega) (by omega)
    . rw [if_neg e2]
      by_cases g:j=l
      . rw [if_pos g];exact b _ (by omega)
      . rw [if_neg g]
        by_cases o:l<j/\j<=k
        . rw [if_pos o]
          by_cases v:i=j-1
          . omega
          . exact h _ _ (by omega) (by omega)
        . rw [if_neg o];exact h _ _ e (by omega)
theorem UD (h:1<=n):Wk lt n (λq=>Pm q n/\Up lt q n) (kas_sort n):=by
 have i:Pm (sZ (lC n)) n:=⟨by simp,by simp⟩
 unfold kas_sort;refine Wk.bind (λr g=>?_) (UC O i h);obtain ⟨a,b,c,d⟩:=g
 by_cases e:r.1<n
 . rw [if_pos e];have:max r.1 1=r.1:=by omega
   rw [this];exact Mr O _ _ _ c (by omega) d
 . rw [if_neg e];have:r.1=n:=by omega
   rw [this] at d;exact ⟨c,d⟩
end
section
variable {prog:bB} {w:World} {A:bH} {E:Vh} {s:aM} {a:Addr} {L:List Value} {n:Nat}
def xC (h:Heap) (a:Addr) (L:List Value):Heap:=((h.update a (re λ_=>(#[]:Array Value))).push (ik "tuple" L.toArray 0)).push (ik "list" #[] 0)
def U6 (L:List Value) (p:Array Nat):List Value:=p.toList.map λi=>L.getD i iq
def ZJ (c:b≠a) (e:h.get? b=some o):(xC h a L).get? b=some o:=
 bI _ (bI _ ((nU _ _ (gm c)).trans e))
def Ki (O:Ord lt L.length) (l:SortKind) (q:s.heap.get? a=some (ik "list" L.toArray n)) (h2:2<=L.length) (r:L.length<64)
  (hk: ∀Q:SortKind->aM->Prop,Q l {s with heap:=xC s.heap a L}->wpAny (model prog w) A (keyKind' L.toArray) Q (λ_ _=>False) {s with heap:=xC s.heap a L})
  (hc: ∀i j C,i<L.length->j<L.length->C (lt i j) {s with heap:=xC s.heap a L}->kas_ask prog w A l L i j C {s with heap:=xC s.heap a L})
  (h: ∀p u c,Pm p L.length->Up lt p L.length->(∀b o,b≠a->s.heap.get? b=some o->u.get? b=some o)->u.get? a=some (ik "list" (sZ (U6 L p)) c)->P (.done (.ret .none)) {s with heap:=u}):
  wpAny (model prog w) A (g9.«list.sort» ⟨[.ref a],[]⟩) P E s:=by
 obtain ⟨v,b1⟩: ∃v,(s.heap.update a (re λ_=>(#[]:Array Value))).get? a=some (ik "list" #[] v):=⟨_,C8 q λ_=> #[]⟩
 have y:(xC s.heap a L).get? a=some (ik "list" #[] v):=bI _ (bI _ b1);have big:L.length<=aP:=by rw [oZ];omega
 have walk:(kas_sort L.length).kasWp (kas_ask prog w A l L) (λp t=>t={s with heap:=xC s.heap a L}/\Pm p L.length/\Up lt p L.length) {s with heap:=xC s.heap a L}:=
  Mo (P:=λt=>t={s with heap:=xC s.heap a L}) (λi j C t hi hj B hC=>by subst B;exact hc i j C hi hj (hC _ rfl)) (λp t H B=>⟨B,H⟩) _ _ (UD O (by omega)) rfl
 rw [list_sort_plain];refine ay (listItems_at q rfl (ay (listUpdate_at q rfl (ay (seqEpoch_at b1 rfl (ay (wpAny_newTuple (ay (wpAny_newList (iy ?_) (i8 _))) (by show L.length<=aP;exact big))))) (by rw [cb];exact big) (i8 _))));dsimp only;have d: ¬L.toArray.size<2:=by rw [cb];omega
 rw [if_neg d,if_neg d];refine ay (ie (hk (λg t=>g=l/\t={s with heap:=xC s.heap a L}) ⟨rfl,rfl⟩) (λg t I=>?_) λ_ _ z=>z.elim);obtain ⟨rfl,rfl⟩:=I;refine ay (ie (kat_run (Q:=λst t=> ∃p:Array Nat,p.size=L.length/\arrOf st=p.map (kas_item (L.toArray.zip L.toArray))/\failedOf st=none/\t={s with heap:=xC s.heap a L}/\Pm p L.length/\Up lt p L.length) rfl h2 r (λp st t z1 z2 z3 z4=>⟨p,z1,z2,z3,z4⟩) walk) ?_ λ_ _ z=>z);rintro ⟨⟨⟩,st⟩ t ⟨p,H,J,hf,rfl,N,U⟩;dsimp only;have Y:(sZ (U6 L p)).size<=aP:=by rw [cb];unfold U6;rw [dQ,rT,H];exact big
 rw [kat_snds rfl J];obtain ⟨c2,Bf⟩: ∃c2,((xC s.heap a L).update a (re λ_=>sZ (U6 L p))).get? a=some (ik "list" (sZ (U6 L p)) c2):=⟨_,C8 y λ_=>sZ (U6 L p)⟩
 refine ay (seqEpoch_at y rfl (ay (listUpdate_at y rfl ?_ (i8 _) (Nat.le_succ_of_le Y))));rw [hf];simp;exact aZ (h p _ c2 N U (λb o hb e=>(nU _ _ (gm hb)).trans (ZJ hb e)) Bf)
end
def mY (h:Heap) (d:Addr) (c:List Value) (e:Nat):Prop:= ∃o a,h.get? d=some o/\o.ExactDict/\o.data= .dict a e/\a.toList.map (·.key)=c
section
variable {prog:bB} {w:World} {A:bH} {E:Vh} {s:aM} {d N:Addr} {Y:List Value} {U i:Nat}
def mY.typeIs (x:mY s.heap d Y U):s.TypeIs (.ref d) "dict" :=let ⟨o,e,a,c,_⟩:=x;⟨o,a,c.1⟩
def mY.at (x:mY h d Y U) (e: ∀o,h.get? d=some o->a.get? d=some o):mY a d Y U:=let ⟨o,c,g,r⟩:=x;⟨o,c,e _ g,r⟩
def mY.lt (x:mY h d Y U):d<h.objs.size:=let ⟨_,_,a,_⟩:=x;bO a
def Wa (j:(d==mB)=false) (g:mY s.heap d Y U)
  (l:Q (.ref s.heap.objs.size) {s with heap:=s.heap.push {cls:= .type "dict_keyiterator",data:= .fields #[.ref d,.int 0 0,.int Y.length 0,.int U 0]}}):wpAny (model prog w) A (pyIter (.ref d)) Q E s:=by
 obtain ⟨o,n,h,p,a,c⟩:=id g;have T:=g.typeIs;have e:n.size=Y.length:=by rw [<-c];simp
 refine wpAny_pyIter_slot T PySem.F.slot_dict_iter (nT PySem.F.slot_dict_iter T PySem.F.entry_dict_iter ?_ (PySem.F.args_dict_iter_1 _));unfold g9.«dict.__iter__» Builtin.Dict.dictSlotNone;refine ay (ay (wpAny_notOrdered_dict T (show wpAny _ _ (pure (cX d)) _ _ s from aZ ?_)));show wpAny _ _ (Ms d>>=_) _ _ s;unfold Ms;rw [if_neg (by rw [j];exact gd)];refine ay (aZ (ay (wpAny_dictEntries h a (ay (wpAny_dictEpoch h a (ay (mq (aZ ⟨_,rfl, "dict_keyiterator",_,⟨_,c9 _ rfl,rfl⟩,By.lookup,?_⟩))))))));simpa [fK,e] using l
def Wb (a:s.heap.IsKeyIter N d i Y.length U) (u:mY s.heap d Y U) (q:Y[i]?=some k)
  (v: ∀r,r.IsKeyIter N d (i+1) Y.length U->ph N s.heap r->Q (some k) {s with heap:=r}):wpAny (model prog w) A (pyNext (.ref N)) Q E s:=by
 obtain ⟨o,n,y,g⟩:=id a;obtain ⟨I,p,h,B,j,c⟩:=id u;have l:p.size=Y.length:=by rw [<-c];simp
 have bQ:i<p.size:=by
  rw [l];rcases Nat.lt_or_ge i Y.length with z|z
  . exact z
  . rw [n5 z] at q;cases q
 have H:p[i].key=k:=by
  have:(p.toList.map (·.key))[i]?=some k:=by rw [c];exact q
  rw [gY] at this;simpa [bQ] using this
 unfold pyNext;refine ay (yT (rc a.typeIs By (nT By a.typeIs Mt ?_ (Mu _))));refine ay (aZ (ay (ay ?_)))
 first|refine ay (C9 a.typeIs (aZ (ay (Db n g ?_))))|refine ay (Dc a.typeIs (aZ (ay (Db n g ?_))))
 simp only [show Mv "dict_keyiterator" =false by decide,pV,if_false];show wpAny _ _ (if (cX d==iq)=true then _ else _) _ _ s;rw [if_neg (show¬((cX d==iq)=true) by exact gd)];refine ay (aZ (ay (wpAny_dictEntries h j ?_)));rw [if_neg (by rw [l];simp)];refine ay (aZ (ay (wpAny_dictEpoch h j ?_)));rw [if_neg (by simp)];refine aZ ?_;simp only [show¬((i:Int)<0) by omega,if_false,rb,Array.getElem?_eq_getElem bQ];refine ay ?_
 first|refine ay (C9 a.typeIs (aZ (ay (FZ a.typeIs ?_))))|refine ay (Dc a.typeIs (aZ (ay (FZ a.typeIs ?_))))
 show wpAny _ _ (setField (.ref N) 1 (fK ((i:Int)+1))>>=_) _ _ s;refine ay (rj n g (by simp) (ay (iy ?_)))
 have e:(s.heap.update N (Bz (·.setIfInBounds 1 (fK ((i:Int)+1))))).IsKeyIter N d (i+1) Y.length U:=
  ⟨_,BA _ n (BB (rk g _)),(F0 ..).trans y,by rw [rk g];simp [fK]⟩
 refine ay (FZ e.typeIs ?_);rw [H];exact aZ (aZ ⟨_,rfl,aZ (v _ e (Dd ..))⟩)
def Wm (q:A.handled=none) (a:s.heap.IsKeyIter N d Y.length Y.length U) (r:mY s.heap d Y U)
  (u: ∀n,Heap.ExtBut N s.heap n->Q none {s with heap:=n}):wpAny (model prog w) A (pyNext (.ref N)) Q E s:=by
 obtain ⟨o,h,y,j⟩:=id a;obtain ⟨z,p,e,v,g,c⟩:=id r;have l:p.size=Y.length:=by rw [<-c];simp
 unfold pyNext;refine ay (yT (rc a.typeIs By (nT By a.typeIs Mt ?_ (Mu _))));refine ay (aZ (ay (ay ?_)))
 first|refine ay (C9 a.typeIs (aZ (ay (Db h j ?_))))|refine ay (Dc a.typeIs (aZ (ay (Db h j ?_))))
 simp only [show Mv "dict_keyiterator" =false by decide,pV,if_false];show wpAny _ _ (if (cX d==iq)=true then _ else _) _ _ s;rw [if_neg (show¬((cX d==iq)=true) by exact gd)];refine ay (aZ (ay (wpAny_dictEntries e g ?_)));rw [if_neg (by rw [l];simp)];refine ay (aZ (ay (wpAny_dictEpoch e g ?_)));rw [if_neg (by simp)];refine aZ ?_;simp only [show¬(((Y.length:Nat):Int)<0) by omega,if_false,rb,Array.getElem?_eq_none (show p.size<=Y.length by omega)];refine ay ?_
 first|refine ay (C9 a.typeIs (aZ ?_))|refine ay (Dc a.typeIs (aZ ?_))
 show wpAny _ _ (setField (.ref N) 0 .none>>=_) _ _ s;refine ay (rj h j (by simp) ?_);refine ay ?_;simp only [newExc,newTuple];refine ay (mq (ay (wpAny_of_eq (by first|rfl| (simp;rfl)) (mq ?_ (by size_fits)))) (by size_fits));simp only [raiseNew];refine ay (wpAny_handled ?_);rw [show A.in1.handled=none from q];refine ay (aZ (wpAny_throw ?_));refine ay (De ⟨_,c9 _ rfl,rfl⟩ isSubtype_stop ?_);exact aZ (u _ (((Dd ..).extBut.push _).push _))
def Wn (lo:(d==mB)=false):KdlSrc prog w "dict" d d Y.length (λi v=>Y[i]?=some v) (λh=>mY h d Y U) where
 type:=λ_ a=>a.typeIs
 there:=λ_ a=>⟨a.lt,a.lt⟩
 keep:=λ_ _ a n=>a.at λo e=>n d (.inl rfl) o e
 notList:=by decide
 notTuple:=by decide
 hint:=λ_ _ _ _ a p=>kdl_hint_dict a.typeIs p
 iter:=λA s B a=>⟨_,(λi h=>h.IsKeyIter s.heap.objs.size d i Y.length U/\mY h d Y U),(λ_ _ p=>Wa lo a p),{
  sub:=λb c=>by simp at c;simp [c]
  frame:=λ_ _ _ st n=>⟨let ⟨o,H,r⟩:=st.1;⟨o,n _ (by simp) o H,r⟩,st.2.at λo e=>n d (by simp) o e⟩
  item:=λi t Q E I st g=>by
   have y:Y[i]?=some Y[i]:=by simp [I]
   exact Wb st.1 st.2 y λq j l=>g _ q t.toks y ⟨j,st.2.at λo e=>l.extBut d o (dJ a.lt) e⟩ λb o c e=>l.extBut b o (λz=>c (by simp [z])) e
  done:=λt Q E st g=>Wm B st.1 st.2 λq u=>g q t.toks λb o c e=>u b o (λz=>c (by simp [z])) e
  self:=λ_ _ _ _ st g=>wpAny_pyIter_keyiter st.1 g},⟨⟨_,c9 _ rfl,rfl,rfl⟩,a.at λo e=>bI _ e⟩⟩
end
abbrev Hd:=Str×Int
noncomputable def bQ (a b:Hd):Bool:=if a.1=b.1 then decide (a.2<b.2) else decide (a.1.cps.toList<b.1.cps.toList)
def Wo {b:Str} (h:a.cps.toList=b.cps.toList):a=b:=by
 cases a;cases b;simp;exact Array.toList_inj.mp h
def ug (h:bQ a b=true):bQ b a=false:=by
 unfold bQ at h ⊢
 by_cases e:a.1=b.1
 . rw [if_pos e] at h;rw [if_pos e.symm];simp at h;simp;omega
 . rw [if_neg e] at h;rw [if_neg λz=>e z.symm];simp at h;simp;exact List.lt_asymm h
def VT (g:bQ a b=true) (d:bQ b c=true):bQ a c=true:=by
 unfold bQ at g d ⊢
 by_cases e:a.1=b.1
 . rw [if_pos e] at g
   by_cases e2:b.1=c.1
   . rw [if_pos e2] at d;rw [if_pos (e.trans e2)];simp at g d ⊢;omega
   . rw [if_neg e2] at d;rw [if_neg (by rw [e];exact e2),e];exact d
 . rw [if_neg e] at g;simp at g
   by_cases e2:b.1=c.1
   . rw [if_pos e2] at d;rw [if_neg (by rw [<-e2];exact e),<-e2];simpa using g
   . rw [if_neg e2] at d;simp at d;have h:=List.lt_trans g d;have i:a.1≠c.1:=λz=>List.lt_irrefl _ (by rw [z] at h;exact h)
     rw [if_neg i];simpa using h
def VU {b:Hd} (h:a≠b):bQ a b=true\/bQ b a=true:=by
 unfold bQ
 by_cases e:a.1=b.1
 . have e2:a.2≠b.2:=λz=>h (Prod.ext e z)
   rw [if_pos e,if_pos e.symm];simp;omega
 . rw [if_neg e,if_neg λz=>e z.symm];simp only [decide_eq_true_eq];have:a.1.cps.toList≠b.1.cps.toList:=λz=>e (Wo z)
   by_cases z:a.1.cps.toList<b.1.cps.toList
   . exact .inl z
   . exact .inr (Std.lt_of_le_of_ne z (gm this))
def iM (c:List Hd) (i j:Nat):Bool:=match c[i]?,c[j]? with
 |some a,some b=>bQ a b
 |_,_=>false
def Wu (r:g.Nodup):Ord (iM g) g.length where
 FV:=λi j h=>by
  unfold iM at h ⊢
  cases c:g[i]? with
  |none=>rw [c] at h;cases h
  |some a=>
    cases d:g[j]? with
    |none=>rfl
    |some b=>rw [c,d] at h;exact ug h
 trans:=λi j k c d p l n=>by
  unfold iM at l n ⊢;rw [cU c,cU d] at l;rw [cU d,cU p] at n;rw [cU c,cU p];exact VT l n
 total:=λi j c d o=>by
  unfold iM;rw [cU c,cU d];refine VU λe=>?_
  have q:=FW.mp r;rcases Nat.lt_or_gt_of_ne o with z|z
  . exact q i j c d z e
  . exact q j i d c z e.symm
def oo (h:Heap) (v:Value) (a:Hd):Prop:= ∃b o n t u,v= .ref b/\h.get? b=some o/\o.cls= .type "tuple" /\o.data= .seq #[.str a.1 t,.int a.2 u] n
section
variable {prog:bB} {w:World} {A:bH} {E:Vh} {s:aM}
def Wv (d:s.heap.get? x=some g) (dx:g.data= .seq #[.str a.1 t,.int a.2 u] n) (i:s.heap.get? y=some j) (l:j.data= .seq #[.str b.1 p,.int b.2 q] m) (h:Q (bQ a b) s):
   wpAny (model prog w) A (keyLt' (tuples' true) (.ref x) (.ref y)) Q E s:=by
 refine kat_lt d dx i l ?_;refine kat_cons (eqBool_str (kat_go (λe=>kat_yes (kat_cons (wpAny_eqBool_int (kat_go (λe2=>kat_yes (kat_nil ?_)) λe2=>kat_no (kat_one _ _ (wpAny_lt_int ?_)))))) λe=>kat_no (oneLt_str ?_)))
 . have c:a.1=b.1:=by simpa using e
   have o:a.2=b.2:=by simpa using e2
   have:bQ a b=false:=by unfold bQ;rw [if_pos c];simp [o]
   rw [this] at h;exact h
 . have c:a.1=b.1:=by simpa using e
   have:bQ a b=decide (a.2<b.2):=by unfold bQ;rw [if_pos c]
   rw [this] at h;exact (show Q (decide (a.2<b.2)) s from h)
 . have c:a.1≠b.1:=by simpa using e
   have:bQ a b=decide (a.1.cps.toList<b.1.cps.toList):=by unfold bQ;rw [if_neg c]
   rw [this] at h;exact h
def oo.keep (x:oo h v a) (k: ∀b o,h.get? b=some o->o.cls= .type "tuple" ->d.get? b=some o):oo d v a:=
 let ⟨b,o,n,t,u,e,g,c,hd⟩:=x;⟨b,o,n,t,u,e,k b o g c,c,hd⟩
inductive cj (h:Heap):List Value->List Hd->Prop where
 |nil:cj h [] []
 |cons {v:Value} {a:Hd} {vs:List Value} {hs:List Hd}:oo h v a->cj h vs hs->cj h (v::vs) (a::hs)
theorem cj.length: ∀ {vs:List Value} {hs:List Hd},cj h vs hs->vs.length=hs.length
 |_,_,.nil=>rfl
 |_,_,.cons _ t=>by simp [t.length]
theorem cj.keep (k: ∀b o,h.get? b=some o->o.cls= .type "tuple" ->d.get? b=some o): ∀ {a:List Value} {c:List Hd},cj h a c->cj d a c
 |_,_,.nil=> .nil
 |_,_,.cons x t=> .cons (x.keep k) (t.keep k)
theorem cj.get: ∀ {vs:List Value} {hs:List Hd} {i:Nat} {a:Hd},cj h vs hs->hs[i]?=some a->oo h (vs.getD i iq) a
 |_,_,0,a,.cons x t,e=>by simp at e;subst e;simpa using x
 |_,_,i+1,a,.cons x t,e=>by simpa using t.get (by simpa using e)
theorem cj.dE: ∀ {a:List Value} {c:List Hd},cj h a c-> ∃fs,KatTups h a fs/\fs.length=a.length/\ ∀f∈fs,∃z t,f= .str z t
 |_,_,.nil=>⟨[],KatTups.nil,rfl,λ_ z=>nomatch z⟩
 |_,_,.cons x r=>by
  obtain ⟨fs,d,e,g⟩:=r.dE;obtain ⟨b,o,n,t,u,rfl,i,j,hd⟩:=x
  exact ⟨_::fs,KatTups.cons i j hd rfl d,by simp [e],λf hf=>by
   rcases bA.mp hf with rfl|hf
   . exact ⟨_,_,rfl⟩
   . exact g f hf⟩
def Ww:Looks M h (typeOf (.str z t)) (.type "str"):=Looks.of_pure rfl
def u4 (N:s.heap.get? a=some (ik "list" d.toArray n)) (O:cj s.heap d g) (U:g.Nodup) (Y:2<=d.length) (y:d.length<64)
   (h: ∀p B c,Pm p d.length->Up (iM g) p d.length->(∀b o,b≠a->s.heap.get? b=some o->B.get? b=some o)->B.get? a=some (ik "list" (sZ (U6 d p)) c)->P (.done (.ret .none)) {s with heap:=B}):
   wpAny (model prog w) A (g9.«list.sort» ⟨[.ref a],[]⟩) P E s:=by
 have hl:=O.length
 have keep: ∀b o,s.heap.get? b=some o->o.cls= .type "tuple" ->(xC s.heap a d).get? b=some o:=λb o e hc=>ZJ (λz=>by
   subst z;rw [N] at e;cases e;simp [ik] at hc) e
 have l:=O.keep keep;obtain ⟨fs,k1,k2,k3⟩:=l.dE;refine Ki (by rw [hl];exact Wu U) (tuples' (vc "str" !=vc "tuple")) N Y y (λQ q=>?_) (λi j C hi hj hC=>?_) h
 . exact kat_kind k1 (by omega) (λf hf=>by obtain ⟨z,t,rfl⟩:=k3 f hf;exact Ww) rfl q
 . have r:i<g.length:=by omega
   have v:j<g.length:=by omega
   obtain ⟨b,o,m,t,u,e1,H,_,I⟩:=l.get (cU r);obtain ⟨b',o',m',t',u',e2,J,_,L⟩:=l.get (cU v);show wpAny _ _ (keyLt' _ (d.getD i iq) (d.getD j iq)) C _ _;rw [e1,e2];refine Wv H I J L ?_;have:iM g i j=bQ g[i] g[j]:=by unfold iM;rw [cU r,cU v]
   rw [<-this];exact hC
end
section
variable {prog:bB} {w:World} {A:bH} {E:Vh} {s:aM} {a:Addr} {Q:List Value} {n:Nat}
def WE (i:s.heap.get? a=some (ik "list" Q.toArray n)) (y:Q.length<2)
  (h: ∀j c,(∀b o,b≠a->s.heap.get? b=some o->j.get? b=some o)->j.get? a=some (ik "list" Q.toArray c)->P (.done (.ret .none)) {s with heap:=j}):
  wpAny (model prog w) A (g9.«list.sort» ⟨[.ref a],[]⟩) P E s:=by
 obtain ⟨l,u⟩: ∃l,(s.heap.update a (re λ_=>(#[]:Array Value))).get? a=some (ik "list" #[] l):=⟨_,C8 i λ_=> #[]⟩
 have p:(xC s.heap a Q).get? a=some (ik "list" #[] l):=bI _ (bI _ u);have big:Q.length<=aP:=by rw [oZ];omega
 rw [list_sort_plain];refine ay (listItems_at i rfl (ay (listUpdate_at i rfl (ay (seqEpoch_at u rfl (ay (wpAny_newTuple (ay (wpAny_newList (iy ?_) (i8 _))) (by show Q.length<=aP;exact big))))) (by rw [cb];exact big) (i8 _))));dsimp only;have d:Q.toArray.size<2:=by rw [cb];omega
 rw [if_pos d,if_pos d];refine ay (aZ (ay (aZ ?_)));dsimp only
 have g:(arrOf (SortSt.mk' general' (Q.toArray.zip Q.toArray) #[] 7 none)).map (·.2)=Q.toArray:=by
  apply Array.toList_inj.mp;simp [List.map_snd_zip]
 rw [g];obtain ⟨q,r⟩: ∃q,((xC s.heap a Q).update a (re λ_=>Q.toArray)).get? a=some (ik "list" Q.toArray q):=⟨_,C8 p λ_=>Q.toArray⟩
 refine ay (seqEpoch_at p rfl (ay (listUpdate_at p rfl ?_ (i8 _) (by rw [cb];exact Nat.le_succ_of_le big))));simp;exact aZ (h _ q (λb o v e=>(nU _ _ (gm v)).trans (ZJ v e)) r)
end
noncomputable def lT (a:Hd):List Hd->List Hd
 | []=>[a]
 |b::r=>if bQ a b=true then a::b::r else b::lT a r
def ZK (a:List Hd):List Hd:=a.foldr lT []
theorem Xu (a:Hd): ∀l,(lT a l).Perm (a::l)
 | []=>F1 _
 |b::r=>by
  unfold lT
  split
  . exact F1 _
  . exact ((Xu a r).cons b).trans (List.Perm.swap a b r)
theorem yk: ∀c,(ZK c).Perm c
 | []=>F1 _
 |a::r=>(Xu a (ZK r)).trans ((yk r).cons a)
theorem Mw: ∀ {l:List Hd},l.Pairwise (λx y=>bQ x y=true)->a∉l->(lT a l).Pairwise (λx y=>bQ x y=true)
 | [],_,_=>by simp [lT]
 |b::r,h,n=>by
  have d:=BC.mp h;unfold lT
  by_cases e:bQ a b=true
  . rw [if_pos e];refine BC.mpr ⟨λc g=>?_,h⟩;rcases bA.mp g with z|z
    . rw [z];exact e
    . exact VT e (d.1 c z)
  . rw [if_neg e];have i:a≠b:=λz=>n (by simp [z])
    have j:=(VU i).resolve_left e;refine BC.mpr ⟨λc g=>?_,Mw d.2 λz=>n (by simp [z])⟩;rcases bA.mp ((Xu a r).mem_iff.mp g) with z|z
    . rw [z];exact j
    . exact d.1 c z
theorem vt: ∀ {c:List Hd},c.Nodup->(ZK c).Pairwise (λx y=>bQ x y=true)
 | [],_=>List.Pairwise.nil
 |a::r,h=>by
  have d:=q0.mp h;exact Mw (vt d.2) λz=>d.1 ((yk r).mem_iff.mp z)
theorem K8: ∀ {l m:List Hd},l.Pairwise (λx y=>bQ x y=true)->m.Pairwise (λx y=>bQ x y=true)->l.Perm m->l=m
 | [],m,_,_,p=>(List.nil_perm.mp p).symm
 |a::l,[],_,_,p=>by have:=p.length_eq;simp at this
 |a::l,b::m,j,n,p=>by
  have c:=BC.mp j;have d:=BC.mp n
  have e:a=b:=by
   by_cases z:a=b
   . exact z
   . have o:a∈b::m:=p.mem_iff.mp (by simp);have q:b∈a::l:=p.mem_iff.mpr (by simp);have g:=(bA.mp o).resolve_left z;have h:=(bA.mp q).resolve_left λy=>z y.symm
     have r:=c.1 b h;have i:=d.1 a g;rw [ug r] at i;cases i
  subst e;rw [K8 c.2 d.2 (List.perm_cons a|>.mp p)]
inductive F2 {α β:Type} (R:α->β->Prop):List α->List β->Prop where
 |nil:F2 R [] []
 |cons {a b as bs}:R a b->F2 R as bs->F2 R (a::as) (b::bs)
theorem F2.length {α β:Type} {R:α->β->Prop}: ∀ {as:List α} {bs:List β},F2 R as bs->as.length=bs.length
 |_,_,.nil=>rfl
 |_,_,.cons _ t=>by simp [t.length]
theorem F2.get {α β:Type} {R:α->β->Prop} {a0:α} {b0:β}: ∀ {as:List α} {bs:List β} {i:Nat},F2 R as bs->i<bs.length->R (as.getD i a0) (bs.getD i b0)
 |_,_,0,.cons x t,_=>by simpa using x
 |_,_,i+1,.cons x t,h=>by simpa using t.get (by simpa using h)
theorem F2.map {c d a:Type} {R:c->d->Prop} {f:a->c} {g:a->d}: ∀ {l:List a},(∀x∈l,R (f x) (g x))->F2 R (l.map f) (l.map g)
 | [],_=> .nil
 |x::l,h=> .cons (h x (by simp)) (F2.map λy e=>h y (by simp [e]))
def WM (o:a.Nodup) (d:Pm p a.length) (q:Up (iM a) p a.length):p.toList.map (λi=>a.getD i ("",0))=ZK a:=by
 have c: ∀i∈p.toList,i<a.length:=λi e=>pd.mp (d.perm.mem_iff.mp e)
 refine K8 ?_ (vt o) ?_
 . rw [List.pairwise_map,FW];intro i j e r g;have v:p.toList.length=a.length:=by rw [rT,d.size]
   have:=q i j g (by omega);have e1:cJ p i=p.toList[i]:=by simp [cJ,yh,d.size,show i<a.length by omega]
   have e2:cJ p j=p.toList[j]:=by simp [cJ,yh,d.size,show j<a.length by omega]
   rw [e1,e2] at this;have h:=c _ (pR e);have l:=c _ (pR r);unfold iM at this;rw [cU h,cU l] at this;rw [yU,yU,cU h,cU l];exact this
 . have n:=d.perm.map (λi=>a.getD i (("" :Str),(0:Int)))
   have u:(lC a.length).map (λi=>a.getD i ("",0))=a:=by
    apply List.ext_getElem?;intro i
    by_cases e:i<a.length
    . simp [e]
    . rw [n5 (by simp;omega),n5 (by omega)]
   rw [u] at n;exact n.trans (yk a).symm
def XH (h:c.length<2):ZK c=c:=by
 match c,h with
 | [],_=>rfl
 | [a],_=>rfl
section
variable {prog:bB} {w:World} {A:bH} {E:Vh} {s:aM} {a:Addr} {J:List Value} {n:Nat}
def XI {P:PySem.Fin->aM->Prop} {g:List Hd} (q:s.heap.get? a=some (ik "list" J.toArray n)) (u:cj s.heap J g) (v:g.Nodup) (j:J.length<64)
   (h: ∀(y:List Value) d c,(∀R:Value->Hd->Prop,F2 R J g->F2 R y (ZK g))->(∀b o,b≠a->s.heap.get? b=some o->d.get? b=some o)->d.get? a=some (ik "list" y.toArray c)->P (.done (.ret .none)) {s with heap:=d}):
   wpAny (model prog w) A (g9.«list.sort» ⟨[.ref a],[]⟩) P E s:=by
 have B:=u.length
 by_cases H:J.length<2
 . exact WE q H λd c k e=>h J d c (λR r=>by rw [XH (by omega)];exact r) k e
 . refine u4 q u v (by omega) j λp d c l z k e=>h _ d c (λR r=>?_) k e
   rw [B] at l z;rw [<-WM v l z];exact F2.map λi I=>r.get (pd.mp (l.perm.mem_iff.mp I))
end
section
variable {prog:bB} {w:World} {A:bH} {E:Vh} {t:aM} {I:List Value} {H:List Hd}
def UK {Q:Vh} (n:cj t.heap I H) (p:H.Nodup) (i:I.length<64)
  (h: ∀(g:List Value) a c,(∀R:Value->Hd->Prop,F2 R I H->F2 R g (ZK H))->(∀b o,t.heap.get? b=some o->a.get? b=some o)->a.get? t.heap.objs.size=some (ik "list" g.toArray c)->Q (.ref t.heap.objs.size) {t with heap:=a}):
  wpAny (model prog w) A (newList I>>=λl=>mE [l] (call (.builtin "list.sort") [l] [])>>=λ_=>ret l) (λj q=> ∃v,j= .done (.ret v)/\Q v q) E t:=by
 have d:(t.heap.push (ik "list" I.toArray 0)).get? t.heap.objs.size=some (ik "list" I.toArray 0):=c9 _ rfl;refine ay (wpAny_newList (ay (iy ?_)) (by rw [oZ];omega));refine nT slot_list_sort ⟨_,d,rfl⟩ entry_list_sort ?_ (args_list_sort _);refine XI d (n.keep λb o e _=>bI _ e) p i λg a c r k e=>⟨_,rfl,aZ ⟨_,rfl,h g a c r (λb o e2=>k b o (λz=>?_) (bI _ e2)) e⟩⟩
 exact oV _ (by have:=bO e2;rw [z] at this;exact this)
end
end M
namespace M
open PySem PySem.Spec L2
open PyProof.Rows hiding St
section
variable {X:Cx}
section
variable {Q J:Type} {R:Q->J->Prop} {a:Q} {b:J} {l:List Q} {n:List J}
def F2.cP (r:F2 R (a::l) n): ∃b m,n=b::m/\R a b/\F2 R l m:=by cases r;exact ⟨_,_,rfl,by assumption,by assumption⟩
def F2.gE (r:F2 R l (b::n)): ∃a m,l=a::m/\R a b/\F2 R m n:=by cases r;exact ⟨_,_,rfl,by assumption,by assumption⟩
def F2.fN (r:F2 R l []):l=[]:=by cases r;rfl
def F2.F3 (r:F2 R [] n):n=[]:=by cases r;rfl
def F4 (r:mz R (a::l) n): ∃b m,n=b::m/\R a b/\mz R l m:=by cases r;exact ⟨_,_,rfl,by assumption,by assumption⟩
def Mx (r:mz R [] n):n=[]:=by cases r;rfl
end
def zh (H:Hp) (x:V) (a:Hd):Prop:= ∃b,x= .ref b/\H b=some (.ak [.str a.1,.int a.2])
theorem Mz {i:L2.St} (I:aA X g i H s): ∀ {d:List V} {c:List Value} {e:List Hd},aN d c->F2 (zh H) d e->cj s.heap c e/\F2 (λv a=> ∃b,v=cX b/\H b=some (.ak [.str a.1,.int a.2])) c e
 | [],_,_,r,f=>by cases Mx r;cases f.F3;exact ⟨.nil,.nil⟩
 |y::d,_,_,r,f=>by
  obtain ⟨_,_,rfl,r,j⟩:=F4 r;obtain ⟨_,_,rfl,⟨b,rfl,h⟩,l⟩:=f.cP;obtain ⟨p,q⟩:=Mz I j l;cases r;obtain ⟨_,c,w,o,z,B,n,E⟩:=(show a6 X.prog X.w H s.heap b (.ak _) from I.aV b _ h)
  obtain ⟨_,_,rfl,⟨t,rfl⟩,J⟩:=F4 w;obtain ⟨_,_,rfl,⟨u,rfl⟩,L⟩:=F4 J;cases Mx L;exact ⟨.cons ⟨b,o,n,t,u,rfl,z,B,E⟩ p,.cons ⟨b,rfl,h⟩ q⟩
theorem MA: ∀ {e:List Value} {d:List Hd},F2 (λv a=> ∃b,v=cX b/\H b=some (.ak [.str a.1,.int a.2])) e d-> ∃c,aN c e/\F2 (zh H) c d
 |_,[],f=>by cases f.fN;exact ⟨[],.nil,.nil⟩
 |_,a::d,f=>by
  obtain ⟨_,_,rfl,⟨b,rfl,g⟩,t⟩:=f.gE;obtain ⟨c,h,i⟩:=MA t;exact ⟨.ref b::c,.cons rfl h,.cons ⟨b,rfl,g⟩ i⟩
end
def BD:List D->Option (List aR)
 | []=>some []
 |d::r=>match hH d,BD r with
  |some k,some a=>some (k::a)
  |_,_=>none
noncomputable def tc:D->Option (List aR)
 | .ak a=>BD a
 |_=>none
noncomputable def lU (a:List (List aR)) (k:List aR):Bool:=a.any λx=>decide (x=k)
def zE (a:List (List aR)) (k:List aR):List (List aR):=if lU a k=true then a else a++[k]
def zF (a:List (List aR)) (ds:List D) (k:List aR) (d:D):List D:=if lU a k=true then (a.zip ds).map (λp=>if p.1=k then d else p.2) else ds++[d]
section
variable {K:aC} {A:Vi} {H:Hp}
theorem vY: ∀ {c:List V} {ds:List D} {a:List aR},au K A H c ds->BD ds=some a->c=a.map kV
 | [],_,a,r,h=>by cases r.fN;cases h;rfl
 |v::c,_,a,r,h=>by
  obtain ⟨d,ds,rfl,r,t⟩:=r.cP;unfold BD at h
  cases e1:hH d with
  |none=>rw [e1] at h;cases h
  |some k=>
   cases e2:BD ds with
   |none=>rw [e1,e2] at h;cases h
   |some e=>
    rw [e1,e2] at h;cases h;rw [Xq r e1,vY t e2];rfl
def XZ (r:aL K A H y d) (h:tc d=some k): ∃b,y= .ref b/\H b=some (.ak (k.map kV)):=by
 cases d<;>try cases h
 obtain ⟨_,_,rfl,e,a⟩:=r.f;exact ⟨_,rfl,by rw [e,vY a h]⟩
def X0 (a:List (List aR×V)) (k:List aR):(a.any λc=>decide (c.1=k))=lU (a.map (·.1)) k:=by
 unfold lU;rw [List.any_map];rfl
theorem Vk (k:List aR) (g:aL K A H v d): ∀ {a:List (List aR×V)} {ds:List D},au K A H (a.map (·.2)) ds->au K A H ((a.map (λc=>if c.1=k then (c.1,v) else c)).map (·.2)) (((a.map (·.1)).zip ds).map (λp=>if p.1=k then d else p.2))
 | [],_,r=>by cases r.fN;exact .nil
 | (i,n)::a,_,r=>by
  obtain ⟨_,_,rfl,j,l⟩:=r.cP;have h:=Vk k g l
  by_cases e:i=k
  . simp only [fh,ya,e,if_true];exact .cons g (by simpa [e] using h)
  . simp only [fh,ya,e,if_false];exact .cons j h
def X9 (k:List aR) (r:au K A H (a.map (·.2)) ds) (c:aL K A H v d):
   (putK a k v).map (·.1)=zE (a.map (·.1)) k/\au K A H ((putK a k v).map (·.2)) (zF (a.map (·.1)) ds k d):=by
 unfold putK zE zF;rw [X0]
 by_cases h:lU (a.map (·.1)) k=true
 . rw [if_pos h,if_pos h,if_pos h];refine ⟨?_,Vk k c r⟩;rw [sY];apply List.map_congr_left;intro p _;simp
   split<;>rfl
 . rw [if_neg h,if_neg h,if_neg h];refine ⟨by simp,?_⟩;rw [C6];exact r.append (.cons c .nil)
def aL.F5 (r:aL K A H v (.bP e ds)): ∃a d,v= .ref a/\H a=some (.dT d)/\A a/\d.map (·.1)=e/\au K (λc=>A c/\c≠a) H (d.map (·.2)) ds:=r.f
end
def Zm {K:aC} {i:Nat} (k:ax K G p env d H) (g:env[i]?=some (.aw (.bP h ds))): ∃a c,d[i]?=some (some (.ref a))/\H a=some (.dT c)/\c.map (·.1)=h/\au K (Sf G env d) H (c.map (·.2)) ds:=by
 obtain ⟨a,j,q,l⟩:=k.aw i _ g
 cases l with
 |bP e n o r=>subst o;exact ⟨a,_,j,e,n,r⟩
noncomputable def tj (i:Nat) (env:Sl):al (List (List aR)×List D):=match env[i]? with
 |some (.aw (.bP a c))=> .ok (a,c)
 |_=> .aj
def ZF (h:tj i env= .ok p):env[i]?=some (.aw (.bP p.1 p.2)):=by
 unfold tj at h
 split at h
 . cases h;assumption
 . cases h
section
variable {X:Cx} {K:aC} {L l2:Lv} {e1 e2:Expr} {O N:T1} {U bY Y p:Pos} {x:Str}
noncomputable def F6:Sl->al D:=λ_=> .ok (.bP [] [])
def jdo:DE X .t (.Dict [] [] U) F6:=by
 with_unfolding_all exact (PE.imp RY λg H Q=>by
  rintro ⟨G,h,c,d,k,e,q⟩;cases e
  exact λp a=>q _ _ (ao.aH a) (.bP ju (k.new p a) rfl rfl .nil) (qK (ao.refl H) a))
def zI (i:Nat) (O N:T1):Sl->al aT:=λa=>tj i a>>=λq=>N a>>=λd=>O a>>=λc=>match tc c with
 |some k=>aY (q.1.length<aP) (.ok (.nx (a.set i (.aw (.bP (zE q.1 k) (zF q.1 q.2 k d))))))
 |none=> .aj
def jfm (i:Nat) (hu:X.A.units+1<cLine) (hk:DE X L e1 O) (hv:DE X .s e2 N) (hN:X.N[i]?=some x:=by rfl) (z:gM X.env.scope x:=by exact eE rfl)
   (hd:YU x:=by decide) (B:WV x:=by decide)
   (hs:ix e2 (some (.Subscript (.Name x p) e1 Y)) U.line X.env=pure false:=by rfl):
   DS X (.Assign [.Subscript (.Name x p) e1 Y] e2 U) (zI i O N):=by
 with_unfolding_all exact (
  PS.imp (Lw hu (xF hN z hd B) hk hv hs) λE σ H=>by
   rintro ⟨G,J,g,o,k,h,q⟩;obtain ⟨ks,c1,h⟩:=jd h;obtain ⟨d,c2,h⟩:=jd h;obtain ⟨Q,c3,u⟩:=jd h;have hi:=ZF c1;obtain ⟨a,I,ha,hx,j,rs⟩:=Zm k hi
   cases c:tc Q with
   |none=>rw [c] at u;cases u
   |some kk=>
    rw [c] at u;obtain ⟨hz,c5⟩:=jv u;cases c5;refine ⟨G,J,g,d,k,c2,λv H1 l r1 _=>⟨.ref a,ha,G,J,g,Q,k.am l,c3,λy H2 n r2 _=>?_⟩⟩;have r:=n _ _ (l _ _ hx);obtain ⟨b,rfl,hb⟩:=XZ (r2.aE Lv.bf) c;have hl:I.length<aP:=by rw [<-j,dQ] at hz;exact hz
    refine ⟨a,_,rfl,jK.t r hb hl,?_⟩;obtain ⟨p1,p2⟩:=X9 kk ((rs.am l).am n) (r1.am n);rw [j] at p1 p2;have W:=((k.am l).am n).iG hi ha r trivial λA' H' st e w=> .bP e p1 rfl (p2.a5 st w)
    exact q σ _ W.1 ((W.2.am n).am l))
noncomputable def qS (a:Hd):D:= .ak [.str a.1,.int a.2]
def jiY (c:List Hd):Bool:=c.all λa=>decide (a.1.length<=aP)
theorem MB: ∀ {d:List V} {c:List Hd},F2 (zh H) d c->(∀a∈c,a.1.length<=aP)->au K A H d (c.map qS)
 |_,[],f,_=>by cases f.fN;exact .nil
 |_,a::c,f,h=>by
  obtain ⟨_,_,rfl,⟨b,rfl,e⟩,t⟩:=f.gE;exact .cons (.ak e (.cons (.str _ (h _ (by simp))) (.cons (.int _) .nil))) (MB t λa g=>h a (by simp [g]))
end
noncomputable def dI (a:Hd):List aR:=[.inr a.1,.inl a.2]
section
variable {X:Cx} {K:aC}
theorem Yl: ∀ {d:List (List aR×V)} {g:List (List aR×Addr×Value)} {c:List Hd},KT H d g->d.map (·.1)=c.map dI->F2 (zh H) (g.map λq=>V.ref q.2.1) c
 |_,_,c,.nil,e=>by
  cases c with
  |nil=>exact .nil
  |cons a r=>cases e
 |_,_,c,.cons h t,e=>by
  cases c with
  |nil=>cases e
  |cons a r=>
   simp at e;refine .cons ⟨_,rfl,?_⟩ (Yl t e.2);rw [h.2.1,e.1];rfl
theorem Vm: ∀(l:List Addr),aN (l.map V.ref) (l.map cX)
 | []=> .nil
 |a::l=> .cons rfl (Vm l)
def Um (hc:X.bM=true):bC X (.builtin "sorted") (λL H Q=> ∃a d j,L=[.ref a]/\H a=some (.dT d)/\d.map (·.1)=j.map dI/\j.Nodup/\j.length<64/\ ∀l w,H l=none->F2 (zh H) w (ZK j)->Q (.ref l) (aH H l (.ai w))):=by
 intro y s σ H L w Q I r h;obtain ⟨a,d,j,rfl,ha,hk,nd,h64,q⟩:=h;obtain ⟨u,rfl,rx⟩:=Wx r;cases rx;obtain ⟨hz,lo,n,hp,o,es,ep,ho,hx,hd,he,_⟩:=(show a6 X.prog X.w H s.heap a (.dT d) from I.aV a _ ha)
 have N:=Yl hp hk
 have hV:aN (n.map λq=>V.ref q.2.1) (n.map λq=>cX q.2.1):=by
  have:=Vm (n.map λq=>q.2.1);simpa [sY,Function.comp_def] using this
 obtain ⟨hA,hR⟩:=Mz I hV N;have O:n.length=j.length:=by simpa using N.length
 have hD:mY s.heap a (n.map λq=>cX q.2.1) ep:=⟨o,es,ho,hx,hd,by rw [he,sY];rfl⟩
 refine Calls.call_function_entry kind_sorted plain_sorted entry_sorted (args_sorted1 _) ?_;unfold g9.«sorted»;refine ay (aZ (ay (PySem.W.kdu_collect (Wn lo) (show X.A.in1.handled=none from I.ok.hd hc) hD (by rw [dQ,oZ];omega) λh' tk p z g=>?_)))
 have v:p.toList=n.map λq=>cX q.2.1:=by
  apply List.ext_getElem?;intro i;have hl:p.toList.length=(n.map λq=>cX q.2.1).length:=by rw [rT];exact g.1
  by_cases U:i<p.toList.length
  . rw [cU U];exact (g.2 i _ (by rw [<-FU];exact cU U)).symm
  . rw [n5 (by omega),n5 (by omega)]
 rw [v];refine UK (hA.keep λb o e _=>z b o e) nd (by rw [dQ];omega) λw h2 c B k e=>?_
 obtain ⟨E,v1,Y⟩:=MA (B _ hR);have I1:aA X y σ H {s with heap:=h',toks:=tk}:=I.kept z
 have J:E.length<=aP:=by
  have a1:=Y.length;have a2:=(yk j).length_eq;rw [oZ];omega
 exact ⟨.ref _,_,I1.laid k (bg _) (show a6 X.prog X.w _ h2 _ (.ai E) from ⟨J,w,c,v1,e⟩),rfl,q _ E (I1.aV.fresh (bg _)) Y⟩
def F7:List aR->Option Hd
 | [.inr z,.inl k]=>some (z,k)
 |_=>none
def Zh:List (List aR)->Option (List Hd)
 | []=>some []
 |d::r=>match F7 d,Zh r with
  |some a,some c=>some (a::c)
  |_,_=>none
theorem VX: ∀ {e:List (List aR)} {c:List Hd},Zh e=some c->e=c.map dI
 | [],c,h=>by cases h;rfl
 |d::r,c,h=>by
  unfold Zh at h
  cases e1:F7 d with
  |none=>rw [e1] at h;cases h
  |some a=>
   cases e2:Zh r with
   |none=>rw [e1,e2] at h;cases h
   |some g=>
    rw [e1,e2] at h;cases h;rw [VX e2];unfold F7 at e1
    split at e1
    . cases e1;rfl
    . cases e1
def YO:List D->al D
 | [.bP c _]=>match Zh c with
  |some a=>aY (a.Nodup/\a.length<64/\jiY a=true) (.ok (.ai ((ZK a).map qS)))
  |none=> .aj
 |_=> .aj
def jaP:Uz K (λB H Q=> ∃a g h,B=[.ref a]/\H a=some (.dT g)/\g.map (·.1)=h.map dI/\h.Nodup/\h.length<64/\ ∀l j,H l=none->F2 (zh H) j (ZK h)->Q (.ref l) (aH H l (.ai j))) YO:=by
 intro A B H U d Q r e q;unfold YO at e
 split at e
 . rename_i E Y
   cases n:Zh E with
   |none=>rw [n] at e;cases e
   |some h=>
    rw [n] at e;obtain ⟨⟨I,o,u⟩,e2⟩:=jv e;cases e2;obtain ⟨v,rfl,J⟩:=r.one;obtain ⟨p,g,rfl,L,_,w,_⟩:=J.F5;refine ⟨p,g,h,rfl,L,by rw [w];exact VX n,I,o,λl j i N=>q _ _ (ao.aH i) (.ai ju (.inl i) ?_) (qK (ao.refl H) i)⟩
    have y: ∀a∈ZK h,a.1.length<=aP:=λa O=>by
     have:=mP.mp u a ((yk h).mem_iff.mp O);simpa using this
    exact ((MB (A:=λ_=>False) N y).am (ao.aH i)).aE λc z=>z.elim
 . cases e
end
section
variable {prog:bB} {w:World} {A:bH} {E:Vh} {s:aM}
theorem YJ: ∀ {c:List Int} {g:List Value},aN (c.map V.int) g->g.length=c.length/\ ∀i v,g[i]?=some v-> ∃t,v=Value.int (c.getD i 0) t
 | [],_,.nil=>⟨rfl,λi v h=>by cases h⟩
 |i::c,_,.cons h t=>by
  obtain ⟨a,b⟩:=YJ t;refine ⟨by simp [a],λj v d=>?_⟩
  cases j with
  |zero=>
   simp at d;subst d;obtain ⟨t,e⟩:=h;exact ⟨t,by rw [e];rfl⟩
  |succ j=>simp at d;simpa using b j v d
end
def Zg:List D->Option (List Int)
 | []=>some []
 | .int b::r=>(Zg r).map (b:: ·)
 |_=>none
theorem J1: ∀ {ds:List D} {bs:List Int},Zg ds=some bs->ds=bs.map D.int
 | [],bs,h=>by cases h;rfl
 |d::r,bs,h=>by
  cases d with
  |int b=>
   simp only [Zg,E7] at h;obtain ⟨a,c,rfl⟩:=h;rw [J1 c];rfl
  |_=>cases h
def VS (bs:List Int):Zg (bs.map D.int)=some bs:=by
 induction bs with
 |nil=>rfl
 |cons b r a=>simp [Zg,a]
section
variable {X:Cx} {K:aC} {l l' l2:Lv}
theorem QX {A:Vi} {H:Hp}: ∀ {bs:List Int} {a:List V},au K A H a (bs.map D.int)->a=bs.map V.int
 | [],_,.nil=>rfl
 |b::bs,_,.cons h t=>by rw [h.cL,QX t];rfl
variable {x:Str} {p pos aeC:Pos} {e e2:Expr} {fa f2:T1}
end
def Us:lD "sorted" =some (.builtin "sorted"):=by decide+kernel
section
variable {X:Cx} {id:String} {r:List V->Hp->VK->Prop} {g:TX} {x:Str} {p I:Pos} {e:Expr} {B:List Expr} {z:TY}
def wO (d:bC X (.builtin id) r) (i:Uz X.K r g) (j:Gl X x) (l:X.mg x=none) (n:lD x=some (.builtin id))
   (o:DA X .s (e::B) z) (q:x≠ "__name__" :=by decide) (a:YU x:=by decide)
   (u:UO X e B:=by exact jm rfl) (c:UN X I B:=by exact jS rfl):DE X .t (.Call (.Name x p) (e::B) [] I) (app z g):=by
 with_unfolding_all exact (
  PE.imp (Q4 d j l n o q a u c) λ_ _ _ h=>LG i h)
variable {ex:Expr} {t:T0}
end
end M
namespace M
open PySem PySem.Spec L2
mutual
noncomputable def dZ:D->List Int
 | .int i=>[i]
 | .ak (_::a)=>dw a
 |_=>[]
noncomputable def dw:List D->List Int
 | []=>[]
 |d::r=>dZ d++dw r
end
mutual
def bare:D->D
 | .ak (x::a)=> .ak (x::rm a)
 |_=> .int 0
def rm:List D->List D
 | []=>[]
 |d::r=>bare d::rm r
end
theorem XV: ∀a,dw a=a.flatMap dZ
 | []=>rfl
 |d::r=>by simp [dw,XV r]
def jho (h: ∀t∈ts,num t<=k):nums ts<=ts.length*k:=by
 induction ts with
 |nil=>simp [nums]
 |cons d r a=>
  have e:=h d (by simp);have g:=a λt c=>h t (by simp [c])
  simp only [nums,bN,Nat.succ_mul];omega
theorem QE: ∀ {a:List D},(∀t∈a,D.cy t=true)->D.b7 a=true
 | [],_=>rfl
 |x::r,h=>by simp only [D.b7,dR];exact ⟨h x (by simp),QE λd c=>h d (by simp [c])⟩
theorem MC: ∀ {ts:List D},(∀t∈ts,D.dX t<=k)->D.cW ts<=k
 | [],_=>by simp [D.cW]
 |x::r,h=>by
  simp only [D.cW];have:=h x (by simp);have:=MC (ts:=r) λd a=>h d (by simp [a])
  omega
theorem Ue: ∀ {a:List D},(∀t∈a,df t t=true)->cz a a=true
 | [],_=>by simp [cz]
 |x::r,h=>by simp only [cz,dR];exact ⟨h x (by simp),Ue λd c=>h d (by simp [c])⟩
def ins (l:List Int) (x:Int):List Int:=if x∈l then l else l++[x]
def met (l a:List Int):List Int:=a.foldl ins l
def jeF (l:List Int) (x:Int) (a:List Int):met l (x::a)=met (ins l x) a:=rfl
def jhz:y∈ins l x↔y∈l\/y=x:=by
 unfold ins
 split
 . rename_i h;exact ⟨.inl,λz=>z.elim id λe=>by rw [e];exact h⟩
 . simp
theorem kt: ∀ {a l:List Int} {y:Int},y∈met l a↔y∈l\/y∈a
 | [],l,y=>by simp [met]
 |x::a,l,y=>by
  rw [jeF,kt,jhz];simp only [bA,or_assoc]
def fI (n:Nat):List Int->List D
 | []=>[]
 |_::r=> .int n::fI (n+1) r
def eI (l:List Int):List aR:=l.map pb
def jeZ (l:List Int) (x:Int):fP (eI l) (.inl x)=decide (x∈l):=by
 induction l with
 |nil=>rfl
 |cons a l c=>
  unfold fP eI at c ⊢;rw [fh,xo,c]
  by_cases h:a=x
  . subst h;simp
  . have:x≠a:=λe=>h e.symm
    simp [h,this]
def jhv (l:List Int):(eI l).length=l.length:=by simp [eI]
mutual
def tk (a:List Str):D->Bool
 | .int _=>true
 | .ak (.str z::c)=>decide (z∈a)&&(decide (c.length<=9)&&rq a c)
 |_=>false
def rq (a:List Str):List D->Bool
 | []=>true
 |d::r=>tk a d&&rq a r
end
section
variable {ns:List Str}
mutual
theorem ze {P:D->Prop} (c: ∀i,P (.int i)) (d: ∀z a,z∈ns->a.length<=9->(∀t∈a,tk ns t=true/\P t)->P (.ak (.str z::a))): ∀t,tk ns t=true->P t
 | .int i,_=>c i
 | .ak (x::a),h=>by
  cases x with
  |str z=>
   simp only [tk,dR,decide_eq_true_eq] at h;exact d z a h.1 h.2.1 (mu c d a h.2.2)
  |_=>simp [tk] at h
 | .ak [],h=>by simp [tk] at h
 | .aU,h=>by simp [tk] at h
 | .bl _,h=>by simp [tk] at h
 | .str _,h=>by simp [tk] at h
 | .ai _,h=>by simp [tk] at h
 | .eN _,h=>by simp [tk] at h
 | .aQ _ _,h=>by simp [tk] at h
 | .bP _ _,h=>by simp [tk] at h
 | .du _,h=>by simp [tk] at h
 | .fq _ _,h=>by simp [tk] at h
 | .ii _ _,h=>by simp [tk] at h
 | .obj _ _ _,h=>by simp [tk] at h
 | .mem _ _,h=>by simp [tk] at h
 | .dn _,h=>by simp [tk] at h
theorem mu {P:D->Prop} (j: ∀i,P (.int i)) (l: ∀z c,z∈ns->c.length<=9->(∀t∈c,tk ns t=true/\P t)->P (.ak (.str z::c))): ∀c,rq ns c=true-> ∀t∈c,tk ns t=true/\P t
 | [],_,t,g=>by cases g
 |d::r,h,t,g=>by
  simp only [rq,dR] at h;have a:=ze j l d h.1;have b:=mu j l r h.2;rcases bA.mp g with e|e
  . rw [e];exact ⟨h.1,a⟩
  . exact b t e
end
theorem MD: ∀ {a:List D},(∀t∈a,tk ns t=true)->rq ns a=true
 | [],_=>rfl
 |x::r,h=>by simp only [rq,dR];exact ⟨h x (by simp),MD λd c=>h d (by simp [c])⟩
theorem ME: ∀ {a:List D} {t:D},rq ns a=true->t∈a->tk ns t=true
 |x::r,t,h,ht=>by
  simp only [rq,dR] at h;rcases bA.mp ht with rfl|ht
  . exact h.1
  . exact ME h.2 ht
def ZH (c:z∈ns) (h:a.length<=9) (d: ∀t∈a,tk ns t=true):tk ns (.ak (.str z::a))=true:=by
 simp only [tk,dR,decide_eq_true_eq];exact ⟨c,h,MD d⟩
def qe (h:tk ns t=true):(∃i,t= .int i)\/ ∃z a,t= .ak (.str z::a)/\z∈ns/\a.length<=9/\ ∀u∈a,tk ns u=true:=by
 cases t with
 |int i=>exact .inl ⟨i,rfl⟩
 |ak c=>
  cases c with
  |nil=>simp [tk] at h
  |cons x a=>
   cases x with
   |str z=>
    simp only [tk,dR,decide_eq_true_eq] at h;exact .inr ⟨z,a,rfl,h.1,h.2.1,λu d=>ME h.2.2 d⟩
   |_=>simp [tk] at h
 |_=>simp [tk] at h
def wZ: ∀t,tk ns t=true->bT t=true:=ze (λi=>rfl) λz c _ d h=>by
 simp only [bT,br,dR,decide_eq_true_eq,bN,true_and];exact ⟨by omega,WL λt a=>(h t a).2⟩
def jjR: ∀t,tk ns t=true->t.j2=true:=ze (λi=>rfl) λz a _ d h=>by
 show (true&&D.dS a)=true;rw [Bool.true_and];exact gB.mpr λt c=>(h t c).2
def vD: ∀t,tk ns t=true-> ∀p∈cg t,tk ns p=true:=ze (λi=>by simp [cg,tk]) λz u l n h=>by
 simp only [cg];intro p o;rcases bA.mp o with e|e
 . rw [e];exact ZH l n λt g=>(h t g).1
 . have a: ∀c:List D,dg c=c.flatMap cg:=λc=>by
    induction c with
    |nil=>rfl
    |cons d r q=>simp [dg,q]
   rw [a] at e;obtain ⟨t,g,j⟩:=Bt.mp e;exact (h t g).2 p j
def ee:List D->List Int
 | []=>[]
 | .int i::r=>i::ee r
 |_::r=>ee r
theorem Kn: ∀a b,ee (a++b)=ee a++ee b
 | [],b=>rfl
 |d::r,b=>by
  have c:=Kn r b;cases d<;>simp [ee,c]
def pW:List D->List Hd
 | []=>[]
 | .ak (.str z::a)::r=>(z,(a.length:Int))::pW r
 |_::r=>pW r
def jhE (z:Str) (a r:List D):pW (.ak (.str z::a)::r)=(z,(a.length:Int))::pW r:=rfl
theorem MF: ∀ {a:List D},(∀t∈a,tk ns t=true)-> ∀x∈pW a,x.1∈ns/\0<=x.2/\x.2<=9
 | [],_,x,c=>by cases c
 |d::r,h,x,c=>by
  have g:=MF (a:=r) λt j=>h t (by simp [j])
  rcases qe (h d (by simp)) with ⟨i,rfl⟩| ⟨z,n,rfl,l,o,_⟩
  . exact g x c
  . rw [jhE] at c;rcases bA.mp c with e|e
    . rw [e];exact ⟨l,by simp,by simp;omega⟩
    . exact g x e
def fA (l:List Hd) (a:Hd):List Hd:=if a∈l then l else l++[a]
def mZ (l a:List Hd):List Hd:=a.foldl fA l
def jhC (h:l.Nodup):(fA l a).Nodup:=by
 unfold fA
 split
 . exact h
 . rename_i g;refine List.nodup_append.mpr ⟨h,by simp,λx c y d=>?_⟩;simp at d;rw [d];intro e;rw [e] at c;exact g c
theorem MG: ∀ {xs l:List Hd},l.Nodup->(mZ l xs).Nodup
 | [],l,h=>h
 |x::xs,l,h=>MG (xs:=xs) (jhC h)
def jeS (h:x∈fA l a):x∈l\/x=a:=by
 unfold fA at h
 split at h
 . exact .inl h
 . simpa using h
theorem uf: ∀ {a l:List Hd} {x:Hd},x∈mZ l a->x∈l\/x∈a
 | [],l,x,h=> .inl h
 |y::a,l,x,h=>by
  rcases uf (l:=fA l y) h with z|z
  . rcases jeS z with z|z
    . exact .inl z
    . exact .inr (by simp [z])
  . exact .inr (by simp [z])
theorem VG: ∀ {l m:List Hd},l.Nodup->(∀x∈l,x∈m)->l.length<=m.length
 | [],m,_,_=>by simp
 |a::l,m,h,d=>by
  have g:=q0.mp h;have i:=d a (by simp)
  have:=VG (m:=m.erase a) g.2 λx c=>by
   refine (List.mem_erase_of_ne λe=>?_).mpr (d x (by simp [c]));rw [e] at c;exact g.1 c
  rw [List.length_erase_of_mem i] at this;have j:=List.length_pos_of_mem i;simp;omega
def VV {l:List Hd} (h:l.Nodup) (a: ∀x∈l,x.1∈ns/\0<=x.2/\x.2<=9):l.length<=ns.length*10:=by
 have:=VG (m:=ns.flatMap λz=>(lC 10).map λk=>(z,((k:Nat):Int))) h λx c=>by
  obtain ⟨d,g,j⟩:=a x c;refine Bt.mpr ⟨x.1,d,hG.mpr ⟨x.2.toNat,pd.mpr (by omega),?_⟩⟩;rw [Int.toNat_of_nonneg g]
 have e:(ns.flatMap λz=>(lC 10).map λk=>(z,((k:Nat):Int))).length=ns.length*10:=by
  clear this a h
  induction ns with
  |nil=>rfl
  |cons z r i=>rw [List.flatMap_cons,dr,i];simp;omega
 omega
def jhF:dI a=dI b↔a=b:=by
 constructor
 . intro h;cases a;cases b;simp [dI] at h;simp [h]
 . intro h;rw [h]
def jhG (l:List Hd) (a:Hd):lU (l.map dI) (dI a)=decide (a∈l):=by
 unfold lU;rw [List.any_map]
 induction l with
 |nil=>rfl
 |cons b l c=>
  rw [xo,c];simp only [Function.comp_apply,jhF]
  by_cases h:b=a
  . subst h;simp
  . have:a≠b:=λe=>h e.symm
    simp [h,this]
def dz (l:List Hd):List D:=l.map λ_=> .bl true
def ji8 (l:List Hd) (a:Hd):zE (l.map dI) (dI a)=(fA l a).map dI/\zF (l.map dI) (dz l) (dI a) (.bl true)=dz (fA l a):=by
 unfold zE zF fA;rw [jhG]
 by_cases h:a∈l
 . simp only [h,decide_true,if_true,true_and];clear h
   induction l with
   |nil=>rfl
   |cons b l c=>
    simp only [dz,fh,ya] at c ⊢;rw [c];simp
 . simp [h,dz]
theorem Yv: ∀l:List Hd,Zh (l.map dI)=some l
 | []=>rfl
 |a::l=>by
  simp only [fh,Zh,Yv l];rfl
def u0 (c:l.Nodup) (d:l.length<64) (e: ∀a∈l,a.1.length<=aP):YO [.bP (l.map dI) h]= .ok (.ai ((ZK l).map qS)):=by
 show (match Zh (l.map dI) with|some i=>_|none=>_)=_;rw [Yv];exact jn ⟨c,d,mP.mpr λa g=>by simpa using e a g⟩
def jfH: ∀ {c:Type} (l:List c),k4 [.ai (l.map λ_=> .bl true)]= .ok (.bl true):=λl=>by
 have e:X8 (l.map λ_=>D.bl true)=some (l.map λ_=>true):=by
  induction l with
  |nil=>rfl
  |cons a l d=>simp [X8,d]
 show (match X8 (l.map λ_=>D.bl true) with|some bs=>_|none=>_)=_;rw [e];simp
end
end M
namespace M
open PySem PySem.Spec L2
open PyProof.Rows hiding St
def qC:lD "divmod" =some (.builtin "divmod"):=by decide+kernel
def zx:List D->al D
 | [.int i,.int j]=>aY (0<j/\j<1073741824) (.ok (.ak [.int (i/j),.int (i%j)]))
 |_=> .aj
def wg {K:aC}:Uz K (λa H Q=> ∃i j,a=[.int i,.int j]/\AA i j/\ ∀p,H p=none->Q (.ref p) (aH H p (.ak [.int (i/j),.int (i%j)]))) zx:=by
 intro A a H n d Q r e q;unfold zx at e
 split at e
 . obtain ⟨g,e2⟩:=jv e;cases e2;obtain ⟨v,o,rfl,h,l⟩:=r.ap;cases h.cL;cases l.cL;exact ⟨_,_,rfl,g,λp c=>q _ _ (ao.aH c) (.ak ju (.cons (.int _) (.cons (.int _) .nil))) (qK (ao.refl H) c)⟩
 . cases e
section
variable {X:Cx} {Q:List (Addr×Obj)} {N:L2.St} {H:Hp} {s:aM}
def yQ (I:aA X Q N H s) (k: ∀b o,b≠d->b≠g->s.heap.get? b=some o->i.get? b=some o) (B:cZ X Q H d) (E:cZ X Q H g):aA X Q N H {s with heap:=i,toks:=t'}:=by
 obtain ⟨J,j,_,L,O,U⟩:=B;obtain ⟨Y,l,_,b3,b4,b5⟩:=E;have p: ∀b u,H b=some u->b≠d:=λb u e z=>by rw [z,J] at e;cases e
 have w: ∀b u,H b=some u->b≠g:=λb u e z=>by rw [z,Y] at e;cases e
 have h: ∀b o,b∉[d,g]->s.heap.get? b=some o->i.get? b=some o:=λb o a e=>k b o (λz=>a (by simp [z])) (λz=>a (by simp [z])) e
 refine I.step (λb y=>?_) (λb o _ _ a e _=>h b o a e) (λb o _ _ a e _=>⟨o.slots,h b o a e⟩) (λ_ _ _ _ n=>n)
   (λb o a e=>⟨o,h b o a e⟩) (λ_ _ e=>e) (λ_ _ _ e=>e) (λb ps e=>⟨#[],by rw [e];simp⟩) (λm hm=>?_) (λb u e=>?_) I.bare
 . simp at y;rcases y with rfl|rfl
   . exact ⟨L,j,O,U⟩
   . exact ⟨b3,l,b4,b5⟩
 . obtain ⟨o,es,ep,ho,r⟩:=hm;exact ⟨o,es,ep,k _ o (gm j) (gm l) ho,r⟩
 . refine (I.aV b u e).a5 (λc v a q=>k c v ?_ ?_ q) (λ_ q=>q) λ_ _ q=>q
   . rcases a with z|z
     . rw [z];exact p b u e
     . exact p c _ z
   . rcases a with z|z
     . rw [z];exact w b u e
     . exact w c _ z
end
def ItE (K:aC) (a:Addr) (c:List V):It:=⟨λi H=>cY K H a c/\i<c.length,λi H v d=> ∃p x,H p=none/\c[i]?=some x/\v= .ref p/\d=aH H p (.ak [.int (i:Int),x]),λi H=>cY K H a c/\c.length<=i⟩
def jbd {K:aC} (a j e:Addr) (xs:List V) (J:e≠j):Turn P w K (.Tuple elts n pos) (ItE K a xs) [e,j] e (λi h=>(∃d,IsEnum h e j (i:Int) d)/\h.IsListIter j a i) where
 mem:=by simp
 obj:=λi h st b q=>by
  obtain ⟨⟨d,l⟩,o,ho,hc,hd⟩:=st;simp at q;rcases q with rfl|rfl
  . exact ⟨_,l,λv z=>by cases z⟩
  . exact ⟨o,ho,λv z=>by rw [hd] at z;cases z⟩
 keep:=λi h h' st k=>by
  obtain ⟨⟨d,l⟩,g⟩:=st;exact ⟨⟨d,k e (by simp) _ l⟩,g.at λo x=>k j (by simp) o x⟩
 item:=by
  intro X hP hw hK hc i c s σ H E I L st hg;subst hP hw hK;obtain ⟨hq,hi⟩:=hg;obtain ⟨nF,rv,p,hz⟩:=I.list hq;have hx:=cU hi;obtain ⟨u,hu,ru⟩:=rv.get hx;obtain ⟨⟨d,l⟩,g⟩:=st;have fe:=L e (by simp);have fi:=L j (by simp);refine wpAny_pyNext_enum_item l g p.isList (by simpa using hu) J λh' ho N hT zJ hk=>?_
  refine ⟨_,rfl,wpAny_letOwnedTupleGo_enum ho λoa tm O=>?_⟩;have Q:=bO l;have U:j<s.heap.objs.size:=by obtain ⟨_,x,_⟩:=g;exact bO x
  have ly:=I.aV.fresh (bg _)
  have I1:aA X c σ (aH H s.heap.objs.size (.ak [.int (i:Int),xs[i]])) {s with heap:=s.heap.push {cls:= .type "tuple",data:= .seq #[.int i s.toks,u]}}:=
    I.laid (λb o e=>bI _ e) (bg _) ⟨dG (show 2<=20 by decide) (by decide),[.int i s.toks,u],.cons ⟨_,rfl⟩ (.cons ru .nil),⟨_,c9 _ rfl,rfl,_,rfl⟩⟩
  have Y:cZ X c (aH H s.heap.objs.size (.ak [.int (i:Int),xs[i]])) e:=⟨by rw [jF (dJ Q)];exact fe.1,fe.2⟩
  have BE:cZ X c (aH H s.heap.objs.size (.ak [.int (i:Int),xs[i]])) j:=⟨by rw [jF (dJ U)];exact fi.1,fi.2⟩
  have I2:=yQ (t':=s.toks+1) I1 (λb o r B eo=>by
    refine (O.2 b r).trans ?_
    by_cases q:b=s.heap.objs.size
    . subst q;rw [c9 _ rfl] at eo;rw [<-eo];exact hT
    . have tp:s.heap.get? b=some o:=by
       rcases Df eo with ⟨z,_⟩|z
       . exact absurd z q
       . exact z
      exact hk b o r B tp) Y BE
  refine ⟨.ref s.heap.objs.size,_,I2,rfl,⟨_,_,ly,hx,rfl,rfl⟩,⟨⟨_,by simpa using tm⟩,N.at λo y=>(O.2 j J.symm).trans y⟩,λb q=>?_⟩;simp at q;rcases q with rfl|rfl
  . exact Y.1
  . exact BE.1
 done:=by
  intro X hP hw hK hc i c s σ H E I L st hg;subst hP hw hK;obtain ⟨hq,hi⟩:=hg;obtain ⟨nF,rv,p,hz⟩:=I.list hq;obtain ⟨⟨d,l⟩,g⟩:=st;have hl:=rv.length;refine wpAny_pyNext_enum_end (I.ok.hd hc) l g p.isList (by simp;omega) λh' eb=>⟨rfl,yQ I (λb o r B eo=>eb b o B eo) (L e (by simp)) (L j (by simp))⟩
 self:=λ_ _ _ _ _ st h=>let ⟨⟨_,l⟩,_⟩:=st;Dg l h
section
variable {X:Cx} {Y:List Expr} {n:Nat} {U p O:Pos} {e:Expr} {f:T1}
def jJ:Nat->List D->List D
 |_,[]=>[]
 |k,d::r=> .ak [.int (k:Int),d]::jJ (k+1) r
theorem Xd: ∀(k:Nat) (ds:List D),(jJ k ds).length=ds.length
 |_,[]=>rfl
 |k,d::r=>by simp [jJ,Xd (k+1) r]
theorem Xe: ∀(k i:Nat) (ds:List D),(jJ k ds)[i]?=(ds[i]?).map λd=> .ak [.int ((k+i:Nat):Int),d]
 |k,i,[]=>by simp [jJ]
 |k,0,d::r=>by simp [jJ]
 |k,i+1,d::r=>by
  simp only [jJ,o6];rw [Xe (k+1) i r];congr 1;funext d;congr 3;omega
def Uf (f:T1):Sl->al (List D):=λa=>f a>>=λd=>match d with
 | .ai c=> .ok (jJ 0 c)
 | .eN c=> .ok (jJ 0 c)
 |_=> .aj
def MH (hg:Gl X "enumerate") (hm:X.mg "enumerate" =none) (h:DE X .s e f) (hs:bb [e] X.env=[(false,eval e X.env)]:=by rfl):DI X (.Tuple Y n U) (.Call (.Name "enumerate" p) [e] [] O) (Uf f):=by
 have hE:PE X e (tE X.K .s f):=by with_unfolding_all exact h
 with_unfolding_all exact (show PI X (.Tuple Y n U) (.Call (.Name "enumerate" p) [e] [] O) (tI X.K (Uf f)) from by
  rintro g s L H R I ⟨G,H0,c,ds,k,ef,q⟩;obtain ⟨d,e1,e2⟩:=jd ef
  have hA:PA X [e] (tA X.K .s λc=>f c>>=λd=> .ok [d]):=by
   have:=qc hE wo hs;rintro ps g s L H Q I ⟨G,H0,c,ds,k,ef,q⟩;obtain ⟨d,c1,c2⟩:=jd ef;cases c2;exact this ps g s L H Q I ⟨G,H0,c,d,k,c1,λv l j r1 _=>q [v] l j (.cons r1 .nil)⟩
  refine Call_ (Wr I hg hm boot_enumerate (v3 (bi (hA O g s L H (λvs l=> ∃v,vs=[v]/\ao H l/\aL X.K (Sf G c L) l v d) I ⟨G,H0,c,[d],k,by show (f c>>=_)=_;rw [e1];rfl,λvs l j r1=>by obtain ⟨v,rfl,r⟩:=r1.one;exact ⟨v,rfl,j,r⟩⟩) λus j ⟨vs,l,I1,r1,v,ev,sm,rep⟩=>?_) hs rfl));subst ev;obtain ⟨u,rfl,ru⟩:=Wx r1;have k1:=k.am sm
  have J: ∀(a:Addr) (B:List V) (N:List D) (P:Hp->Prop),u= .ref a->cY X.K l a B->au X.K (Sf G c L) l B N->ds=jJ 0 N->P l->(∀w,P w->cY X.K w a B)->(∀E gy w,a9 c L l E gy w->P w)->wpAny (model X.prog X.w) X.A (call (.type "enumerate") [u]) (λv j=>wpAny (model X.prog X.w) X.A (pyIter v) (Ex X g L (.Tuple Y n U) R) X.xe j) X.xe j:=by
   intro a B N P eu hq rs eds p0 pq pO;subst eu;obtain ⟨nF,rv,pl,hz⟩:=I1.list hq;refine call_enumerate_list pl.isList λh' he hit zJ hk=>Dg he ?_
   have I2:=I1.kept (t':=j.toks) hk;refine ⟨j.heap.objs.size+1,[j.heap.objs.size+1,j.heap.objs.size],_,_,l,rfl,I2,jbd a j.heap.objs.size (j.heap.objs.size+1) B (Nat.succ_ne_self _),⟨⟨_,he⟩,hit⟩,λb hb=>?_,?_⟩
   . simp at hb;rcases hb with rfl|rfl
     . exact I1.fb (o4 _) (I1.aV.fresh (o4 _))
     . exact I1.fb (bg _) (I1.aV.fresh (bg _))
   . refine q _ l P sm (λi w pp=>?_) p0 pO;have hl:=rs.length;subst eds;rw [Xd];refine ⟨λhi=>⟨pq w pp,by omega⟩,λd hd x H2 y=>?_,λhi=>⟨pq w pp,by omega⟩⟩;obtain ⟨p,x',hp,mU,rfl,rfl⟩:=y;obtain ⟨d',F8,rd⟩:=rs.get' mU;rw [Xe,F8] at hd;cases hd;exact .inr ⟨p,_,_,hp,rfl,rfl,rfl,.cons (by rw [yD];exact .int _) (.cons rd .nil)⟩
  cases d with
  |ai N=>
   cases e2;obtain ⟨a,B,rfl,ha,na,rs⟩:=rep.cK;exact J a B N (λH=>H a=some (.ai B)) ru (.of ha) rs.low rfl ha (λw z=> .of z) λE gy w fr=>fr.keep a _ ha na.1
  |eN N=>
   cases e2;obtain ⟨a,B,rfl,ha,rs⟩:=rep.mL;refine J a B N (λH=>nV X.K H a B) ru ha.nW rs rfl ha (λw z=>z.nW) λE gy w fr=>?_
   rcases ha with ⟨o,eo⟩|z
   . exact .inl ⟨o,fr.keep a _ eo λow=>(k1.lQ ow eo).elim⟩
   . exact .inr z
  |_=>cases e2)
end
def jdD:lD "sum" =some (.builtin "sum"):=by decide+kernel
noncomputable def eJ:List Int->Int
 | []=>0
 |i::r=>i+eJ r
def jd0 (a b:List Int):eJ (a++b)=eJ a+eJ b:=by
 induction a with
 |nil=>simp [eJ]
 |cons i r c=>simp [eJ,c];omega
theorem Xa (a:List Int): ∀k,k<=a.length->preSum (λj=>a.getD j 0) k=eJ (a.take k)
 |0,_=>rfl
 |k+1,h=>by
  have c:k<a.length:=by omega
  show preSum (λj=>a.getD j 0) k+a.getD k 0=_;rw [Xa a k (by omega),List.take_succ_eq_append_getElem c,jd0];simp [eJ,c]
section
variable {X:Cx} {K:aC}
def jdA (N:X.bM=true):bC X (.builtin "sum") (λB H Q=> ∃(p:Addr) (a:List Int),B=[.ref p]/\cY X.K H p (a.map V.int)/\Q (.int (eJ a)) H):=by
 rintro E s σ H B us Q I r ⟨p,a,O,U,q⟩;subst O;obtain ⟨u,rfl,Y⟩:=Wx r;cases Y;obtain ⟨c,rv,h,hz⟩:=I.list U;obtain ⟨v1,v2⟩:=YJ rv
 have d:p<s.heap.objs.size:=by
   obtain ⟨o,n,e,_⟩:=h;exact bO e
 have l:=dJ d;refine call_sum_walkAnyS (A6 h.isList ?_);have W:=Walks.list (prog:=X.prog) (w:=X.w) (A:=X.A.in1) (I.ok.hd N) s.heap.objs.size p l c.toArray;have y:(s.heap.push {cls:= .type "list_iterator",data:= .fields #[.ref p,.int 0 0]}).objs.size=s.heap.objs.size+1:=o3 ..;refine ⟨s.heap.objs.size,_,_,_,c.toArray.size,_,_,(λj=>a.getD j 0),rfl,W.toS,⟨⟨_,c9 _ rfl,rfl,rfl⟩,h.isList.push _⟩,λb g=>?_,λi v hP=>v2 i v (by simpa using hP),λs' t' J=>?_⟩
 . simp at g;rw [y];rcases g with rfl|rfl
   . exact AJ _
   . exact Nat.lt_succ_of_lt d
 . rw [Moved.eq_with J]
   have e:preSum (λj=>a.getD j 0) c.toArray.size=eJ a:=by
     have z:c.toArray.size=a.length:=by simpa using v1
     rw [z,Xa a _ (bg _),List.take_length]
   refine ⟨.int (eJ a),H,I.kept λb o L=>?_,⟨t',by rw [e]⟩,q⟩;refine J.heap b o (λg=>?_) (bI _ L);have bQ:=bO L;simp at g;exact absurd g (dJ bQ)
def Dh:List D->al D
 | [.ai a]=>match Zg a with
  |some c=> .ok (.int (eJ c))
  |none=> .aj
 |_=> .aj
def jim:A4 K (λg H Q=> ∃(p:Addr) (a:List Int),g=[.ref p]/\cY K H p (a.map V.int)/\Q (.int (eJ a)) H) Dh:=by
 intro g H l d Q r e q;unfold Dh at e
 split at e
 . split at e
   . rename_i n a c;cases e;obtain ⟨v,rfl,i⟩:=r.one;obtain ⟨p,o,rfl,j,_,h⟩:=i.cK;rw [J1 c] at h;have:=QX h;subst this;exact ⟨p,a,rfl,.of j,q _ (ms _)⟩
   . cases e
 . cases e
end
open PySem.SeqAt (EqAt RcAt RcNeAt)
end M
namespace M
open PySem PySem.Spec L2
open Classical in
noncomputable instance aeD:DecidableEq D:=λa b=>propDecidable (a=b)
def jez (a:List D):eJ (a.map λt=>((num t:Nat):Int))=((nums a:Nat):Int):=by
 induction a with
 |nil=>rfl
 |cons d r c=>simp only [fh,eJ,nums,c];push_cast;rfl
end M
namespace M
open PySem PySem.Spec L2
open PyProof.Rows hiding St
section
variable {U:Model} {A:bH} {E:Vh} {s:aM} {F:Array Value->Prop} {B:Heap} {l:List Env} {e:Addr} {cls Y:Value} {Q:Unit->aM->Prop}
def MI (F:Array Value->Prop) (h B:Heap) (e:Addr) (cls Y:Value):Prop:=
 ∃a c T d g,h.get? e=some a/\(a.cls=cls/\F c)/\a.data= .fields c/\c[1]?=some (.ref T)/\B.get? T=none/\T≠e/\h.get? T=some d/\d.data= .fields g/\g[3]?=some Y
def il (F:Array Value->Prop) (B:Heap) (l:List Env) (e:Addr) (cls Y:Value) (h:Heap):Prop:=B.StaysIn h/\B.get? e=none/\h.FunFrames B l/\MI F h B e cls Y
def il.there {h:Heap} (x:il F B l e cls Y h): ∃d g,h.get? e=some d/\d.cls=cls/\d.data= .fields g/\F g:=
 let ⟨_,_,_,d,g,_,_,_,a,b,c,_⟩:=x;⟨d,g,a,b.1,c,b.2⟩
def il.pop {h:Heap} {env:Env} (x:il F B (env::l) e cls Y h):il F B l e cls Y h:=
 let ⟨a,b,⟨_,_,c⟩,d⟩:=x;⟨a,b,c,d⟩
def vS {h:Heap} {T:Addr} {a:Obj} {c:Array Value} (g:h.get? T=some a) (i:a.data= .fields c) {b:Addr} {o:Obj} (d:h.get? b=some o) (n: ∀j,o.data≠ .fields j):b≠T:=λq=>by
 rw [q,g] at d;cases d;exact n c i
def MJ (w:Option Addr) (x:il F B l e cls Y s.heap) (h: ∀p,il F B l e cls (w.elim .none λf=>fK f) p->(∀b o,s.heap.get? b=some o->(∀d,o.data≠ .fields d)->p.get? b=some o)->Q () {s with heap:=p}):
   wpAny U A (setFlight (.ref e) w) Q E s:=by
 obtain ⟨st,r,J,L,d,T,oT,ts,y,N,z,H,g,i,u,c,O⟩:=x;have j:=(Di.mp O).1;unfold setFlight;refine ay (gx y z H ?_);rw [if_pos (show (cX T !=iq)=true by simp)];have v: ∀ {f:Obj->Obj} b,b≠T->(s.heap.update T f).get? b=s.heap.get? b:=λb a=>nU _ _ (gm a)
 have I: ∀ {f:Obj->Obj} b o,s.heap.get? b=some o->(∀d,o.data≠ .fields d)->(s.heap.update T f).get? b=some o:=λb o a n=>(v b (vS u c a n)).trans a
 refine rj u c j (h _ ⟨λb o a=>(v b λq=>?_).trans (st b o a),r,J.of_keeps λb o a n=>⟨o,I b o a n,rfl⟩,?_⟩ λb o a n=>I b o a n)
 . rw [q,g] at a;cases a
 . exact ⟨L,d,T,_,_,(v e (gm i)).trans y,N,z,H,g,i,BA _ u (BB (rk c _)),rk c _,by simp [j]⟩
def J6 (x:il F B l e cls Y s.heap) (h: ∀a,il F B l e cls .none a->(∀b o,s.heap.get? b=some o->(∀c,o.data≠ .fields c)->a.get? b=some o)->Q () {s with heap:=a}):
 wpAny U A (setFlight (.ref e) none) Q E s:=MJ none x h
def je4 {env:Env} {L:Addr} (i:env.frame=some L) (x:il F B l e cls Y s.heap) {d:Vh} (h: ∀a,il F B l e cls (fK L) a->(∀b o,s.heap.get? b=some o->(∀g,o.data≠ .fields g)->a.get? b=some o)->d (.ref e) {s with heap:=a}):
  cameBackBy U A env d (.ref e) s:=by
 have y:=x;obtain ⟨st,j,z,H,g,T,I,J,n,N,p,c,q,r,O,u,h3⟩:=x;unfold cameBackBy;refine ay (gx n p c ?_);rw [if_neg (by simp),i];exact MJ (some L) y λc v w=>h c v w
def Ua (hF: ∀i v,F i->F (i.setIfInBounds 1 v)) {env:Env} {L:Addr} {J:Obj} {i:Array Value} {head:Value} {g:Bool} (N:A.frames=some (env::l)) (y:s.heap.FunFrames B (env::l)) (hf:env.frame=some L)
   (z:s.heap.get? e=some J) (st:B.StaysIn s.heap) (p:B.get? e=none) (r:J.data= .fields i) (hz:1<i.size) (h0:F i)
   (h: ∀O,il F B (env::l) e J.cls (fK L) O->s.heap.UpToSlots O->Q () {s with heap:=O}):
   wpAny U A (do let a<-frameOf env;let H<-entryPlaceOf L g;let b<-EntryCells.newEntry head a .none (fK L) .none H;setField (.ref e) 1 b) Q E s:=by
 have nm:e∉(env::l).filterMap (·.frame):=λhm=>by
   obtain ⟨_,o,ho,n⟩:=y.mem hm;rw [z] at ho;cases ho;exact n i r
 refine ay (wpAny_frameOf_fun N y hf λc I=>?_);refine ay (wpAny_entryPlaceOf λH u=>?_);unfold EntryCells.newEntry newFields;refine ay (mq ?_ (u.sizeOk5 _ _ _ _ _));have ht: ∃x,x=([head,.ref L,.none,fK L,.none]++(if H.isEmpty then dq 6 iq else H)).toArray/\x[3]?=some (fK L):=⟨_,rfl,by first| (simp;done)| (rcases u with rfl| ⟨_,_,_,_,_,_,_,rfl⟩<;>simp)⟩
 obtain ⟨ts,et,h3⟩:=ht;rw [<-et];have j:=(I.2.1 e nm).trans z;have kb:B.StaysIn c:=λb o d=>(I.2.1 b λhm=>by rw [(y.mem hm).1] at d;cases d).trans (st b o d)
 refine rj (bI _ j) r hz (h _ ?_ λb o d n=>?_)
 . have ne:c.objs.size≠e:=CB (bO j);refine ⟨λb o d=>?_,p,y.of_keeps λb o d n=>?_,?_⟩
   . rw [nU _ _ λq=>by rw [<-q,p] at d;cases d];exact bI _ (kb b o d)
   . obtain ⟨sl,hs⟩:=I.2.2 b o d;refine ⟨{o with slots:=sl},?_,rfl⟩;rw [nU _ _ (gm (vS z r d n))];exact bI _ hs
   . have w:=rk r (·.setIfInBounds 1 (cX c.objs.size));exact ⟨_,_,c.objs.size,_,_,BA _ (bI _ j) (BB w),⟨F0 _ _,hF _ _ h0⟩,w,by simp [hz],kb.fresh,ne,(nU _ _ (gm ne)).trans (c9 _ rfl),rfl,h3⟩
 . obtain ⟨sl,hs⟩:=I.2.2 b o d;refine ⟨sl,?_⟩;rw [nU _ _ (gm (vS z r d n))];exact bI _ hs
def je3 (O: ∀d v,F d->F (d.setIfInBounds 1 v)) {env:Env} {L:Addr} (i:A.frames=some (env::l)) (y:env.frame=some L) (x:il F B (env::l) e cls .none s.heap)
  (h: ∀g,il F B (env::l) e cls (fK L) g->s.heap.UpToSlots g->Q () {s with heap:=g}):wpAny U A (rz (.ref e) env) Q E s:=by
 obtain ⟨st,j,ff,oe,d,T,oT,ts,z,⟨hc,h0⟩,H,I,p,r,u,c,J⟩:=x;subst hc;unfold rz;simp only [y];refine ay (gx z H I ?_);rw [if_pos (show (cX T !=iq)=true by simp)];refine ay (gx u c J ?_);rw [if_neg (show¬((iq==fK L)=true) by simp [fK])];refine ay (rj u c (Di.mp J).1 ?_);have w: ∀ {f:Obj->Obj} b,b≠T->(s.heap.update T f).get? b=s.heap.get? b:=λb a=>nU _ _ (gm a)
 have N: ∀ {f:Obj->Obj} b o,s.heap.get? b=some o->(∀d,o.data≠ .fields d)->(s.heap.update T f).get? b=some o:=λb o a n=>(w b (vS u c a n)).trans a
 refine Ua O i (ff.of_keeps λb o a n=>⟨o,N b o a n,rfl⟩) y ((w e (gm r)).trans z) (λb o a=>(w b λq=>?_).trans (st b o a)) j H (Di.mp I).1 h0 λg x1 x2=>h g x1 λb o a n=>x2 b o (N b o a n) n
 rw [q,p] at a;cases a
def VZ (q: ∀a v,F a->F (a.setIfInBounds 1 v)) {env:Env} {L:Addr} {c:Obj} {a:Array Value} (d:A.frames=some (env::l)) (r:s.heap.FunFrames B (env::l)) (j:env.frame=some L)
  (n:s.heap.get? e=some c) (st:B.StaysIn s.heap) (g:B.get? e=none) (o:c.data= .fields a) (p:a[1]?=some .none) (u:F a)
  (h: ∀i,il F B (env::l) e c.cls (fK L) i->s.heap.UpToSlots i->Q () {s with heap:=i}):wpAny U A (rz (.ref e) env) Q E s:=by
 unfold rz;simp only [j];refine ay (gx n o p ?_);rw [if_neg (by decide)];exact Ua q d r j n st g o (Di.mp p).1 u h
def jcU (p: ∀a v,F a->F (a.setIfInBounds 1 v)) {env:Env} {L:Addr} {c:Obj} {a:Array Value} (d:A.frames=some (env::l)) (q:s.heap.FunFrames B (env::l)) (r:env.frame=some L)
  (u:s.heap.get? e=some c) (st:B.StaysIn s.heap) (g:B.get? e=none) (w:c.data= .fields a) (j:a[1]?=some .none) (y:F a)
  (h: ∀i,il F B l e c.cls .none i->s.heap.UpToSlots i->Q () {s with heap:=i}):wpAny U A (leaving env (.ref e)) Q E s:=by
 unfold leaving;refine ay (VZ p d q r u st g w j y λj z H=>?_);exact J6 z λI J N=>h I J.pop (H.trans λb o e n=>⟨o.slots,N b o e n⟩)
def MkF (l:List Env) (Y:Value):Prop:=Y= .none\/ ∃a r L,l=a::r/\a.frame=some L/\Y=fK L
def lb (F:Array Value->Prop) (B:Heap) (l:List Env) (e:Addr) (cls:Value) (h:Heap):Prop:=B.StaysIn h/\B.get? e=none/\h.FunFrames B l/\ ∃Y,MkF l Y/\MI F h B e cls Y
def lb.there {h:Heap} (x:lb F B l e cls h): ∃g i,h.get? e=some g/\g.cls=cls/\g.data= .fields i/\F i:=
 let ⟨a,b,c,_,_,d⟩:=x;il.there ⟨a,b,c,d⟩
def il.m {h:Heap} (x:il F B l e cls .none h):lb F B l e cls h:=let ⟨a,b,c,d⟩:=x;⟨a,b,c,_,.inl rfl,d⟩
def Kw (q: ∀g v,F g->F (g.setIfInBounds 1 v)) {env:Env} {L:Addr} (i:A.frames=some (env::l)) (j:env.frame=some L) (x:lb F B (env::l) e cls s.heap)
   (h: ∀n,il F B (env::l) e cls (fK L) n->s.heap.UpToSlots n->Q () {s with heap:=n}):wpAny U A (rz (.ref e) env) Q E s:=by
 obtain ⟨a,b,c,Y,m,d⟩:=x;rcases m with rfl| ⟨p,r,O,e1,e2,rfl⟩
 . exact je3 q i j ⟨a,b,c,d⟩ h
 . cases e1;rw [j] at e2;cases e2;have u:=h s.heap ⟨a,b,c,d⟩ (.refl _);obtain ⟨oe,g,T,oT,ts,w,hc,y,z,H,I,J,o,N⟩:=d;unfold rz;simp only [j];refine ay (gx w y z ?_);rw [if_pos (show (cX T !=iq)=true by simp)];refine ay (gx J o N ?_);rw [if_pos (show (fK L==fK L)=true by simp)];exact aZ u
def jcV (g: ∀d v,F d->F (d.setIfInBounds 1 v)) {env:Env} {L:Addr} (a:A.frames=some (env::l)) (i:env.frame=some L) (x:lb F B (env::l) e cls s.heap)
  (h: ∀c,lb F B l e cls c->s.heap.UpToSlots c->Q () {s with heap:=c}):wpAny U A (leaving env (.ref e)) Q E s:=by
 unfold leaving;refine ay (Kw g a i x λw j p=>?_);exact J6 j λq r u=>h q r.pop.m (p.trans λb o e n=>⟨o.slots,u b o e n⟩)
end
section
variable {prog:bB} {w:World} {A:bH} {E:Vh} {s:aM} {env:Env}
def Kz:entryFor table "proto.unchain" =some g9.«proto.unchain» :=entryFor_of_fast (by kernel_rfl)
def UT {g:Type} {Q:g->aM->Prop} (i:A.handled=some (.ref a)) (ne:a≠e) (j:s.heap.get? a=some l) (c:l.data= .fields n) (o:n[2]?=some .none) (p:s.heap.get? e=some q) (d:q.data= .fields r) (u:2<r.size)
  (h:E (.ref e) {s with heap:=s.heap.update e (Bz (·.setIfInBounds 2 (.ref a)))}):wpAny (model prog w) A (raiseNew (.ref e):Sem g) Q E s:=by
 unfold raiseNew;refine ay (wpAny_handled ?_);rw [i];dsimp only;rw [if_pos (by simp [ne])];refine ay (iy (wpAny_runValue (codeAny_builtin Kz ?_)));unfold g9.«proto.unchain»;dsimp only;refine ay (gx j c o ?_);rw [if_pos (by decide)];refine ay (aZ (aZ ?_));exact ay (rj (a:=e) p d u (wpAny_throw h))
variable {nm q:Str} {C N:Addr} {bs bm y:List Value} {hdct:Bool} {sn:List Str} {sub:List Value} {ab:Bool} {col:Option Bool} {dd:Option Addr} {k0 k1 k2 k3 k5:Option Value} {B newId z:String}
def MK (a e:Addr) (h:Heap) (E:Heap->Prop):Prop:= ∃c d,a≠e/\h.get? a=some c/\c.data= .fields d/\d[2]?=some .none/\E (h.update e (Bz (·.setIfInBounds 2 (.ref a))))
def Vn {x:Sem Value} {Q:Flow->aM->Prop} (i:bm.contains (.type "BaseException")=true) (p:A.handled=some (.ref a))
  (h:wpAny (model prog w) A x (λv c=> ∃e t,v= .ref e/\c.heap.get? C=some (excClassObj nm q C N bs bm hdct sn sub ab col dd k0 k1 k2 k3 k5 newId)/\
   c.heap.get? e=some {cls:= .ref C,data:= .fields #[.ref t,.none,.none,.none,.bool false,.none]}/\MK a e c.heap λr=>E (.ref e) {c with heap:=r}) E s):
  wpAny (model prog w) A (raiseStmt env (some x) none) Q E s:=by
 have l:(cX C::bm).contains (.type "BaseException")=true:=by rw [F9,i,Bool.or_true]
 unfold raiseStmt;refine ay (ie h (λv c j=>?_) λ_ _ x=>x);obtain ⟨e,t,rfl,n,o,O,U,u,H,I,J,L⟩:=j;obtain ⟨Y,g,d,tk,os⟩:=c
 repeat (first | with_reducible refine wpAny_loadPart_at o ?_ | with_reducible refine wpAny_loadPart_at n ?_ | (with_reducible refine wpAny_isSubtype_exc n ?_; rw [l]) | wp_step)
 exact UT p u H I J o rfl (by show 2<6;decide) L
def jee (F:ExcBaseFacts B newId z y) {mN:Vj} {x:Str} {np i J:Pos} {args:List Expr} {Q:Flow->aM->Prop}
  (p:bm.contains (.type "BaseException")=true) (hh:A.handled=some (.ref a)) (n:(dL i (bb args env)).any (·.1)=false) (L:mN "__init__" =none)
  (h:wpAny (model prog w) A (eval (.Name x np) env) (λf o=>f= .ref C/\wpAny (model prog w) A (evalArgs (.ref C) true (dL i (bb args env)) [])
   (λr c=>r.kw=[]/\r.pos.length<=aP/\c.heap.get? C=some (excClassObj nm q C N bs bm hdct sn sub ab col dd k0 k1 k2 k3 k5 newId)/\c.heap.Ns N mN/\OwnTail c.heap y bm/\
    ∀u e,Heap.MadeExcOf c.heap u e (.ref C) r.pos->MK a e u λu=>E (.ref e) {c with heap:=u}) E o) E s):
  wpAny (model prog w) A (exec (.Raise (some (.Call (.Name x np) args [] i)) none J) env) Q E s:=by
 rw [arm_exec_Raise];refine ay (xU (Vn (C:=C) (nm:=nm) (q:=q) (N:=N) (bs:=bs) (bm:=bm) (hdct:=hdct) (sn:=sn) (sub:=sub) (ab:=ab) (col:=col) (dd:=dd) (k0:=k0) (k1:=k1) (k2:=k2) (k3:=k3) (k5:=k5) (newId:=newId) p hh ?_));refine ay (ie (wpAny_Call_ofName (ie h (λf o j=>?_) λ_ _ x=>x)) (λv aeE H=>ay (xU (aZ H))) λ_ _ x=>x);obtain ⟨rfl,j⟩:=j;unfold callWith;refine ay (iy (ie j (λr c l=>ay (xU ?_)) λ_ _ x=>x));obtain ⟨tq,O⟩:=r;obtain ⟨U,I,Y,hn,T,l⟩:=l;obtain rfl:O=[]:=U;obtain ⟨hp,g,d,tk,os⟩:=c;simp only [n];refine ay (wpAny_keeperOf_exc Y ?_);refine ay (wpAny_call_exc_subT (hrest:=I) F T Y hn L λu e hm=>ay (iy (wpAny_point (aZ ?_))));obtain ⟨t,ht,_,_⟩:=hm.there;exact ⟨e,t,rfl,hm.keeps _ _ Y,ht,l u e hm⟩
end
def yM (x:a6 P w H h a o): ∃ob,h.get? a=some ob:=by
 cases o with
 |ai d=>obtain ⟨_,_,_,_,e⟩:=x;exact ⟨_,e⟩
 |ak d=>obtain ⟨_,_,_,ob,e,_⟩:=x;exact ⟨_,e⟩
 |dK c=>obtain ⟨_,_,_,_,o,_,_,e,_⟩:=x;exact ⟨_,e⟩
 |dT c=>obtain ⟨_,_,_,_,o,_,_,e,_⟩:=x;exact ⟨_,e⟩
 |set S n=>obtain ⟨o,_,_,_,e,_⟩:=x;exact ⟨_,e⟩
 |ins C dx fs=>obtain ⟨_,_,_,e,_⟩:=x;exact ⟨_,e⟩
 |aw y=>exact x
 |xd fs=>obtain ⟨_,⟨_,_,_,e,_⟩,_⟩:=x;exact ⟨_,e⟩
 |Cv lo g=>obtain ⟨_,_,_,e⟩:=x;exact ⟨_,e⟩
 |bE ob u=>obtain ⟨e,_⟩:=x;exact ⟨_,e⟩
 |pc i=>exact ⟨_,(show h.get? a=some _ from x)⟩
 |met f y=>exact ⟨_,(show h.get? a=some _ from x)⟩
 |ext j=>obtain ⟨_,z,_⟩:=x;exact z
 |memo B l=>exact x.elim
 |dn p=>exact x.elim
def dC:Addr:=68
def op (C:Addr) (a:Array Value):Prop:=C≠dC->a[2]?=some .none
def op.set {C:Addr} (a:Array Value) (v:Value) (h:op C a):op C (a.setIfInBounds 1 v):=λq=>by rw [Array.getElem?_setIfInBounds_ne (by decide)];exact h q
def Ga (h d:Heap) (e C:Addr):Prop:=h.get? e=none/\(∀b o,h.get? b=some o->d.get? b=some o)/\ ∃a c,d.get? e=some a/\a.cls= .ref C/\a.data= .fields c/\c[1]?=some .none/\op C c
def jkX {h c:Heap} {e C:Addr} {d:List Value} (a:Heap.MadeExcOf h c e (.ref C) d):Ga h c e C:=
 let ⟨_,g,_,_⟩:=a.there;⟨a.new,a.keeps,_,_,g,rfl,rfl,rfl,λ_=>rfl⟩
def gg (P:bB) (w:World):nA:=λc H s E e d=> ∃(a C:Addr) (g:Hp) (B:Heap) (h:Value),e= .ref a/\d.os=s.os/\oX d.gens/\Un (cH c) [] H g s.heap d.heap/\dD P w g d.heap/\g a=none/\
 lb (op C) B c a (.ref C) d.heap/\(∀b,b∉cH c->((∃o,s.heap.get? b=some o)\/ ∃u,g b=some u)->B.get? b=d.heap.get? b)/\E (.ref C) none g
section
variable {P:bB} {w:World} {K:aC} {mg:Vj} {af:Heap} {N:List Str} {d:Str} {i:Scope} {f:Addr} {cd:Value} {A:bH} {outer:List Env} {s0:aM} {H0:Hp} {E:XK}
 {pins:List (Addr×Obj)} {σ:L2.St} {H:Hp} {s:aM}
def ML (I:aA (bu (gg P w) P w K mg af N d i f cd A outer s0 H0 E) pins σ H {s with heap:=h})
   (fl:lb F B outer a cls O) (p: ∀b o,h.get? b=some o->b∉cH (bu (gg P w) P w K mg af N d i f cd A outer s0 H0 E).stack->((∃o,s0.heap.get? b=some o)\/ ∃u,H b=some u)->B.get? b=some o)
   (up: ∀b o,b∈cH (bu (gg P w) P w K mg af N d i f cd A outer s0 H0 E).stack->h.get? b=some o->(∀vs,o.data≠ .fields vs)-> ∃Q,O.get? b=some {o with slots:=Q}):
   Un (cH outer) [] H0 H s0.heap O/\dD P w H O/\ ∀b,b∉cH outer->((∃o,s0.heap.get? b=some o)\/ ∃u,H b=some u)->B.get? b=O.get? b:=by
 have U: ∀b o,s0.heap.get? b=some o->b∉cH outer->b∉cH (bu (gg P w) P w K mg af N d i f cd A outer s0 H0 E).stack:=λb o q g L=>by
   rcases bA.mp (I.iw b L) with e|e
   . have j:s0.heap.objs.size<=b:=by rw [e];exact I.ok.above
     exact oV _ (fH (bO q) j)
   . exact g e
 have ve: ∀b u,H b=some u->b∉cH (bu (gg P w) P w K mg af N d i f cd A outer s0 H0 E).stack:=λb u q L=>by
   have:=I.cO b L;rw [q] at this;cases this
 have y:Un (cH outer) [] H0 H s0.heap h:=I.af;have FF:=I.stack
 have sub: ∀b∈cH outer,b∈cH (bu (gg P w) P w K mg af N d i f cd A outer s0 H0 E).stack:=λb g=>by
   show b∈cH (gn d i s0.heap.objs.size f cd::outer);unfold cH at g ⊢;rw [Cw]
   split
   . exact g
   . exact gc _ g
 have l: ∀b o,b∈cH (bu (gg P w) P w K mg af N d i f cd A outer s0 H0 E).stack->h.get? b=some o-> ∃Q,O.get? b=some {o with slots:=Q}:=λb o g q=>by
   obtain ⟨_,J,Y,hd⟩:=FF.mem g;rw [q] at Y;cases Y;exact up b o g q hd
 refine ⟨⟨λb o q n g _=>?_,λb o q n g _=>?_,λb o q n _=>y.free b o q n (by simp),λb o q _=>?_,y.dE,y.eA,y.eP⟩,λb u q=>?_,λb g hc=>?_⟩
 . have j:=y.keep b o q n g (by simp);exact fl.1 b o (p b o j (U b o q g) (.inl ⟨o,q⟩))
 . obtain ⟨Q,j⟩:=y.slot b o q n g (by simp);obtain ⟨sl',h2⟩:=l b _ (sub b g) j;exact ⟨sl',h2⟩
 . obtain ⟨J,j⟩:=y.there b o q (by simp)
   by_cases L:b∈cH (bu (gg P w) P w K mg af N d i f cd A outer s0 H0 E).stack
   . obtain ⟨Q,h2⟩:=l b J L j;exact ⟨_,h2⟩
   . exact ⟨J,fl.1 b J (p b J j L (.inl ⟨o,q⟩))⟩
 . have h0:=I.aV b u q;refine h0.a5 (λc v hc r=>?_) (λ_ z=>z) λ_ _ z=>z
   have ht: ∃u,H c=some u:=by
     rcases hc with z|z
     . rw [z];exact ⟨u,q⟩
     . exact ⟨_,z⟩
   obtain ⟨u',MM⟩:=ht;exact fl.1 c v (p c v r (ve c u' MM) (.inr ⟨u',MM⟩))
 . have ht: ∃o,h.get? b=some o/\b∉cH (bu (gg P w) P w K mg af N d i f cd A outer s0 H0 E).stack:=by
     rcases hc with ⟨o,q⟩| ⟨u,q⟩
     . obtain ⟨J,j⟩:=y.there b o q (by simp);exact ⟨J,j,U b o q g⟩
     . obtain ⟨ob,j⟩:=yM (show a6 P w H h b u from I.aV b u q);exact ⟨ob,j,ve b u q⟩
   obtain ⟨o,j,h2⟩:=ht;have h3:=p b o j h2 hc;rw [h3,fl.1 b o h3]
def Yq (I:aA (bu (gg P w) P w K mg af N d i f cd A outer s0 H0 E) pins σ H {s with heap:=h}) (J:Ga h s.heap e C) (L:E (.ref C) none H):
   (bu (gg P w) P w K mg af N d i f cd A outer s0 H0 E).xe (.ref e) s:=by
 have O:=I.stack
 have c:h.FunFrames (rR h (cH (bu (gg P w) P w K mg af N d i f cd A outer s0 H0 E).stack)) (bu (gg P w) P w K mg af N d i f cd A outer s0 H0 E).stack:=
   PySem.W.funFrames_hide O λg j b a=>Ax.mpr ⟨g,j,a⟩
 have l:H e=none:=by
   cases q:H e with
   |none=>rfl
   |some u=>
    obtain ⟨ob,z⟩:=yM (show a6 P w H h e u from I.aV e u q);rw [J.1] at z;cases z
 obtain ⟨n,p,oe,vs,j,Q,r,U,Y⟩:=J;refine jcU (B:=rR h (cH (bu (gg P w) P w K mg af N d i f cd A outer s0 H0 E).stack)) (op.set (C:=C)) I.ok.frames (c.of_keeps λb o a _=>⟨o,p b o a,rfl⟩) rfl j (λb o q=>p b o (Ap _ q)) ?_ r U Y λh' v y=>?_
 . cases q:(rR h (cH (bu (gg P w) P w K mg af N d i f cd A outer s0 H0 E).stack)).get? e with
   |none=>rfl
   |some o=>
    have:=Ap _ q;rw [n] at this;cases this
 obtain ⟨u1,u2,u3⟩:=ML I v.m (λb o q a _=>Ef _ q a) λb o a q r=>y b o (p b o q) r
 rw [Q] at v;exact ⟨e,C,H,_,.none,rfl,I.os,I.bare,u1,u2,l,v.m,u3,L⟩
def vV (I:aA (bu (gg P w) P w K mg af N d i f cd A outer s0 H0 E) pins σ H s) (c:gg P w (bu (gg P w) P w K mg af N d i f cd A outer s0 H0 E).stack H s u e v)
  (y: ∀C g,u (.ref C) none g->E (.ref C) none g):(bu (gg P w) P w K mg af N d i f cd A outer s0 H0 E).xe e v:=by
 obtain ⟨a,C,g,B,L,rfl,os,bare,un,l,O,Q,n,p⟩:=c;have J:=I.fZ os un l bare λb j=>absurd j (by simp)
 refine jcV op.set J.ok.frames rfl Q λh' h r=>?_
 have U:Un (cH outer) [] H0 H s0.heap s.heap:=I.af
 obtain ⟨Y,u2,u3⟩:=ML J h (λb o q j hc=>by
  rw [n b j ?_,q];rcases hc with ⟨o',z⟩|z
  . obtain ⟨o2,z2⟩:=U.there b o' z (by simp);exact .inl ⟨o2,z2⟩
  . exact .inr z) λb o j q hd=>r b o q hd
 exact ⟨a,C,g,B,L,rfl,J.os,J.bare,Y,u2,O,h,u3,y C g p⟩
end
abbrev eT (K:aC) (c:Str) (C:Addr):Prop:=cT K cc c=some (some (.ref C))
def XE (K:aC) (c:Str) (H:Hp):XK:=λcls _ a=> ∃C,cls= .ref C/\eT K c C/\ao H a
def lc (X:Cx) (c:Str) (h:L2.St) (H:Hp):Prop:= ∀a d s e g,ao H d->aA X a h d s->gg X.prog X.w X.stack d s (XE X.K c d) e g->X.xe e g
def BF (X:Cx) (c:Str) (d:Hp):Prop:= ∀a g H (s:aM) h e C (_:List Value),ao d H->eT X.K c C->aA X a g H {s with heap:=h}->Ga h s.heap e C->X.xe (.ref e) s
structure MN (X:Cx) (c:Str) (H0:Hp):Prop where
 a:BF X c H0
 b: ∀σ H,ao H0 H->lc X c σ H
def MO (X:Cx) (l:Lv) (f:T1):TE:=λe H Q=> ∃G h a,ax X.K G h a e H/\
 ((∃d,f a= .ok d/\ ∀v g,ao H g->aL X.K (l.A G a e) g v d->l.T H v->Q v g)\/ ∃c,f a= .exc c/\lc X c e H)
def MP (X:Cx) (g:TZ):TS:=λE e H=> ∃G d a,ax X.K G d a e H/\((∃o,g a= .ok o/\mM X.K G d a e H E o)\/ ∃c,g a= .exc c/\MN X c d)
@[irreducible] def fQ (X:Cx) (l:Lv) (e:Expr) (f:T1):Prop:=PE X e (MO X l f)
@[irreducible] def lV (X:Cx) (st:Stmt) (g:TZ):Prop:=PS X st (MP X g)
@[irreducible] def gh (X:Cx) (st:List Stmt) (g:TZ):Prop:=dM X st (MP X g)
noncomputable def hI {c:Type} (r:al c):al c:=match r with
 | .ok a=> .ok a
 |_=> .aj
def Yn {d:Type} {r:al d} {a:d} (h:hI r= .ok a):r= .ok a:=by
 cases r with
 |ok b=>exact h
 |exc c=>cases h
 |aj=>cases h
def Xj {a:Type} {r:al a} (h:hI r= .exc c):False:=by
 cases r<;>cases h
def zu {e g:Type} {r:al e} {f:e->al g} (h:(r>>=f)= .exc c):r= .exc c\/ ∃a,r= .ok a/\f a= .exc c:=by
 cases r with
 |ok a=>exact .inr ⟨a,rfl,h⟩
 |exc d=>cases h;exact .inl rfl
 |aj=>cases h
def zd (g:TZ):Sl->al aT:=λa=>hI (g a)
def Ul (f:T1):Sl->al D:=λa=>hI (f a)
section
variable {X:Cx} {e c tg:Expr} {st:Stmt} {rest I L:List Stmt} {O:Pos} {l:Lv} {f:T1} {g J g2:TZ}
def DE.x (h:DE X l e f):fQ X l e (Ul f):=by
 with_unfolding_all exact (PE.imp h λi H Q=>by
  rintro ⟨G,a,env,k,q⟩;rcases q with ⟨d,e1,q⟩| ⟨c,e1,_⟩
  . exact ⟨G,a,env,d,k,Yn e1,q⟩
  . exact (Xj e1).elim)
def DS.x (h:DS X st g):lV X st (zd g):=by
 with_unfolding_all exact (PS.imp h λE d H=>by
  rintro ⟨G,a,env,k,q⟩;rcases q with ⟨o,e1,q⟩| ⟨c,e1,_⟩
  . exact ⟨G,a,env,o,k,Yn e1,q⟩
  . exact (Xj e1).elim)
def iD.x {A1:List Stmt} (h:iD X A1 g):gh X A1 (zd g):=by
 with_unfolding_all exact (dM.imp h λE d H=>by
  rintro ⟨G,a,env,k,q⟩;rcases q with ⟨o,e1,q⟩| ⟨c,e1,_⟩
  . exact ⟨G,a,env,o,k,Yn e1,q⟩
  . exact (Xj e1).elim)
def jO (y:lV X st J) (z:gh X rest g2):gh X (st::rest) (aq J g2):=by
 with_unfolding_all exact (dM.imp (WG y z) λE Q H=>by
  rintro ⟨G,i,h,k,q⟩;rcases q with ⟨o,n,q⟩| ⟨c,n,v⟩
  . obtain ⟨j,e1,e2⟩:=jd n;refine ⟨G,i,h,k,.inl ⟨j,e1,?_⟩⟩
    cases j with
    |nx a=>exact λp B r w=>⟨G,i,a,r,.inl ⟨o,e2,Jg w q⟩⟩
    |rt N d=>cases e2;exact q
    |bk u=>cases e2;exact q
    |ct u=>cases e2;exact q
  . rcases zu n with e1| ⟨j,e1,e2⟩
    . exact ⟨G,i,h,k,.inr ⟨c,e1,v⟩⟩
    . cases j with
      |nx a=>exact ⟨G,i,h,k,.inl ⟨_,e1,λp B r w=>⟨G,i,a,r,.inr ⟨c,e2,v⟩⟩⟩⟩
      |rt N d=>cases e2
      |bk u=>cases e2
      |ct u=>cases e2)
def qf (a:lV X st J):gh X [st] J:=by
 with_unfolding_all exact (dM.imp (ZW a) λE d H q=>q)
def jh0 (h:fQ X .t e f):lV X (.Return (some e) O) (aJ f):=by
 with_unfolding_all exact (PS.imp (Q0 h) λE p H=>by
  rintro ⟨G,n,i,k,q⟩;rcases q with ⟨o,j,q⟩| ⟨c,j,u⟩
  . obtain ⟨d,e1,e2⟩:=jd j;cases e2;exact ⟨G,n,i,k,.inl ⟨d,e1,λv w s r y=>q v w (k.af.trans s) (r.aE λa z=>z.2) λ_=>be.am k.af y⟩⟩
  . rcases zu j with e1| ⟨d,e1,e2⟩
    . exact ⟨G,n,i,k,.inr ⟨c,e1,u.b p H k.af⟩⟩
    . cases e2)
def uy (h:fQ X .s e f):lV X (.Return (some e) O) (retS f):=by
 with_unfolding_all exact (PS.imp (Q0 h) λE p H=>by
  rintro ⟨G,n,i,k,q⟩;rcases q with ⟨o,j,q⟩| ⟨c,j,u⟩
  . obtain ⟨d,e1,e2⟩:=jd j;cases e2;exact ⟨G,n,i,k,.inl ⟨d,e1,λv w s r y=>q v w (k.af.trans s) (r.aE λa z=>z.2) λz=>by cases z⟩⟩
  . rcases zu j with e1| ⟨d,e1,e2⟩
    . exact ⟨G,n,i,k,.inr ⟨c,e1,u.b p H k.af⟩⟩
    . cases e2)
noncomputable def fR (t:T0) (J g2:TZ):Sl->al aT:=λa=>match t a with
 | .ok b=>if b=true then J a else g2 a
 |_=> .aj
def XM (n:DT X c t) (p:gh X I J) (r:gh X L g2):lV X (.If c I L O) (fR t J g2):=by
 with_unfolding_all exact (PS.imp (vu n p r) λE u H=>by
  rintro ⟨G,h,a,k,q⟩;have i: ∃b,t a= .ok b/\fR t J g2 a=if b=true then J a else g2 a:=by
   cases e1:t a with
   |ok b=>exact ⟨b,rfl,by unfold fR;rw [e1]⟩
   |_=>
     have z:fR t J g2 a= .aj:=by unfold fR;rw [e1]
     rcases q with ⟨o,d,_⟩| ⟨c,d,_⟩<;>(rw [z] at d;cases d)
  obtain ⟨b,e1,e2⟩:=i;rw [e2] at q;refine ⟨G,h,a,b,k,e1,λv s=>?_⟩
  cases b with
  |true=>
   rw [if_pos rfl] at q ⊢;rcases q with ⟨o,d,q⟩| ⟨c,d,j⟩
   . exact ⟨G,h,a,k.am s,.inl ⟨o,d,Jg (a9.refl s) q⟩⟩
   . exact ⟨G,h,a,k.am s,.inr ⟨c,d,j⟩⟩
  |false=>
   rw [if_neg gd] at q ⊢;rcases q with ⟨o,d,q⟩| ⟨c,d,j⟩
   . exact ⟨G,h,a,k.am s,.inl ⟨o,d,Jg (a9.refl s) q⟩⟩
   . exact ⟨G,h,a,k.am s,.inr ⟨c,d,j⟩⟩)
def WP (i:Nat) {x:Str} {a:Pos} (u:X.N.Nodup) (h:fQ X .s e f) (w:X.N[i]?=some x:=by rfl) (y:Loc X.env.scope x:=by exact iC rfl) (B:ix e (some (.Name x a)) O.line X.env=pure false:=by rfl)
   (N:UM X x:=by first|exact .inl rfl|exact .inr rfl|assumption):lV X (.Assign [.Name x a] e O) (jw i f):=by
 with_unfolding_all exact (
  PS.imp (vG u w y h B N) λE Q H=>by
   rintro ⟨G,p,j,k,q⟩;rcases q with ⟨o,n,q⟩| ⟨c,n,U⟩
   . obtain ⟨d,e1,e2⟩:=jd n;cases e2;exact ⟨G,p,j,k,.inl ⟨d,e1,λv Y s r _=>q _ Y ((k.am s).gz r) (.set s λ_ _ z _=>by cases z)⟩⟩
   . rcases zu n with e1| ⟨d,e1,e2⟩
     . exact ⟨G,p,j,k,.inr ⟨c,e1,U.b Q H k.af⟩⟩
     . cases e2)
def jfk (h:fQ X l e f) (p:ix e none O.line X.env=pure false:=by rfl):lV X (.Expr e O) (KJ f):=by
 with_unfolding_all exact (PS.imp (ZX h p) λE j H=>by
  rintro ⟨G,n,a,k,q⟩;rcases q with ⟨o,i,q⟩| ⟨c,i,u⟩
  . obtain ⟨d,e1,e2⟩:=jd i;cases e2;exact ⟨G,n,a,k,.inl ⟨d,e1,λv w s r _=>q j w (k.am s) (a9.refl s)⟩⟩
  . rcases zu i with e1| ⟨d,e1,e2⟩
    . exact ⟨G,n,a,k,.inr ⟨c,e1,u.b j H k.af⟩⟩
    . cases e2)
end
def MQ (K:aC) (i:Bool) (n:Nat) (F:TX):Sp:=λh H Q E=> ∃B g,h.length=n/\au K B H h g/\
 ((
  ∃d,F g= .ok d/\ ∀v e,ao H e->aL K (λa=>H a=none\/B a) e v d->(i=true->be H v)->Q v e)\/
  ∃c,F g= .exc c/\ ∀C e,eT K c C->ao H e->E (.ref C) none e)
structure fT (P:bB) (w:World) (K:aC) (mg:Vj) (af:Heap) (k:Nat) (x:Str) (ps:List Str) (fr:Bool) (F:TX):Prop where
 ex: ∃f fd,bX P w K mg af (gg P w) k f fd ps (MQ K fr ps.length F)/\mg x=some (.ref f)/\iZ K (.ref f)=true/\Binds K fd ps []
def fT.mono {K:aC} (h:fT P w K mg af j x c d F) (e:j<=k):fT P w K mg af k x c d F:=
 let ⟨f,g,a,b⟩:=h.ex
 ⟨f,g,a.mono e,b⟩
def zt (n:Nat) (F:TX) (g:TY):Sl->al D:=λa=>match g a with
 | .ok c=>aY (c.length=n) (F c)
 |_=> .aj
section
variable {X:Cx} {k:Nat} {x:Str} {ps:List Str} {fr:Bool} {F:TX} {e:Expr} {es:List Expr} {p pos:Pos} {g:TY}
def UR {l:L2.St} (F:bX X.prog X.w X.K X.mg X.af o k f q ps v) (w:aI k X.A) (y:Binds X.K q ps [])
  (I:aA X a l H s) (r:aN n c) (h:v n H Q E) (z: ∀e j,o X.stack H s E e j->X.xe e j):wpAny (model X.prog X.w) X.A (call (.ref f) c) (EP X a l Q) X.xe s:=by
 have B:c.length=ps.length:=by rw [<-r.length];exact F.len _ _ _ _ h
 have d:=y s c I.eD (by rw [nS];exact B);rw [nS] at d;refine wm (pB (F.run X.A X.stack s H ⟨c,[]⟩ c n Q E w I.pA d r h) λr j i=>?_)
 cases r with
 |error e=>exact z e j i
 |ok J=>
  cases J with
  |ret u=>exact I.after i
  |next=>exact gO i
  |brk=>exact gO i
  |cont=>exact gO i
def fT.call (A:fT X.prog X.w X.K X.mg X.af k x ps fr F) (hr:aI k X.A) (ha:DA X .s (e::es) g) (B:ps.length=n:=by rfl) (hg:Gl X x:=by rfl) (J:YU x:=by decide)
   (he:UO X e es:=by exact jm rfl) (L:UN X pos es:=by exact jS rfl):fQ X (if fr=true then .t else .s) (.Call (.Name x p) (e::es) [] pos) (zt n F g):=by
 subst B;obtain ⟨f,fd,h1,h2,h3,h4⟩:=A.ex
 with_unfolding_all exact (by
 rintro i s σ H Q I ⟨G,H0,env,kk,q⟩
 have N: ∃a,g env= .ok a/\zt ps.length F g env=aY (a.length=ps.length) (F a):=by
   cases e1:g env with
   |ok a=>exact ⟨a,rfl,by unfold zt;rw [e1]⟩
   |_=>
     have z:zt ps.length F g env= .aj:=by unfold zt;rw [e1]
     rcases q with ⟨o,h,_⟩| ⟨c,h,_⟩<;>(rw [z] at h;cases h)
 obtain ⟨a,e1,e2⟩:=N;rw [e2] at q;refine wC (yO I hg h2 ?_ J);refine sd I.ok.mod.oW h3 (bi ((show PA X (e::es) (tA X.K .s g) from ha) pos i s σ H (λO l=>ao H l/\au X.K (Sf G env σ) l O a) I ⟨G,H0,env,a,kk,e1,λO H' j r'=>⟨j,r'⟩⟩) λus s1 ⟨O,l,w,r,u,y⟩=>⟨w.eD,?_⟩) he L;rcases q with ⟨d,h,q⟩| ⟨c,h,th⟩
 . obtain ⟨B,e3⟩:=jv h;refine UR (E:=λ_ _ _=>False) h1 hr h4 w r ⟨_,a,by rw [y.length];exact B,y,.inl ⟨d,e3,λv H2 s2 r2 nt=>?_⟩⟩ λe j U=>?_
   . have r3:=r2.aE λc z=>z.elim (λz=>kk.new c (ao.free u z)) λz=>z
     cases fr with
     |true=>exact q v H2 (u.trans s2) r3 ((nt rfl).am u)
     |false=>exact q v H2 (u.trans s2) r3 trivial
   . obtain ⟨_,_,_,_,_,_,_,_,_,_,_,_,_,z⟩:=U;exact z.elim
 . have hm:a.length=ps.length/\F a= .exc c:=by
     unfold aY at h
     by_cases Y:a.length=ps.length
     . rw [if_pos Y] at h;exact ⟨Y,h⟩
     . rw [if_neg Y] at h;cases h
   refine UR (E:=XE X.K c l) h1 hr h4 w r ⟨_,a,by rw [y.length];exact hm.1,y,.inr ⟨c,hm.2,λC H' hC j=>⟨C,rfl,hC,j⟩⟩⟩ λe j U=>?_
   exact th i l s1 e j u w U)
end
noncomputable def bt (e:Bool) (n:Nat) (g:TZ) (ds:List D):al D:=match g (qg n ds) with
 | .ok (.rt a d)=>if e=true/\a=false then .aj else .ok d
 | .ok (.nx _)=> .ok .aU
 | .exc c=> .exc c
 |_=> .aj
def vx (h:bt a n g ds= .exc c):g (qg n ds)= .exc c:=by
 unfold bt at h
 split at h
 . split at h<;>cases h
 . cases h
 . cases h;assumption
 . cases h
def Yh (h:bt i n g ds= .ok d):Meets i n g ds d:=by
 unfold bt at h
 split at h
 . rename_i a o e
   split at h
   . cases h
   . rename_i j;cases h;refine .inl ⟨a,e,λl=>?_⟩
     cases a with
     |true=>rfl
     |false=>exact absurd ⟨l,rfl⟩ j
 . rename_i c e;cases h;exact .inr ⟨rfl,c,e⟩
 . cases h
 . cases h
section
variable {P:bB} {w:World} {K:aC} {mg:Vj} {af:Heap}
def jki {st:Stmt} (U:Bool) (Y:iB K x x st f fd) (o:mg x=some (.ref f)) (S:ar N ps (jf st)) (p:Binds K fd ps [])
   (hb: ∀(j:Value) (A:bH) (i:List Env) (s:aM) (H:Hp) (E:XK),aI k (A.deeper (gn x (jf st) s.heap.objs.size f j))->gh (bu (gg P w) P w K mg af N x (jf st) f j A i s H E) (qa st) g):
   fT P w K mg af (k+1) x ps U (bt U N.length g):=by
 refine ⟨f,fd,?_,o,Y.kp,p⟩
 with_unfolding_all exact (by
 obtain ⟨oc,od,kV,doc,pm,an,j,ct,AM,rfl,lk,u⟩:=Y.ex;refine EW lk u S (λvs H Q E ⟨B,ds,hl,_⟩=>hl) λA i s H vs Q E hr h=>?_
 obtain ⟨B,ds,hl,r,q⟩:=h;refine ⟨_,hb j A i s H E hr,?_⟩;have y:=XL (N:=N) r;rcases q with ⟨d,e,q⟩| ⟨c,e,q⟩
 . rcases Yh e with ⟨L1,z,hf⟩| ⟨rfl,env',z⟩
   . exact ⟨_,H,_,y,.inl ⟨_,z,λv l s r nt=>q v l s r λhh=>nt (hf hh)⟩⟩
   . exact ⟨_,H,_,y,.inl ⟨_,z,λgy l k' f'=>q .aU l k'.af .aU λ_ a e=>by cases e⟩⟩
 . refine ⟨_,H,_,y,.inr ⟨c,vx e,λn σ H1 s1 h e C vs J L I hx=>Yq I hx (q C H1 L J),λσ H1 J n H2 s1 e s' O I cx=>vV I cx λC l z=>?_⟩⟩;obtain ⟨C',e',L,s3⟩:=z;cases e'
   exact q C l L (J.trans (O.trans s3)))
end
def QZ (c:Str):Sl->al aT:=λ_=> .exc c
def jjH {c:Array DictEntry} (h:StrKeys c): ∃l:List Str,∀x,x∉l->nsFind c x=none:=by
 have go: ∀r:List DictEntry,(∀e∈r,∃n t,e.key= .str n t)-> ∃l:List Str,∀e∈r,∀x,e.key.isStr x=true->x∈l:=by
   intro r
   induction r with
   |nil=>exact λ_=>⟨[],λ_ h=>by cases h⟩
   |cons e r g=>
    intro h;obtain ⟨l,d⟩:=g λe he=>h e (gc _ he)
    obtain ⟨n,t,i⟩:=h e lE;refine ⟨n::l,λj he x a=>?_⟩;rcases bA.mp he with rfl|he
    . rw [i] at a;exact bA.mpr (.inl (Value.isStr_inj (.str n t) x n a (beq_self_eq_true n)))
    . exact gc _ (d j he x a)
 obtain ⟨l,d⟩:=go c.toList λe he=>h e (EI.mp he)
 refine ⟨l,λx a=>?_⟩;unfold nsFind findBy;rw [Array.find?_eq_none.mpr λe he=>?_]
 . rfl
 . exact λz=>a (d e (EI.mpr he) x z)
def MR {K:aC} (p:bB) (M:Mod K mg h) (r:eT K c C) (q:BG K C e a=true):
  ∃j N u v bs d w sub y i dd z B E H I n,h.get? C=some (excClassObj u v C N bs j d w sub y i dd z B E H I a)/\h.Ns N n/\n "__init__" =none/\OwnTail h e j:=by
 have g:=M.glob;obtain ⟨o,es,ep,h1,h2,J,L⟩:=g;obtain ⟨mb,O,Q⟩:=M.blt;obtain ⟨l,U⟩:=jjH J;exact (PySem.W.own_of_in (p:=p) M.oW ⟨M.glob,O,M.nolimit,Q,λx _ Y _ _ _=>(L x).symm.trans (U x Y)⟩ r q).obj
def jah (U:eT X.K c C) (hm:X.mg c=some (.ref C)) (hq:BG X.K C bm h=true) (FB:ExcBaseFacts B h n bm)
   (ha:DE X l a f) (w: ∀env,∃d,f env= .ok d) (i:X.bM=true) (hg:Gl X c) (y:YU c)
   (Y:bb [a] X.env=(false,eval a X.env)::bb [] X.env)
   {o:L2.St} (I:aA X g o H s) (k:ax X.K G H0 env o H) (th:BF X c H):
   wpAny (model X.prog X.w) X.A (exec (.Raise (some (.Call (.Name c np) [a] [] bY)) none pos) X.env) (λfl z=>SP X g E fl z) X.xe s:=by
 with_unfolding_all exact (by
  obtain ⟨d,hd⟩:=w env;obtain ⟨tl,N,nm,qn,bs,j,sn,sub,ab,J,dd,k0,k1,k2,k3,k5,mN,L,hN,O,T⟩:=MR X.prog I.ok.mod U hq
  refine wpAny_Raise_call_subT (nm:=nm) (q:=qn) (N:=N) (bs:=bs) (hdct:=j) (sn:=sn) (sub:=sub) (ab:=ab) (col:=J) (dd:=dd) (k0:=k0) (k1:=k1) (k2:=k2) (k3:=k3) (k5:=k5)
   FB (T.hasType FB.hasBase) (I.ok.hd i) (by rw [Y];rfl) O (yO I hg hm ⟨rfl,?_⟩ y)
  rw [Y];refine E1 (EQ (bi ((show PE X a (tE X.K l f) from ha) g s o H (λv Q=>ao H Q) I ⟨G,H0,env,d,k,hd,λv H' z _ _=>z⟩) λu s1 ⟨v,Q,p,r,sm⟩=>EO ?_))
  exact ⟨rfl,(by decide:1<=aP),p.bk _ _ L,hN.keeps p.bk,T.keeps p.bk,λh' e hx=>th g o Q {s1 with heap:=h'} s1.heap e C [] sm U p (jkX hx)⟩)
def yu {z n r:Pos} (J:eT X.K c C) (L:X.mg c=some (.ref C)) (N:BG X.K C O i=true) (FB:ExcBaseFacts B i p O)
    (Q:DE X l a f) (u: ∀env,∃d,f env= .ok d) (j:X.bM=true:=by rfl) (U:Gl X c:=by rfl) (v:YU c:=by decide)
    (Y:bb [a] X.env=(false,eval a X.env)::bb [] X.env:=by exact jm rfl):
    lV X (.Raise (some (.Call (.Name c z) [a] [] n)) none r) (QZ c):=by
 with_unfolding_all exact (by
  rintro g s y H E I ⟨G,H0,env,k,q⟩;rcases q with ⟨o,w,_⟩| ⟨c',w,th⟩
  . cases w
  cases w
  exact jah J L N FB Q u j U v Y I k λg y H1 s1 h e C vs sm=>th.a g y H1 s1 h e C vs (k.af.trans sm))
def MS (X:Cx) (g:TZ):TS:=λE d H=> ∃G e a,ax X.K G e a d H/\((∃o,g a= .ok o/\mM X.K G e a d H E o)\/ ∃c,g a= .exc c/\lc X c d H)
@[irreducible] def BH (X:Cx) (st:Stmt) (g:TZ):Prop:=PS X st (MS X g)
@[irreducible] def oq (X:Cx) (st:List Stmt) (g:TZ):Prop:=dM X st (MS X g)
section
variable {X:Cx} {e c tg:Expr} {st:Stmt} {rest a u:List Stmt} {n:Pos} {l:Lv} {f:T1} {g g1 g2:TZ}
def lc.am {c:Str} (h:lc X c i H) (s:ao H j):lc X c i j:=λd o p e q r=>h d o p e q (s.trans r)
def Zo (d:BH X st g1):oq X [st] g1:=by
 with_unfolding_all exact (dM.imp (ZW d) λE h H q=>q)
def jfh (i:Nat) {j:Pos} (B:X.N.Nodup) (h:fQ X .s e f) (I:X.N[i]?=some x:=by rfl) (J:Loc X.env.scope x:=by exact iC rfl) (L:ix e (some (.Name x j)) n.line X.env=pure false:=by rfl)
   (N:UM X x:=by first|exact .inl rfl|exact .inr rfl|assumption):BH X (.Assign [.Name x j] e n) (jw i f):=by
 with_unfolding_all exact (
  PS.imp (vG B I J h L N) λE U H=>by
   rintro ⟨G,y,p,k,q⟩;rcases q with ⟨o,w,q⟩| ⟨c,w,O⟩
   . obtain ⟨d,e1,e2⟩:=jd w;cases e2;exact ⟨G,y,p,k,.inl ⟨d,e1,λv Q s r _=>q _ Q ((k.am s).gz r) (.set s λ_ _ z _=>by cases z)⟩⟩
   . rcases zu w with e1| ⟨d,e1,e2⟩
     . exact ⟨G,y,p,k,.inr ⟨c,e1,O⟩⟩
     . cases e2)
def ux (h:fQ X l e f) (w:ix e none n.line X.env=pure false:=by rfl):BH X (.Expr e n) (KJ f):=by
 with_unfolding_all exact (PS.imp (ZX h w) λE y H=>by
  rintro ⟨G,p,i,k,q⟩;rcases q with ⟨o,j,q⟩| ⟨c,j,z⟩
  . obtain ⟨d,e1,e2⟩:=jd j;cases e2;exact ⟨G,p,i,k,.inl ⟨d,e1,λv B s r _=>q y B (k.am s) (a9.refl s)⟩⟩
  . rcases zu j with e1| ⟨d,e1,e2⟩
    . exact ⟨G,p,i,k,.inr ⟨c,e1,z⟩⟩
    . cases e2)
def jj8 (r:DT X c t) (v:oq X a g1) (w:oq X u g2):BH X (.If c a u n) (fR t g1 g2):=by
 with_unfolding_all exact (PS.imp (vu r v w) λE y H=>by
  rintro ⟨G,i,d,k,q⟩;have j: ∃b,t d= .ok b/\fR t g1 g2 d=if b=true then g1 d else g2 d:=by
   cases e1:t d with
   |ok b=>exact ⟨b,rfl,by unfold fR;rw [e1]⟩
   |_=>
     have z:fR t g1 g2 d= .aj:=by unfold fR;rw [e1]
     rcases q with ⟨o,h,_⟩| ⟨c,h,_⟩<;>(rw [z] at h;cases h)
  obtain ⟨b,e1,e2⟩:=j;rw [e2] at q;refine ⟨G,i,d,b,k,e1,λB s=>?_⟩
  cases b with
  |true=>
   rw [if_pos rfl] at q ⊢;rcases q with ⟨o,h,q⟩| ⟨c,h,p⟩
   . exact ⟨G,i,d,k.am s,.inl ⟨o,h,Jg (a9.refl s) q⟩⟩
   . exact ⟨G,i,d,k.am s,.inr ⟨c,h,p.am s⟩⟩
  |false=>
   rw [if_neg gd] at q ⊢;rcases q with ⟨o,h,q⟩| ⟨c,h,p⟩
   . exact ⟨G,i,d,k.am s,.inl ⟨o,h,Jg (a9.refl s) q⟩⟩
   . exact ⟨G,i,d,k.am s,.inr ⟨c,h,p.am s⟩⟩)
end
noncomputable abbrev Cx.lf (X:Cx) (E:Vh) (a:List (Addr×Obj)):Cx:={X with xe:=E,pn:=X.pn++a}
noncomputable abbrev Cx.held (X:Cx) (e:Addr):Cx:={X with xe:=λ_ _=>False,A:=X.A.mark (some (.ref e)),bM:=false}
section
variable {X:Cx} {pins ps:List (Addr×Obj)} {σ:L2.St} {H:Hp} {s:aM} {E:Vh} {e:Addr}
def jjr (ok:X.Ok):(Cx.lf X E ps).Ok:=⟨ok.mod,ok.kind,ok.glob,ok.blt,ok.above,ok.inj,ok.has,ok.pe,ok.hd,ok.frames,ok.qx,ok.qD,ok.bs,ok.mC,ok.ir,ok.iu,ok.eB,ok.nN⟩
def jew (ok:(Cx.lf X E ps).Ok):X.Ok:=⟨ok.mod,ok.kind,ok.glob,ok.blt,ok.above,ok.inj,ok.has,ok.pe,ok.hd,ok.frames,ok.qx,ok.qD,ok.bs,ok.mC,ok.ir,ok.iu,ok.eB,ok.nN⟩
def kF (I:aA X pins σ H s):aA (Cx.lf X E pins) [] σ H s:=⟨jjr I.ok,I.os,I.bare,I.af,I.loc,I.cell,I.free,I.ce,λp a=>I.pin p (by simpa using a),I.aV,I.len⟩
def yo (I:aA (Cx.lf X E pins) ps σ H s):aA X pins σ H s:=⟨jew I.ok,I.os,I.bare,I.af,I.loc,I.cell,I.free,I.ce,λp a=>I.pin p (Aq _ a),I.aV,I.len⟩
def zC {D:Ends} (h:SP (Cx.lf X E pins) [] D f d):SP X pins D f d:=by
 cases f with
 |next=>obtain ⟨a,c,I,q⟩:=h;exact ⟨a,c,yo I,q⟩
 |brk=>obtain ⟨a,c,I,q⟩:=h;exact ⟨a,c,yo I,q⟩
 |cont=>obtain ⟨a,c,I,q⟩:=h;exact ⟨a,c,yo I,q⟩
 |ret u=>obtain ⟨v,a,c,I,r,q⟩:=h;exact ⟨v,a,c,yo I,r,q⟩
def jhi (ok:X.Ok):(Cx.held X e).Ok:=⟨ok.mod,ok.kind,ok.glob,ok.blt,ok.above,ok.inj,ok.has,ok.pe,(λz=>nomatch z),ok.frames,ok.qx,ok.qD,ok.bs,ok.mC,ok.ir,ok.iu,ok.eB,ok.nN⟩
def WK (I:aA X pins σ H s):aA (Cx.held X e) pins σ H s:=⟨jhi I.ok,I.os,I.bare,I.af,I.loc,I.cell,I.free,I.ce,I.pin,I.aV,I.len⟩
def yp (ok:X.Ok) (I:aA (Cx.held X e) pins σ H s):aA X pins σ H s:=⟨ok,I.os,I.bare,I.af,I.loc,I.cell,I.free,I.ce,I.pin,I.aV,I.len⟩
def Kq (I:aA X pins σ H s) (hN:X.N.Nodup) (Y:X.N[i]?=some x) (hk:X.env.scope.names.lookup x=some .local)
   (h: ∀s',aA X pins (σ.set i none) H s'->Q () s'):wpAny M A (do bindName X.env x .none;unbindBehindTheSuite X.env x pos) Q E s:=by
 obtain ⟨m,hn,hl⟩:=id I.loc;have u:(X.env.scope.kind== .class|| (X.env.scope.kind== .module&&X.env.locals !=X.env.globals))=false:=by rw [I.ok.kind];rfl
 have w:i<σ.length:=by rw [I.len];exact (ic.mp Y).1
 have nO:=I.nO
 have g: ∀ {a:Addr} {J:Heap},(∃o,s.heap.get? a=some o/\H a=none)->ph a s.heap J->dD X.prog X.w H J:=λ{a J} ha r b ob e=>by
   obtain ⟨_,_,l⟩:=ha;refine (I.aV b ob e).a5 (λc w' hc q=>(r.2 c ?_).trans q) (λ_ q=>q) λ_ _ q=>q
   rintro rfl;rcases hc with rfl|hc
   . rw [l] at e;cases e
   . rw [l] at hc;cases hc
 refine wpAny_nameGoes_keeps hk hn u λJ v L r=>?_
 obtain ⟨oL,_,_,N,_⟩:=id hn;refine h _ ⟨I.ok,I.os,I.bare,⟨λb o e n O B=>?_,λb o e n O B=>?_,I.af.free,λb o e B=>?_,I.af.dE,I.af.eA,I.af.eP⟩,⟨_,L,λj y v' e1 e2 e3=>?_⟩,λy c e=>?_,I.free,I.ce,λp hp=>?_,g ⟨oL,N,I.free⟩ r,by simpa using I.len⟩
 . exact (r.2 b (dJ (fH (bO e) I.ok.above))).trans (I.af.keep b o e n O B)
 . obtain ⟨sl,e1⟩:=I.af.slot b o e n O B;exact ⟨sl,(r.2 b (dJ (fH (bO e) I.ok.above))).trans e1⟩
 . obtain ⟨o',e1⟩:=I.af.there b o e B;exact ⟨o',(r.2 b (dJ (fH (bO e) I.ok.above))).trans e1⟩
 . by_cases U:j=i
   . subst U;rw [rS w] at e2;cases e2
   . rw [Cy (gm U)] at e2;obtain ⟨u',r',q⟩:=hl j y v' e1 e2 e3;refine ⟨u',r',?_⟩;rcases q with ⟨k,e⟩| ⟨k,c,e,z⟩
     . refine .inl ⟨k,?_⟩;have:y≠x:=λe=>U (Kf hN e1 (e▸Y))
       simp [this,e]
     . exact .inr ⟨k,c,e,z.sameBut r (nO y c e)⟩
 . obtain ⟨w',z⟩:=I.cell y c e;exact ⟨w',z.sameBut r (nO y c e)⟩
 . obtain ⟨e,n,ne,nf,d⟩:=I.pin p hp;exact ⟨(r.2 p.1 ne).trans e,n,ne,nf,d⟩
end
def Xo {B:Heap} (un:Un (cH a) [] H j h p) (J:dD P w j p) (Y: ∀b∈cH a,j b=none)
   (e: ∀b,b∉cH a->((∃o,h.get? b=some o)\/ ∃u,j b=some u)->B.get? b=p.get? b) (FF:p.FunFrames Q a) (st:B.StaysIn E) (up:p.UpToSlots E):
   Un (cH a) [] H j h E/\dD P w j E:=by
 have d: ∀b o,b∈cH a->p.get? b=some o-> ∃L,E.get? b=some {o with slots:=L}:=λb o g q=>by
   obtain ⟨_,I,y,hd⟩:=FF.mem g;rw [q] at y;cases y;exact up b o q hd
 refine ⟨⟨λb o q n g _=>?_,λb o q n g _=>?_,un.free,λb o q _=>?_,un.dE,un.eA,un.eP⟩,λb u q=>?_⟩
 . have l:=un.keep b o q n g (by simp);exact st b o ((e b g (.inl ⟨o,q⟩)).trans l)
 . obtain ⟨L,l⟩:=un.slot b o q n g (by simp);obtain ⟨N,O⟩:=d b _ g l;exact ⟨N,O⟩
 . obtain ⟨I,l⟩:=un.there b o q (by simp)
   by_cases U:b∈cH a
   . obtain ⟨L,O⟩:=d b I U l;exact ⟨_,O⟩
   . exact ⟨I,st b I ((e b U (.inl ⟨o,q⟩)).trans l)⟩
 . refine (J b u q).a5 (λc v hc r=>?_) (λ_ z=>z) λ_ _ z=>z
   have ht: ∃u,j c=some u:=by
     rcases hc with z|z
     . rw [z];exact ⟨u,q⟩
     . exact ⟨_,z⟩
   obtain ⟨u',i⟩:=ht;have nm:c∉cH a:=λz=>by rw [Y c z] at i;cases i
   exact st c v ((e c nm (.inr ⟨u',i⟩)).trans r)
section
variable {K:aC} {G:Vi} {r H:Hp} {env:Sl} {v:L2.St} {j:Nat}
def Xf (o:zV (env.set j .un) (v.set j g) a):zV env v a:=by
 obtain ⟨i,d,c,e⟩:=o
 by_cases z:j=i
 . subst z;obtain ⟨q,_⟩:=jy c;cases q
 . rw [jq z] at c e;exact ⟨i,d,c,e⟩
def ax.unset (k:ax K G r env v H):ax K G r (env.set j .un) (v.set j l) H:=by
 have w: ∀a,Sf G env v a->Sf G (env.set j .un) (v.set j l) a:=λa n=>⟨λo=>n.1 (Xf o),n.2⟩
 refine ⟨by simp [k.len],k.af,k.g0,λi e h=>?_,λi e h=>?_,λi d e p a h1 h2 c g=>?_⟩
 . by_cases z:j=i
   . subst z;obtain ⟨q,_⟩:=jy h;cases q
   . rw [jq z] at h ⊢;obtain ⟨u,h1,h2⟩:=k.ah i e h;exact ⟨u,h1,h2.aE w⟩
 . by_cases z:j=i
   . subst z;obtain ⟨q,_⟩:=jy h;cases q
   . rw [jq z] at h ⊢;obtain ⟨a,h1,h2,c⟩:=k.aw i e h;exact ⟨a,h1,h2,c.a5 (λ_ _ e _=>e) w λ_ q=>q⟩
 . have y:j≠i:=by rintro rfl;obtain ⟨q,_⟩:=jy h1;cases q
   have B:j≠d:=by rintro rfl;obtain ⟨q,_⟩:=jy h2;cases q
   rw [jq y] at h1 c;rw [jq B] at h2 g;exact k.nB i d e p a h1 h2 c g
def a9.unset:a9 env v H (env.set j .un) (v.set j a) H:=⟨λ_ _ e _=>e,λb o=> .inl (Xf o),λ_ e=>e⟩
end
noncomputable def Gb (j:Nat):aT->aT
 | .nx a=> .nx (a.set j .un)
 | .bk a=> .bk (a.set j .un)
 | .ct a=> .ct (a.set j .un)
 | .rt c d=> .rt c d
def hJ (cs:List Str) (g:TZ) (j:Nat) (d:TZ):Sl->al aT:=λa=>match g a with
 | .ok o=> .ok o
 | .exc c=>if cs.contains c=true then d (a.set j (.ah (.du c)))>>=λo=> .ok (Gb j o) else .aj
 | .aj=> .aj
def MT (un:Un fs [] H g h i) (j:dD P w g i) (z:h.get? a=none) (d:g a=none) (p:i.get? a=some l):
   Un fs [] H (aH g a (.bE l (.aw a))) h i/\dD P w (aH g a (.bE l (.aw a))) i:=by
 refine ⟨⟨un.keep,un.slot,λb o q n B=>?_,un.there,λb r q=>?_,λb o u q=>?_,λb E q=>?_⟩,λb u e=>?_⟩
 . rw [jF (by rintro rfl;rw [z] at q;cases q)];exact un.free b o q n B
 . have:=un.dE b r q;rw [jF (ql this d)];exact this
 . have:=un.eA b o u q;rw [jF (ql this d)];exact this
 . obtain ⟨m,e⟩:=un.eP b E q;exact ⟨m,by rw [jF (ql e d)];exact e⟩
 . by_cases y:b=a
   . subst y;rw [ju] at e;cases e;exact ⟨p,l,p⟩
   . rw [jF y] at e;exact (j b u e).a5 (λc v _ q=>q) (λc q=>by rw [jF (ql q d)];exact q) λc r q=>by rw [jF (ql q d)];exact q
def BI (X:Cx) (a:List (Addr×Obj)) (E:Ends) (h:List ExceptHandler) (e:Value) (c:aM):Prop:=wpAny (model X.prog X.w) X.A (rz e X.env) (λ_ d=>wpAny (model X.prog X.w) X.A (setFlight e none) (λ_ g=>
 wpAny (model X.prog X.w) X.A (handleBy e X.env h) (SP X a E) X.xe g) X.xe d) X.xe c
def MU {np O pos:Pos} (cs:List Str) (j:Nat) (hN:X.N.Nodup) (Y: ∀E' ps,oq (Cx.lf X E' ps) body g) (hs: ∀e,iD (Cx.held X e) (Q::r) gs)
    (hT:X.mg T=some (.ref CT)) (hx: ∀c,cs.contains c=true-> ∀C,eT X.K c C->o7 X.K (.ref C) (.ref CT)=some true)
    (hj:X.N[j]?=some n:=by rfl) (hl:X.env.scope.names.lookup n=some .local:=by rfl) (Dj:X.stack=X.env::X.outer:=by rfl) (ly:X.env.frame=some X.env.locals:=by rfl) (hg:Gl X T:=by rfl) (BJ:YU T:=by decide):
    DS X (.Try body [.ExceptHandler (some (.Name T np)) (some n) (Q::r) O] [] [] pos) (hJ cs g j gs):=by
 with_unfolding_all exact (by
  rintro w s σ H E I ⟨G,H0,y,o,k,L,q⟩;refine wpAny_Try_except (ie ((Y (BI X w E [.ExceptHandler (some (.Name T np)) (some n) (Q::r) O]) w) [] s σ H E (kF I) ⟨G,H0,y,k,?_⟩) (λf s1 hq=>?_) λe s1 h=>h)
  . unfold hJ at L
    cases eg:g y with
    |ok o'=>rw [eg] at L;cases L;exact .inl ⟨_,rfl,q⟩
    |aj=>rw [eg] at L;cases L
    |exc c=>
     rw [eg] at L;dsimp only at L
     by_cases hc:cs.contains c=true
     . rw [if_pos hc] at L;obtain ⟨o1,e1,e2⟩:=jd L;cases e2;refine .inr ⟨c,rfl,λBK H1 s2 e s' sm I' cx=>?_⟩;have I1:=yo I';obtain ⟨a,C,N,B,a0,rfl,os,bare,un,aV,ha,fl,tt,C',eC,hC,pX⟩:=cx;cases eC;have J:=I1.fZ os un aV bare λb Y=>absurd Y (by simp)
       have nb:a∉cH X.stack:=λhm=>by
         obtain ⟨_,o',BL,hd⟩:=J.stack.mem hm;obtain ⟨oe,vs,he,_,hv,_⟩:=fl.there;rw [he] at BL;cases BL;exact hd _ hv
       have hn:s2.heap.get? a=none:=by
         cases z:s2.heap.get? a with
         |none=>rfl
         |some o'=>
          obtain ⟨ob,_,Gd,_⟩:=fl.there;have:=tt a nb (.inl ⟨o',z⟩);rw [fl.2.1,Gd] at this;cases this
       refine Kw op.set (by rw [<-Dj];exact I.ok.frames) ly (by rw [<-Dj];exact fl) λh2 held BM=>?_
       refine J6 held λh3 tu Ge=>?_
       have BN:h2.UpToSlots h3:=λb o e n=>⟨o.slots,Ge b o e n⟩
       obtain ⟨f1,f2,f3,f4⟩:=tu;obtain ⟨U3,O3⟩:=Xo un aV J.cO tt J.stack f1 (BM.trans BN);have I3:=I1.fZ (s':={s' with heap:=h3}) os U3 O3 bare λb Y=>absurd Y (by simp)
       refine wpAny_handleBy_cons (codeAny_handlers_test ?_) (by intro q;cases q);refine yO (WK I3) hg hT ?_ BJ;obtain ⟨ob3,_,_,_,_,tw,⟨Gf,_⟩,_⟩:=id f4;refine (PySem.W.exm_one I3.eD (by rw [<-Gf];exact (tx tw).andThen .now) (hx c hc C hC)).here ?_;refine codeAny_handlers_suite_as ?_;refine J6 ⟨f1,f2,f3,f4⟩ λh4 Gg ou=>?_
       obtain ⟨Gh,_,FF4,Gi⟩:=Gg;have Gj:=BM.trans (BN.trans λb o e n=>⟨o.slots,ou b o e n⟩);obtain ⟨U4,O4⟩:=Xo un aV J.cO tt J.stack Gh Gj;obtain ⟨oe,_,_,_,_,Gk,⟨MV,_⟩,_⟩:=id Gi;obtain ⟨U5,O5⟩:=MT U4 O4 hn ha Gk;have I5:=I1.fZ (s':={s' with heap:=h4}) os U5 O5 bare λb Y=>absurd Y (by simp)
       have sS:ao H (aH N a (.bE oe (.aw a))):=(sm.trans pX).trans (ao.aH ha);have rp:aL X.K (Sf G y σ) (aH N a (.bE oe (.aw a))) (.ref a) (.du c):= .du ju MV hC;refine WF (X:=Cx.held X a) (WK I5) hN hj (.inl hl) (v:= .ref a) rfl (λs6 I6=>?_) (.inr hl);have kS:=(k.am sS).gz (i:=j) rp;have fS:a9 y σ H (y.set j (.ah (.du c))) (σ.set j (some (.ref a))) (aH N a (.bE oe (.aw a))):= .set sS λ_ _ z _=>by cases z
       refine ie ((hs a) w s6 (σ.set j (some (.ref a))) _ ⟨λl N=>E.nx (l.set j none) N,E.rt,λl N=>E.bk (l.set j none) N,λl N=>E.ct (l.set j none) N⟩ I6 ⟨G,H0,_,o1,kS,e1,?_⟩) (λf s7 h7=>?_) λ_ _ z=>gO z
       . cases o1 with
         |nx U=>exact λl p k3 f3=>q _ p k3.unset ((fS.trans f3).trans .unset)
         |bk U=>exact λl p k3 f3=>q _ p k3.unset ((fS.trans f3).trans .unset)
         |ct U=>exact λl p k3 f3=>q _ p k3.unset ((fS.trans f3).trans .unset)
         |rt fr d=>exact q
       . cases f with
         |next=>
          obtain ⟨l,p,I7,q7⟩:=h7;exact Kq (yp I.ok I7) hN hj hl λs8 I8=>⟨_,p,I8,q7⟩
         |brk=>
          obtain ⟨l,p,I7,q7⟩:=h7;exact Kq (yp I.ok I7) hN hj hl λs8 I8=>⟨_,p,I8,q7⟩
         |cont=>
          obtain ⟨l,p,I7,q7⟩:=h7;exact Kq (yp I.ok I7) hN hj hl λs8 I8=>⟨_,p,I8,q7⟩
         |ret u=>
          obtain ⟨v,l,p,I7,r7,q7⟩:=h7;exact Kq (yp I.ok I7) hN hj hl λs8 I8=>⟨v,_,p,I8,r7,q7⟩
     . rw [if_neg hc] at L;cases L
  . cases f with
    |next=>exact rV (zC hq)
    |brk=>exact zC hq
    |cont=>exact zC hq
    |ret u=>exact zC hq)
abbrev KF:=Int×(Sl->al D)
end M
namespace PySem.AutoSeq1
open PySem Builtin
def lW (l:Addr) (a:Array Value) (n:Nat) (dd:Option Addr) (e:Array (Option Value)) (u:Tok):
  Meets (g9.«tuple.__mul__» ⟨[.ref l,.int 1 u],[]⟩) (λ_ R s=>s.heap.get? l=some {cls:= .type "tuple",dict:=dd,data:= .seq a n,slots:=e}/\R (.ok (.ret (cX l))) s):=
 .of_wp λc w A R s h=>by
  obtain ⟨j,g,d,tk,os⟩:=s;obtain ⟨i,h⟩:=h;have o:=idx_int;have p:=sub_tuple_tuple;have q: ¬(decide ((1:Int)< -2^63)||decide ((1:Int)>=2^63))=true:=by decide
  have r:(a.isEmpty|| (1:Int)==1)=true:=by simp
  wp_walk using sJ i
  exact ⟨_,rfl,h⟩
end PySem.AutoSeq1
namespace M
open PySem PySem.Spec L2
open PyProof.Rows hiding St
section
variable {X:Cx}
def Go:R2:=λx y H Q=> ∃l k a,x= .ref l/\y= .int k/\H l=some (.ak a)/\k=1/\Q (.ref l) H
def jeu:ck X (gw .Mult) Go:=by
 intro j s N H x y v u Q I o p h;obtain ⟨l,k,O,rfl,rfl,w,rfl,q⟩:=h;cases o;obtain ⟨t,rfl⟩:=p;obtain ⟨a,r,⟨ob,e,B,n,E⟩,z⟩:=I.tuple (.of w);obtain ⟨U,c,J,d⟩:=ob;have g:=B;have i:=E;subst g i
 refine E5 (by decide) ⟨_,e,rfl⟩ (λL=>sq L 1 t) ym F.fills_int_mul xi QY F.slot_int_index.lookup
  (pK xi (sq s 1 t) F.entry_int_rmul (F.args_int_rmul_2 _ _) (JA 1 t l a.toArray n c d)
   ⟨e,rfl,⟨_,e,rfl⟩,pK C3 ⟨_,e,rfl⟩ F.entry_tuple_mul (F.args_tuple_mul_2 _ _) (AutoSeq1.lW l a.toArray n c d t) ⟨e,?_⟩⟩)
 exact ⟨.ref l,H,I,rfl,q⟩
def zK:D->D->al D
 | .ak a,.int k=>if k=1 then .ok (.ak a) else aY (2<=k/\k<1000000/\a.isEmpty=false/\a.length*k.toNat<=aP) (.ok (.ak (dq k.toNat a).flatten))
 |_,_=> .aj
def vN:ck X (gw .Mult) (λx y H Q=>C4 X.K x y H Q\/Go x y H Q):=pT.or jeu
def vP {K:aC}:sE K (λx y H Q=>C4 K x y H Q\/Go x y H Q) zK:=by
 intro A x y H a b d Q g j e q;unfold zK at e
 split at e
 . rename_i r k
   by_cases h:k=1
   . rw [if_pos h] at e;cases e;cases j.cL;have i:=g;obtain ⟨p,u,rfl,l,v⟩:=g.dH;refine .inr ⟨p,k,u,rfl,rfl,l,h,q _ H (ao.refl H) (i.aE rh) λc e o n m=>?_⟩;cases e;rw [l] at n;cases n;exact m
   . rw [if_neg h] at e;exact .inl (Th A x y H _ _ d Q g j (show sX (.ak r) (.int k)=_ from e) q)
 . cases e
def yX:gh X [] (zd bF):=iD.x jR
end
section
variable {X:Cx} {k:Nat} {x:Str} {N:List Str} {O:Bool} {F:TX} {e:Expr} {U:List Expr} {p Y:Pos} {g:TY}
def fQ.s (h:fQ X .t e f):fQ X .s e f:=by
 with_unfolding_all exact (PE.imp h λi H Q=>by
  rintro ⟨G,a,env,k,q⟩;rcases q with ⟨d,e1,q⟩|z
  . exact ⟨G,a,env,k,.inl ⟨d,e1,λv c s r _=>q v c s r trivial⟩⟩
  . exact ⟨G,a,env,k,.inr z⟩)
def fT.f9 (A:fT X.prog X.w X.K X.mg X.af k x N O F) (hr:aI k X.A) (d:DA X .s (e::U) g) (i:N.length=n:=by rfl) (hg:Gl X x:=by rfl) (a:YU x:=by decide)
  (j:UO X e U:=by exact jm rfl) (c:UN X Y U:=by exact jS rfl):fQ X .s (.Call (.Name x p) (e::U) [] Y) (zt n F g):=by
 have h:=fT.call (p:=p) A hr d i hg a j c
 cases O with
 |true=>exact fQ.s h
 |false=>exact h
end
def zT (t:TW) (g:TZ):D->Sl->al aT:=λd c=>match t d c with
 | .ok a=>g a
 |_=> .aj
noncomputable def eh (f:TY) (t:TW) (g:TZ):Sl->al aT:=λa=>match f a with
 | .ok c=>bh (zT t g) c a
 |_=> .aj
def KG (hp:qO (model X.prog X.w) X.A X.env X.xe) (hc:X.bM=true) (hi:DI X tg e fi) (hg:DG X tg t) (hb:gh X body g)
   (hs: ∀x,pv e X.env x=pure x:=by intro _;rfl):lV X (.For tg e body [] pos) (eh fi t g):=by
 with_unfolding_all exact (
  PS.imp (vH hp hc hi hg hb hs) λE σ H=>by
   rintro ⟨G,O,r,k,q⟩;have key: ∃j,fi r= .ok j/\eh fi t g r=bh (zT t g) j r:=by
     cases e1:fi r with
     |ok j=>exact ⟨j,rfl,by unfold eh;rw [e1]⟩
     |_=>
       have z:eh fi t g r= .aj:=by unfold eh;rw [e1]
       rcases q with ⟨o,h,_⟩| ⟨c,h,_⟩<;>(rw [z] at h;cases h)
   obtain ⟨j,e1,e2⟩:=key;rw [e2] at q;generalize Gp:bh (zT t g) j r=res at q;refine ⟨G,O,r,j,k,e1,λJ H1 P sm wk p0 pO=>?_⟩;have k1:=k.am sm
   have B:(∃o,res= .ok o/\mM X.K G O r σ H1 E o)\/ ∃c,res= .exc c/\MN X c O:=by
     rcases q with ⟨o,h,q⟩|z
     . exact .inl ⟨o,h,Jg (a9.refl sm) q⟩
     . exact .inr z
   refine ⟨λi m w Q=>m=j.length-i/\i<=j.length/\ ∃a,ax X.K G O a w Q/\a9 r σ H1 a w Q/\bh (zT t g) (j.drop i) a=res,⟨j.length,by simp,i8 _,r,k1,a9.refl (ao.refl H1),by simpa using Gp⟩,?_⟩;rintro i m w Q ⟨rfl,hi,a,k',f',e'⟩;obtain ⟨w1,w2,w3⟩:=wk i Q (pO a w Q f')
   by_cases hd:i<j.length
   . refine .inr ⟨w1 hd,?_⟩;rw [xS hd] at e'
     have I:(zT t g j[i] a>>=λo=>match o with
       | .nx a=>bh (zT t g) (j.drop (i+1)) a
       | .ct a=>bh (zT t g) (j.drop (i+1)) a
       | .bk a=> .ok (.nx a)
       | .rt fr d=> .ok (.rt fr d))=res:=e'
     have Gq: ∃l,t j[i] a= .ok l/\zT t g j[i] a=g l:=by
       cases e5:t j[i] a with
       |ok l=>exact ⟨l,rfl,by unfold zT;rw [e5]⟩
       |_=>
         have z:zT t g j[i] a= .aj:=by unfold zT;rw [e5]
         rw [z] at I;have u:=I.symm;rcases B with ⟨o,h,_⟩| ⟨c,h,_⟩<;>(rw [u] at h;cases h)
     obtain ⟨l,e5,e6⟩:=Gq;rw [e6] at I;refine ⟨λv U=>j.length-(i+1)=j.length-(i+1)/\i+1<=j.length/\ ∃n,ax X.K G O n v U/\a9 r σ H1 n v U/\bh (zT t g) (j.drop (i+1)) n=res,λv U z=>⟨j.length-(i+1),by omega,z⟩,λx U y=>?_⟩
     obtain ⟨pX,rd⟩:ao Q U/\aL X.K (Sf G a w) U x j[i]:=by
       rcases w2 _ (cU hd) x U y with ⟨rfl,rd⟩| ⟨p,vs,es,hp,rfl,rfl,ed,sI⟩
       . exact ⟨ao.refl _,f'.rep k1 rd⟩
       . refine ⟨ao.aH hp,?_⟩;rw [ed];exact .ak ju ((f'.sF k1 sI).am (ao.aH hp))
     refine ⟨G,O,a,j[i],l,k'.am pX,rd,e5,λpN A8 A9=>⟨G,O,l,A8,?_⟩⟩;have Y:=(f'.trans (a9.refl pX)).trans A9
     cases eg:g l with
     |aj=>
       rw [eg] at I;have u:=I.symm;rcases B with ⟨o,h,_⟩| ⟨c,h,_⟩<;>(rw [u] at h;cases h)
     |exc c1=>
       rw [eg] at I;have u:=I.symm;rcases B with ⟨o,h,_⟩| ⟨c,h,th⟩
       . rw [u] at h;cases h
       . rw [u] at h;cases h;exact .inr ⟨c1,rfl,th⟩
     |ok o1=>
       rw [eg] at I;refine .inl ⟨o1,rfl,?_⟩
       cases o1 with
       |nx n=>exact λv H3 L N=>⟨rfl,hd,n,L,Y.trans N,I⟩
       |ct n=>exact λv H3 L N=>⟨rfl,hd,n,L,Y.trans N,I⟩
       |bk n=>
         have u:=I.symm;rcases B with ⟨o,h,B⟩| ⟨c,h,_⟩
         . rw [u] at h;cases h;exact λv H3 L N=>B v H3 L (Y.trans N)
         . rw [u] at h;cases h
       |rt fr dd=>
         have u:=I.symm;rcases B with ⟨o,h,B⟩| ⟨c,h,_⟩
         . rw [u] at h;cases h;exact B
         . rw [u] at h;cases h
   . have he:i=j.length:=by omega
     refine .inl ⟨w3 (by omega),?_⟩;rw [Ba (by omega)] at e';have u:=e'.symm;rcases B with ⟨o,h,B⟩| ⟨c,h,_⟩
     . rw [u] at h;cases h;exact B w Q k' f'
     . rw [u] at h;cases h)
end M
namespace M
open PySem PySem.Spec PySem.W PySem.Calls
open PyProof.Rows hiding St
open Builtin Builtin.ObjectAttr Builtin.Getset_descriptor
section
variable {prog:bB} {w:World} {A:bH} {E:Vh} {h:Heap} {g:Array GenState} {d:Drawn} {t:Nat} {os:OsState} {a C:Addr} {o:Obj} {K:Frag}
def jdV (X:K.In h) (c:h.get? a=some o) (e:o.cls= .ref C) (i:mroIn K C (.type "object")=some true) (j:R (.ok (.ret (.ref C))) ⟨h,g,d,t,os⟩):
  nQ (model prog w) A (.call (.builtin "getset_descriptor.__get__") ⟨[.builtin "object.__class__",.ref a,l],[]⟩) R ⟨h,g,d,t,os⟩:=by
 have n:Looks (model prog w) h (typeOf (.ref a)) (.ref C):=e▸(tx c).andThen .now;have p:=looks_mroIn (M:=model prog w) X i;refine codeAny_call_builtin KF.slot_gs.plain KF.entry_gs (KF.slot_gs.check _ _ _ _ _ _ _ _ KF.type_class (KF.args_gs _ _ _) ?_);unfold g9.«getset_descriptor.__get__» descrGet;rw [dga_obj];refine ay (aZ ?_);unfold descrGetter descrCheckInstance descrNameAndClass isInstance;simp only [KF.owner_class]
 repeat lk
 refine ⟨Code.quiet_builtin _ (by decide+kernel),codeAny_builtin KF.entry_class ?_⟩;unfold g9.«object.__class__» shownTypeOf
 repeat lk
 exact j
def ja3 (X:K.In h) (e:gW K (.ref C) "__class__" =some (some (.builtin "object.__class__"))) (i:AK K (.builtin "object.__class__") "__get__" =some (some (.builtin "getset_descriptor.__get__"))) (c:takesIn K (.builtin "object.__class__")=some true):
  Looks (model prog w) h (find (.ref a) (.ref C) "__class__") (.bind (.builtin "getset_descriptor.__get__") (.builtin "object.__class__")):=
 (CH X e).andThen ((show Looks (model prog w) h (getOf (some (.builtin "object.__class__"))) (some (.builtin "getset_descriptor.__get__")) from looks_specialIn X i).andThen
  ((show Looks (model prog w) h (dataDescriptor? (some (.builtin "object.__class__")) (some (.builtin "getset_descriptor.__get__"))) (some (.builtin "getset_descriptor.__get__",.builtin "object.__class__")) from (looks_takesIn X c).andThen .now).andThen (Looks.tag .now)))
def uS (X:K.In h) (e:h.get? a=some o) (i:o.cls= .ref C) (j:mroIn K C (.type "object")=some true)
  (l:gW K (.ref C) "__class__" =some (some (.builtin "object.__class__"))) (n:AK K (.builtin "object.__class__") "__get__" =some (some (.builtin "getset_descriptor.__get__"))) (c:takesIn K (.builtin "object.__class__")=some true)
  (p:Q (.done (.ret (.ref C))) ⟨h,g,d,t,os⟩):wpAny (model prog w) A (g9.«object.__getattribute__» ⟨[.ref a,.str "__class__" u],[]⟩) Q E ⟨h,g,d,t,os⟩:=by
 have q:Looks (model prog w) h (typeOf (.ref a)) (.ref C):=i▸(tx e).andThen .now;have r:=ja3 (prog:=prog) (w:=w) (a:=a) X l n c;refine ay (aZ ?_);refine ay (aZ ?_);refine ay (q.at ?_);refine ay (r.at ?_);exact ay (iy (wm (jdV X e i j (aZ p))))
def ja4 (X:K.In h) (u:h.get? a=some o) (v:o.cls= .ref C) (z:mroIn K C (.type "object")=some true) (B:subIn K (.ref C) (.type "BaseException")=some true)
  (H:gW K (.ref C) "__class__" =some (some (.builtin "object.__class__"))) (I:AK K (.builtin "object.__class__") "__get__" =some (some (.builtin "getset_descriptor.__get__"))) (n:takesIn K (.builtin "object.__class__")=some true)
  (J:R (.ok (.ret (.ref C))) ⟨h,g,d,t,os⟩):nQ (model prog w) A (.call (.builtin "BaseException.__getattribute__") ⟨[.ref a,.str "__class__" p],[]⟩) R ⟨h,g,d,t,os⟩:=by
 have L:Looks (model prog w) h (typeOf (.ref a)) (.ref C):=v▸(tx u).andThen .now;have N:Looks (model prog w) h (isSubtype (.ref C) (.type "BaseException")) true:=looks_subIn X B;refine codeAny_call_builtin F.excAttr_ValueError.ga.plain F.entry_bexc_ga ?_;have O:builtinKind "BaseException.__getattribute__" =some .slot:=by kernel_rfl
 have q:splitId "BaseException.__getattribute__" =some ("BaseException", "__getattribute__"):=by kernel_rfl
 have Q:Looks (model prog w) h (isInstance (.ref a) (.type "BaseException")) true:=L.andThen N;have i:=F.args_bexc_ga (.ref a) (.str "__class__" p);simp only [checkBuiltinCall,O,q];refine ay (Q.at ?_);simp
 have c:wpAny (model prog w) A.in1 (g9.«object.__getattribute__» ⟨[.ref a,.str "__class__" p],[]⟩) (λc l=>match c with| .done f=>R (.ok f) l| .again y=>y.quiet=true/\nQ (model prog w) A y R l) (λe l=>R (.error e) l) ⟨h,g,d,t,os⟩:=
  uS X u v z H I n J
 cases j:Manifest.signature? "BaseException.__getattribute__" with
 |none=>exact aZ c
 |some r=>
  simp only [argsOk,j] at i;have U:=i;show wpAny _ _ (Bind.checkArgs "BaseException.__getattribute__" r ⟨[.ref a,.str "__class__" p],[]⟩) _ _ _;rw [U];exact aZ c
structure gj (K:Frag) (C:Addr):Prop where
 cls:(clsIn K C).isSome=true
 obj:mroIn K C (.type "object")=some true
 af:subIn K (.ref C) (.type "BaseException")=some true
 aw:gW K (.ref C) "__class__" =some (some (.builtin "object.__class__"))
 get:AK K (.builtin "object.__class__") "__get__" =some (some (.builtin "getset_descriptor.__get__"))
 tak:takesIn K (.builtin "object.__class__")=some true
 ga:gW K (.ref C) "__getattribute__" =some (some (.builtin "BaseException.__getattribute__"))
 hk:gW K (.ref C) "__getattr__" =some none
def ja5 (X:K.In h) (c:gj K C) (e:h.get? a=some o) (i:o.cls= .ref C) (j:Q (some (.ref C)) ⟨h,g,d,t+1,os⟩):wpAny (model prog w) A (getAttr? (.ref a) "__class__") Q E ⟨h,g,d,t,os⟩:=by
 have l:Looks (model prog w) h (typeOf (.ref a)) (.ref C):=i▸(tx e).andThen .now;have n:=CH (M:=model prog w) X c.ga;have L2:=CH (M:=model prog w) X c.hk;unfold getAttr? getAttrBy? getAttrBy;refine ay (wpAny_mkText (ay (yT (iy (ay (l.at (ay (n.at ?_))))))));unfold getAttrByItsOwn hookBefore;refine ay (L2.at ?_);refine ay (yT (iy ?_));show wpAny _ _ (boundAndCalled _ _ _) _ _ _;unfold boundAndCalled;rw [F.excAttr_ValueError.ga.bind (.ref a)];refine ay (aZ ?_);exact wm (ja4 X e i c.obj c.af c.aw c.get c.tak (aZ (aZ j)))
def jeL (c:gj K C):KitX K (.ref a) (.ref C) (λh=> ∃o,h.get? a=some o/\o.cls= .ref C) where
 ty:=λ_ _ _ ⟨o,j,l⟩=>l▸(tx j).andThen .now
 it:=λ_ _ X _=>by
  obtain ⟨p,i⟩:=EV.mp c.cls;unfold clsIn at i
  split at i
  . rename_i y B r u j;intro J L N O k q;unfold isType loadHead;exact ay (wpAny_loadPart (k _ _ (X _ _ j)) (aZ q))
  . cases i
 ne:=λh U dd H n Y X v=>by
  obtain ⟨p,i⟩:=EV.mp c.cls;refine Bool.eq_false_iff.mpr λq=>?_
  have e:=Value.ref.inj (beq_iff_eq.mp q);subst e;unfold clsIn at i
  split at i
  . rename_i y B r u j;have z:=(X _ _ j).symm.trans v;cases z
  . cases i
 ca:=λ{prog w A E Q s} X I k=>by
  obtain ⟨o,j,l⟩:=I;obtain ⟨h,g,d,t,os⟩:=s;exact ja5 X c j l k
end
section
open L2
variable {X:Cx}
def jfz (d:List (Str×Bool)) (h: ∀u,aO cV u->u=i) (j: ∀c b,d.lookup c=some b-> ∀C,eT X.K c C->gj X.K C/\lJ X.K (.ref C) i=some b):
  bC X (.builtin "isinstance") (λe H Q=> ∃x c b,e=[x,cV]/\aL X.K Any H x (.du c)/\d.lookup c=some b/\Q (.bl b) H):=by
 rintro g s σ H e us Q I r ⟨x,c,b,l,n,p,q⟩;subst l;obtain ⟨u,v,rfl,w,y⟩:=AE r;cases h v y
 cases n with
 | @du _ _ a B C o _ E J L=>
  cases (show u=cX a from w);obtain ⟨N,_⟩:=(show a6 X.prog X.w H s.heap a (.bE o (.aw B)) from I.aV a _ E)
  obtain ⟨O,U⟩:=j c b p C L;exact nz (jeL O) I.eD ⟨o,N,J⟩ U (λz=>nomatch z) λY=>⟨.bl b,H,I.tok Y,rfl,q⟩
noncomputable def tz (a:List (Str×Bool)):D->al D
 | .du c=>match a.lookup c with
  |some b=> .ok (.bl b)
  |none=> .aj
 |_=> .aj
def fU (a:List (Str×Bool)) (f:T1):Sl->al D:=λc=>f c>>=tz a
def jeO (h:tz e a= .ok d): ∃c b,a= .du c/\e.lookup c=some b/\d= .bl b:=by
 unfold tz at h
 split at h
 . split at h
   . rename_i b g;cases h;exact ⟨_,b,rfl,g,rfl⟩
   . cases h
 . cases h
def YE (g:List (Str×Bool)) (Ty:Str) {l':Lv} {p h i:Pos} (E: ∀c b,g.lookup c=some b-> ∀C,eT X.K c C->gj X.K C/\lJ X.K (.ref C) (.ref j)=some b) (I:DE X l e f)
   (J:Gl X "isinstance") (L:X.mg "isinstance" =none) (n:Gl X Ty) (o:X.mg Ty=some (.ref j))
   (N:YU Ty:=by decide) (B:bb [e,.Name Ty h] X.env=(false,eval e X.env)::bb [.Name Ty h] X.env:=by exact jm rfl)
   (w:bb [.Name Ty h] X.env=(false,eval (.Name Ty h) X.env)::bb [] X.env:=by exact jm rfl) (y:(dL i (bb [.Name Ty h] X.env)).any (·.1)=false:=by exact jS rfl):
   DE X l' (.Call (.Name "isinstance" p) [e,.Name Ty h] [] i) (fU g f):=by
 with_unfolding_all exact (
  PE.imp (Q4 (jfz g (cV:= .ref j) (λu r=>r) E) J L boot_isinstance (qc I (qc (U0 (v:= .ref j) n o rfl N) wo w) B) (by decide) (by decide) B y) λσ H Q=>by
   rintro ⟨G,O,z,d,k,U,q⟩;obtain ⟨a,e1,e2⟩:=jd U;refine ⟨G,O,z,a,k,e1,λv Y s r _=>?_⟩;obtain ⟨c,b,rfl,hc,rfl⟩:=jeO e2
   exact ⟨v,c,b,rfl,r.aE Lv.bf,hc,q _ Y s (.bl b) (lv (K:=X.K) b).T⟩)
end
end M
namespace M
open PySem PySem.Spec L2
open PyProof.Rows hiding St
def fT.av {P:bB} {w:World} {K:aC} {mg:Vj} {af:Heap} {k:Nat} {x:Str} {a:List Str} {c:Bool} {F:TX} (h:fT P w K mg af k x a c F):Av P w K mg af k x a c (λds=>hI (F ds)):=by
 obtain ⟨f,j,G,b⟩:=h.ex;refine ⟨f,j,⟨λg H Q E ⟨B,ds,d,hl,_⟩=>hl,λA outer s H args l g Q E hr n o p u=>?_⟩,b⟩;obtain ⟨B,ds,d,hl,r,e,q⟩:=u;refine pB (G.run A outer s H args l g Q (λ_ _ _=>False) hr n o p ⟨B,ds,hl,r,.inl ⟨d,Yn e,q⟩⟩) λr y i=>?_
 cases r with
 |error e=>
  obtain ⟨_,_,_,_,_,_,_,_,_,_,_,_,_,z⟩:=i;exact z.elim
 |ok v=>cases v<;>exact i
section
variable {prog:bB} {w:World} {A:bH} {E:Vh} {s:aM} {it t:Addr} {i:Nat} {items:Array Value} {Q:Vh}
def WJ (a:s.heap.IsTupleIter it t i) (j:s.heap.IsTuple t items) (l:items[i]?=some x) (n: ∀e,e.IsTupleIter it t (i+1)->ph it s.heap e->Q x {s with heap:=e}):
  wpAny (model prog w) A (rA (.ref it)) Q E s:=by
 obtain ⟨o,d,p,c⟩:=id a;obtain ⟨q,g,_,r,h⟩:=j;unfold rA
 refine ay (rc a.typeIs Dk (nT Dk a.typeIs F.entry_tuple_iterator_next
  (show wpAny _ _ (field (.ref it) 0>>=_) _ _ s from ay (gx d c rfl (show wpAny _ _ (if (cX t==iq)=true then _ else _) _ _ s from ?_))) (F.args_tuple_iterator_next_1 _)))
 rw [if_neg (show¬((cX t==iq)=true) from gd)];refine (show wpAny _ _ (field (.ref it) 1>>=_) _ _ s from ay (gx d c rfl (show wpAny _ _ (seqItems? (.ref t)>>=_) _ _ s from ay (rB g h ?_))));simp only [rb,l];exact ay (rj d c (by simp) (aZ ⟨x,rfl,aZ (n _ ⟨_,BA _ d (BB (rk c _)),(F0 ..).trans p,by rw [rk c];simp [fK]⟩ (Dd ..))⟩))
def KB (l:A.handled=none) (a:s.heap.IsTupleIter it t i) (n:s.heap.IsTuple t items) (p:items[i]?=none)
  (q: ∀c e,Heap.ExtBut it s.heap c->(∃o,c.get? e=some o/\o.cls= .type "StopIteration")->E (.ref e) {s with heap:=c}):
  wpAny (model prog w) A (rA (.ref it)) Q E s:=by
 obtain ⟨o,d,r,g⟩:=id a;obtain ⟨u,h,_,v,j⟩:=n;unfold rA
 refine ay (rc a.typeIs Dk (nT Dk a.typeIs F.entry_tuple_iterator_next
  (show wpAny _ _ (field (.ref it) 0>>=_) _ _ s from ay (gx d g rfl (show wpAny _ _ (if (cX t==iq)=true then _ else _) _ _ s from ?_))) (F.args_tuple_iterator_next_1 _)))
 rw [if_neg (show¬((cX t==iq)=true) from gd)];refine (show wpAny _ _ (field (.ref it) 1>>=_) _ _ s from ay (gx d g rfl (show wpAny _ _ (seqItems? (.ref t)>>=_) _ _ s from ay (rB h j ?_))));simp only [rb,p];refine ay (sW (ay (rj d g (by simp) (show wpAny _ _ (newExc (.type "StopIteration") []>>=_) _ _ _ from ay ?_))));simp only [newExc,newTuple];refine ay (mq (ay (wpAny_of_eq (by first|rfl| (simp;rfl)) (mq ?_ (by size_fits)))) (by size_fits));simp only [raiseNew];refine ay (wpAny_handled ?_);rw [show A.in1.handled=none from l];exact ay (aZ (wpAny_throw (q _ _ (((Dd ..).extBut.push _).push _) ⟨_,c9 _ rfl,rfl⟩)))
def jdb (p:A.handled=none) (it l:Addr) (d:l≠it) (items:Array Value):Draws prog w A it [it,l] items.size (λi v=>items[i]?=some v) (λi h=>h.IsTupleIter it l i/\h.IsTuple l items) where
 live:=λ_ _ st=>let ⟨o,g,_⟩:=st.1;⟨o,g⟩
 frame:=λ_ _ _ st j=>⟨st.1.at λo e=>j it (by simp) o e,let ⟨o,g,r⟩:=st.2;⟨o,j l (by simp) o g,r⟩⟩
 item:=λi s Q E n st q=>WJ st.1 st.2 (x:=items[i]) (by simp [n]) λu a c=>q _ u s.toks (by simp [n]) ⟨a,st.2.extBut c.extBut d⟩ c
 done:=λs Q E st y=>KB p st.1 st.2 (by simp) y
def jfo (d:A.handled=none) (it l:Addr) (items:Array Value) (i:Nat) (p:items.size<=i):Draws prog w A it [it,l] i (λ_ _=>True) (λj h=>j=i/\h.IsTupleIter it l j/\h.IsTuple l items) where
 live:=λ_ _ st=>let ⟨o,a,_⟩:=st.2.1;⟨o,a⟩
 frame:=λ_ _ _ st c=>⟨st.1,st.2.1.at λo e=>c it (by simp) o e,let ⟨o,a,r⟩:=st.2.2;⟨o,c l (by simp) o a,r⟩⟩
 item:=λj s Q E g st q=>absurd st.1 (dJ g)
 done:=λs Q E st n=>KB d st.2.1 st.2.2 (by simp;omega) n
end
open AutoSeq1 (wpAny_loadPart') in
theorem jc6 (l:Addr) (a:Array Value) (n:Nat) (i:Option Addr) (q:Array (Option Value)):
  PySem.Meets (g9.«enumerate.__new__» ⟨[.type "enumerate",.ref l],[]⟩) (λ_ R s=>s.heap.get? l=some {cls:= .type "tuple",dict:=i,data:= .seq a n,slots:=q}/\
    R (.ok (.ret (.ref (s.heap.push {cls:= .type "tuple_iterator",data:= .fields #[.ref l,.int 0 0]}).objs.size)))
     {s with heap:=(s.heap.push {cls:= .type "tuple_iterator",data:= .fields #[.ref l,.int 0 0]}).push {cls:= .type "enumerate",data:= .fields #[.none,.bool false,.ref s.heap.objs.size,fK 0,.none,.none]}}):=
 .of_wp λj w A R s h=>by
  obtain ⟨r,g,d,tk,os⟩:=s;obtain ⟨e,h⟩:=h;have o:=sub_enumerate;have p:Heap.IsTuple (Shared.heap ⟨r,g,d,tk,os⟩) l a:=⟨_,e,rfl,n,rfl⟩
  wp_walk using sJ e
  refine wpAny_stack_any λst=>aZ ?_
  split
  . rename_i c _ _ _ _ _;cases (c==vc "enumerate")<;>(wp_walk using sJ e,A7 p;exact ⟨_,rfl,h⟩)
  . wp_walk using sJ e,A7 p
    exact ⟨_,rfl,h⟩
section
variable {prog:bB} {w:World} {A:bH} {E:Vh} {s:aM}
def jaR (r:s.heap.IsTuple l a)
  (h: ∀d,IsEnum d (s.heap.objs.size+1) s.heap.objs.size 0 .none->d.IsTupleIter s.heap.objs.size l 0->(∀b o,s.heap.get? b=some o->d.get? b=some o)->Q (.ref (s.heap.objs.size+1)) {s with heap:=d}):
  wpAny (model prog w) A (call (.type "enumerate") [.ref l]) Q E s:=by
 obtain ⟨⟨c,g,dt,u⟩,v,y,n,z⟩:=r;cases (show c= .type "tuple" from y);cases (show dt= .seq a n from z);refine callType_new F.called_enumerate (by decide) (F.typeCall_enumerate_1 _) (F.newCall_enumerate_1 _) (λobj=>F.args_object_init_2 obj _) F.entry_enumerate_new (jc6 l a n g u) ⟨v,?_⟩;generalize i:s.heap.push {cls:= .type "tuple_iterator",data:= .fields #[.ref l,.int 0 0]}=e;have q:e.objs.size=s.heap.objs.size+1:=by rw [<-i];exact o3 ..
 have j:e.get? s.heap.objs.size=some {cls:= .type "tuple_iterator",data:= .fields #[.ref l,.int 0 0]}:=by rw [<-i];exact c9 _ rfl
 have B: ∀b o,s.heap.get? b=some o->e.get? b=some o:=λb o x=>by rw [<-i];exact bI _ x
 have p:=c9 e (o:={cls:= .type "enumerate",data:= .fields #[.none,.bool false,.ref s.heap.objs.size,fK 0,.none,.none]}) rfl;rw [q] at p;rw [q];exact ⟨⟨_,p,rfl⟩,h _ p ⟨_,bI _ j,rfl,rfl⟩ λb o x=>bI _ (B b o x)⟩
end
def Gr (K:aC) (a:Addr) (c:List V):It:=⟨λi H=>eQ K H a c/\i<c.length,λi H v d=> ∃p x,H p=none/\c[i]?=some x/\v= .ref p/\d=aH H p (.ak [.int (i:Int),x]),λi H=>eQ K H a c/\c.length<=i⟩
def uX {K:aC} (a d e:Addr) (xs:List V) (B:e≠d) (hai:a≠d) (hae:a≠e):Turn P w K (.Tuple elts n pos) (Gr K a xs) [e,d] e (λi h=>(∃g,IsEnum h e d (i:Int) g)/\h.IsTupleIter d a i) where
 mem:=by simp
 obj:=λi h st b r=>by
  obtain ⟨⟨g,q⟩,o,ho,hc,hd⟩:=st;simp at r;rcases r with rfl|rfl
  . exact ⟨_,q,λv z=>by cases z⟩
  . exact ⟨o,ho,λv z=>by rw [hd] at z;cases z⟩
 keep:=λi h h' st k=>by
  obtain ⟨⟨g,q⟩,j⟩:=st;exact ⟨⟨g,k e (by simp) _ q⟩,j.at λo x=>k d (by simp) o x⟩
 item:=by
  intro X hP hw hK hc i c s σ H E I N st hg;subst hP hw hK;obtain ⟨hq,hi⟩:=hg;obtain ⟨l,rv,p,hz⟩:=I.tuple hq;have hx:=cU hi;obtain ⟨u,hu,ru⟩:=rv.get hx;obtain ⟨⟨g,q⟩,j⟩:=st;have fe:=N e (by simp);have fi:=N d (by simp);have hl:=rv.length;refine wpAny_pyNext_enum_itemD (jdb (A:=X.A.in1) (I.ok.hd hc) d a hai l.toArray) q ⟨j,show s.heap.IsTuple a l.toArray from p⟩ (by simp;omega) B (by simp [B,gm hae]) λx h' tk px ho st' hT zJ hk=>?_
  have hxu:x=u:=by
    have:l.toArray[i]?=some u:=by simpa using hu
    rw [this] at px;exact (fY px).symm
  subst hxu;refine ⟨_,rfl,wpAny_letOwnedTupleGo_enum ho λoa tm O=>?_⟩;have Q:=bO q;have U:d<s.heap.objs.size:=by obtain ⟨_,x,_⟩:=j;exact bO x
  have ly:=I.aV.fresh (bg _)
  have I1:aA X c σ (aH H s.heap.objs.size (.ak [.int (i:Int),xs[i]])) {s with heap:=s.heap.push {cls:= .type "tuple",data:= .seq #[.int i tk,x]}}:=
    I.laid (λb o e=>bI _ e) (bg _) ⟨dG (show 2<=20 by decide) (by decide),[.int i tk,x],.cons ⟨_,rfl⟩ (.cons ru .nil),⟨_,c9 _ rfl,rfl,_,rfl⟩⟩
  have Y:cZ X c (aH H s.heap.objs.size (.ak [.int (i:Int),xs[i]])) e:=⟨by rw [jF (dJ Q)];exact fe.1,fe.2⟩
  have BE:cZ X c (aH H s.heap.objs.size (.ak [.int (i:Int),xs[i]])) d:=⟨by rw [jF (dJ U)];exact fi.1,fi.2⟩
  have I2:=yQ (t':=tk+1) I1 (λb o J L eo=>by
    refine (O.2 b J).trans ?_
    by_cases r:b=s.heap.objs.size
    . subst r;rw [c9 _ rfl] at eo;rw [<-eo];exact hT
    . have tp:s.heap.get? b=some o:=by
       rcases Df eo with ⟨z,_⟩|z
       . exact absurd z r
       . exact z
      exact hk b o J L tp) Y BE
  refine ⟨.ref s.heap.objs.size,_,I2,rfl,⟨_,_,ly,hx,rfl,rfl⟩,⟨⟨_,by simpa using tm⟩,st'.1.at λo y=>(O.2 d B.symm).trans y⟩,λb r=>?_⟩;simp at r;rcases r with rfl|rfl
  . exact Y.1
  . exact BE.1
 done:=by
  intro X hP hw hK hc i c s σ H E I N st hg;subst hP hw hK;obtain ⟨hq,hi⟩:=hg;obtain ⟨l,rv,p,hz⟩:=I.tuple hq;obtain ⟨⟨g,q⟩,j⟩:=st;have hl:=rv.length;refine wpAny_pyNext_enum_endD (jfo (A:=X.A.in1) (I.ok.hd hc) d a l.toArray i (by simp;omega)) q ⟨rfl,j,show s.heap.IsTuple a l.toArray from p⟩ λh' eb=>⟨rfl,yQ I (λb o J L eo=>eb b o L eo) (N e (by simp)) (N d (by simp))⟩
 self:=λ_ _ _ _ _ st h=>let ⟨⟨_,q⟩,_⟩:=st;Dg q h
section
variable {X:Cx} {elts:List Expr} {n:Nat} {gX p pos:Pos} {e:Expr} {f:T1}
def Dl (f:T1):Sl->al (List D):=λa=>f a>>=λd=>match d with
 | .ak c=> .ok (jJ 0 c)
 |_=> .aj
def jfr (hg:Gl X "enumerate") (hm:X.mg "enumerate" =none) (h:DE X .s e f) (hs:bb [e] X.env=[(false,eval e X.env)]:=by rfl):DI X (.Tuple elts n gX) (.Call (.Name "enumerate" p) [e] [] pos) (Dl f):=by
 have hE:PE X e (tE X.K .s f):=by with_unfolding_all exact h
 with_unfolding_all exact (show PI X (.Tuple elts n gX) (.Call (.Name "enumerate" p) [e] [] pos) (tI X.K (Dl f)) from by
  rintro j s B H R I ⟨G,J,c,ds,k,L,q⟩;obtain ⟨d,e1,e2⟩:=jd L
  have hA:PA X [e] (tA X.K .s λc=>f c>>=λd=> .ok [d]):=by
   have:=qc hE wo hs;rintro ps j s B H Q I ⟨G,J,c,ds,k,L,q⟩;obtain ⟨d,c1,c2⟩:=jd L;cases c2;exact this ps j s B H Q I ⟨G,J,c,d,k,c1,λv l g z _=>q [v] l g (.cons z .nil)⟩
  refine Call_ (Wr I hg hm boot_enumerate (v3 (bi (hA pos j s B H (λN l=> ∃v,N=[v]/\ao H l/\aL X.K (Sf G c B) l v d) I ⟨G,J,c,[d],k,by show (f c>>=_)=_;rw [e1];rfl,λN l g z=>by obtain ⟨v,rfl,r⟩:=z.one;exact ⟨v,rfl,g,r⟩⟩) λus g ⟨N,l,w,z,v,ev,sm,rep⟩=>?_) hs rfl));subst ev;obtain ⟨u,rfl,ru⟩:=Wx z;have k1:=k.am sm
  cases d with
  |ak es=>
   cases e2;obtain ⟨a,O,rfl,E,rs⟩:=rep.dH;cases ru;have hq:eQ X.K l a O:= .inl (.of E);obtain ⟨U,rv,pl,hz⟩:=w.tuple hq;have bQ:a<g.heap.objs.size:=by obtain ⟨o,ho,_⟩:=pl;exact bO ho
   refine jaR (show g.heap.IsTuple a U.toArray from pl) λh' he Y hk=>Dg he ?_
   have I2:=w.kept (t':=g.toks) hk;refine ⟨g.heap.objs.size+1,[g.heap.objs.size+1,g.heap.objs.size],_,_,l,rfl,I2,uX a g.heap.objs.size (g.heap.objs.size+1) O (Nat.succ_ne_self _) (dJ bQ) (dJ (Nat.lt_succ_of_lt bQ)),⟨⟨_,he⟩,Y⟩,λb hb=>?_,?_⟩
   . simp at hb;rcases hb with rfl|rfl
     . exact w.fb (o4 _) (w.aV.fresh (o4 _))
     . exact w.fb (bg _) (w.aV.fresh (bg _))
   . refine q _ l (λH=>H a=some (.ak O)) sm (λi H' pp=>?_) E λenv' gy H' fr=>fr.keep a _ E λow=>(k1.lQ ow E).elim
     have hl:=rs.length;rw [Xd];refine ⟨λhi=>⟨.inl (.of pp),by omega⟩,λd hd x H2 y=>?_,λhi=>⟨.inl (.of pp),by omega⟩⟩;obtain ⟨p,x',hp,mU,rfl,rfl⟩:=y;obtain ⟨d',F8,rd⟩:=rs.get' mU;rw [Xe,F8] at hd;cases hd;exact .inr ⟨p,_,_,hp,rfl,rfl,rfl,.cons (by rw [yD];exact .int _) (.cons rd .nil)⟩
  |_=>cases e2)
end
section
variable {X:Cx} {K:aC}
def m3:D->D->al D
 |a,.aU=> .ok (.bl (!a.oi))
 |_,_=> .aj
def MW:fJ K (λx y H Q=>y= .aU/\Q (.bl (!decide (x= .aU))) H) m3:=by
 intro x y H a b d Q c g e q;unfold m3 at e
 split at e
 . cases e;refine ⟨g.sD,?_⟩;rw [Vl c];exact q _ (lv _)
 . cases e
end
def jcp {a:Type} {v:a} {l:List (Str×a)}:f6 c ((c,v)::l)=some v:=by simp [f6]
def jco {a:Type} {v:a} {l:List (Str×a)} (h:c≠d):f6 c ((d,v)::l)=f6 c l:=by
 have:(c==d)=false:=by simpa using h
 simp [f6,this]
inductive b8 where
 |nx (env:Sl)|rt (b:Bool) (env:Sl)
abbrev At (c:L2.St) (i:Nat) (a:Addr):Prop:=c[i]?=some (some (V.ref a))
def Dn (K:aC) (G:Vi) (g:Hp) (i:Nat) (a:Addr) (env:Sl) (h:L2.St) (H:Hp) (E:Ends):b8->Prop
 | .nx c=> ∀d e,ax K G g c d e->At d i a->a9 env h H c d e->E.nx d e
 | .rt b c=> ∀d e,ax K G g c d e->At d i a->a9 env h H c d e->E.rt (.bl b) e
def MX (K:aC) (i:Nat) (g:Sl->al b8):TS:=λE d H=> ∃G e c o a,ax K G e c d H/\At d i a/\g c= .ok o/\Dn K G e i a c d H E o
@[irreducible] def tD (X:Cx) (i:Nat) (st:Stmt) (g:Sl->al b8):Prop:=PS X st (MX X.K i g)
@[irreducible] def gF (X:Cx) (i:Nat) (st:List Stmt) (g:Sl->al b8):Prop:=dM X st (MX X.K i g)
section
variable {K:aC} {G:Vi} {H0 H H':Hp} {env env':Sl} {σ gy:L2.St} {i:Nat} {a:Addr} {E:Ends}
def Z2 (f:a9 env σ H env' gy H') (q:Dn K G H0 i a env σ H E o):Dn K G H0 i a env' gy H' E o:=by
 cases o with
 |nx e=>exact λc d g h j=>q c d g h (f.trans j)
 |rt b e=>exact λc d g h j=>q c d g h (f.trans j)
def ax.anew (k:ax K G H0 env σ H) (l:env[i]?=some (.aw d)) (I:At σ i a) (p: ∀c o,c≠a->H c=some o->H' c=some o) (t:Top K (Sf G env σ) H' a r):
   ax K G H0 (env.set i (.aw r)) σ H'/\a9 env σ H (env.set i (.aw r)) σ H':=by
 have hl:i<env.length:=(ic.mp l).1;have N:zV env σ a:=⟨i,_,l,I⟩
 have same: ∀c,zV (env.set i (.aw r)) σ c->zV env σ c:=λc ⟨j,e,h1,h2⟩=>by
   by_cases z:i=j
   . subst z;exact ⟨i,d,l,h2⟩
   . exact ⟨j,e,by rw [jq z] at h1;exact h1,h2⟩
 obtain ⟨a',u,y,U⟩:=k.aw i _ l;rw [I] at u;cases u;obtain ⟨o0,J,L⟩:=U.there
 have st:fM (Sf G env σ) H H':=λc o e m=>p c o (by
   rintro rfl;rw [J] at e;cases e
   exact (m L).1 N) e
 have w: ∀c,Sf G env σ c->Sf G (env.set i (.aw r)) σ c:=λc n=>⟨λo=>n.1 (same c o),n.2⟩
 refine ⟨⟨by simp [k.len],λc o e=>?_,k.g0,λj e h=>?_,λj e h=>?_,λj O B d2 b Y q2 q3 q4=>?_⟩,⟨λc o e n=>?_,λc o=> .inl (same c o),λc e=>?_⟩⟩
 . exact p c o (by rintro rfl;rw [y] at e;cases e) (k.af c o e)
 . by_cases z:i=j
   . subst z;obtain ⟨q,_⟩:=jy h;cases q
   . rw [jq z] at h;obtain ⟨v,h1,h2⟩:=k.ah j e h;exact ⟨v,h1,h2.a5 st w⟩
 . by_cases z:i=j
   . subst z;obtain ⟨q,_⟩:=jy h;cases q;exact ⟨a,I,y,t.a5 (λ_ _ e _=>e) w λ_ e=>e⟩
   . rw [jq z] at h;obtain ⟨b,h1,h0,h2⟩:=k.aw j e h
     have hb:b≠a:=by
       rintro rfl;exact z (k.nB i j _ _ b l h I h1)
     exact ⟨b,h1,h0,h2.a5 st w λo e=>p b o hb e⟩
 . have g: ∀(j:Nat) (B:D),(env.set i (.aw r))[j]?=some (.aw B)-> ∃d0:D,env[j]?=some (.aw d0):=λj B q=>by
     by_cases z:i=j
     . subst z;exact ⟨_,l⟩
     . exact ⟨B,by rw [jq z] at q;exact q⟩
   obtain ⟨e1,z1⟩:=g j B Y;obtain ⟨e2,z2⟩:=g O d2 q2;exact k.nB j O e1 e2 b z1 z2 q3 q4
 . exact p c o (by rintro rfl;exact n N) e
 . cases z:H c with
   |none=>rfl
   |some o=>
     by_cases Q:c=a
     . subst Q;obtain ⟨o1,h1,_⟩:=t.there;rw [h1] at e;cases e
     . rw [p c o Q z] at e;cases e
end
section
variable {X:Cx} {i:Nat} {e c L:Expr} {st:Stmt} {rest U Y:List Stmt} {O:Pos} {l:Lv} {f:T1} {g N g2:Sl->al b8}
noncomputable def m5 (N g2:Sl->al b8):Sl->al b8:=λd=>N d>>=λo=>match o with
 | .nx a=>g2 a
 | .rt b e=> .ok (.rt b e)
def XN (p:tD X i st N) (r:gF X i rest g2):gF X i (st::rest) (m5 N g2):=by
 with_unfolding_all exact (dM.imp (WG p r) λE I H=>by
  rintro ⟨G,j,h,o,a,k,u,v,q⟩;obtain ⟨n,e1,e2⟩:=jd v;refine ⟨G,j,h,n,a,k,u,e1,?_⟩
  cases n with
  |nx d=>exact λw J y z B=>⟨G,j,d,o,a,y,z,e2,Z2 B q⟩
  |rt b d=>cases e2;exact q)
def Zp (a:tD X i st N):gF X i [st] N:=by
 with_unfolding_all exact (dM.imp (ZW a) λE d H q=>q)
noncomputable def BO:Sl->al b8:=λa=> .ok (.nx a)
def KH:gF X i [] BO:=by
 with_unfolding_all exact (dM.imp UU λE d H=>by
  rintro ⟨G,p,h,o,a,k,j,n,q⟩;cases n
  exact q d H k j (a9.refl (ao.refl H)))
noncomputable def BP (t:T0) (N g2:Sl->al b8):Sl->al b8:=λa=>t a>>=λb=>if b=true then N a else g2 a
def MY (n:DT X c t) (p:gF X i U N) (r:gF X i Y g2):tD X i (.If c U Y O) (BP t N g2):=by
 with_unfolding_all exact (PS.imp (vu n p r) λE v H=>by
  rintro ⟨G,h,d,o,a,k,j,u,q⟩;obtain ⟨b,e1,e2⟩:=jd u;refine ⟨G,h,d,b,k,e1,λw s=>?_⟩
  cases b with
  |true=>
   rw [if_pos rfl] at e2 ⊢;exact ⟨G,h,d,o,a,k.am s,j,e2,Z2 (a9.refl s) q⟩
  |false=>
   rw [if_neg gd] at e2 ⊢
   exact ⟨G,h,d,o,a,k.am s,j,e2,Z2 (a9.refl s) q⟩)
noncomputable def ox (f:T1):Sl->al b8:=λa=>f a>>=λd=>match d with
 | .bl b=> .ok (.rt b a)
 |_=> .aj
def kK (h:DE X l e f):tD X i (.Return (some e) O) (ox f):=by
 with_unfolding_all exact (PS.imp (Q0 h) λE n H=>by
  rintro ⟨G,p,j,o,a,k,u,w,q⟩;obtain ⟨d,e1,e2⟩:=jd w
  cases d with
  |bl b=>
   cases e2;refine ⟨G,p,j,.bl b,k,e1,λv y s r _=>?_⟩;cases (r.aE (A':=Any) Lv.bf).sC;exact q n y (k.am s) u (a9.refl s)
  |_=>cases e2)
def tGI (K:aC) (i:Nat) (t:TW):TG:=λv n H Q=> ∃G o h d a,ax K G o h n H/\aL K (Sf G h n) H v d/\t d h= .ok a/\ ∀j,ax K G o a j H->a9 h n H a j H->j[i]?=n[i]?->Q j H
@[irreducible] def BQ (X:Cx) (i:Nat) (L:Expr) (t:TW):Prop:=PG X L (tGI X.K i t)
theorem uD (j:Nat) (a:j≠i) (n:X.N.Nodup) (o:X.N[j]?=some x:=by rfl) (p:Loc X.env.scope x:=by exact iC rfl)
   (u:UM X x:=by first|exact .inl rfl|exact .inr rfl|assumption):BQ X i (.Name x O) (gN j):=by
 with_unfolding_all exact (
  PG.imp (UZ n o p u) λv y H Q=>by
   rintro ⟨G,B,w,d,h,k,r,e,q⟩;cases e
   exact q _ (k.gz r) (.set (ao.refl H) λ_ _ z _=>by cases z) (jq a))
def jib {k:Nat} (I:X.bM=true) (J:BQ X i a t) (h2:BQ X i b u)
   (hs:(dO [a,b] X.env).map (·.2)=lG a X.env::(dO [b] X.env).map (·.2):=by rfl) (o:(dO [b] X.env).map (·.2)=lG b X.env::(dO [] X.env).map (·.2):=by rfl)
   (hn:(dO [a,b] X.env).length=2:=by rfl) (p:(dO [a,b] X.env).findIdx? (·.1)=none:=by rfl):BQ X i (.Tuple [a,b] k O) (M.g2 t u):=by
 with_unfolding_all exact (
  PG.imp (Ev (n:=2) I (xh J (xh h2 Y1 o) hs) hn p) λv σ H Q=>by
   rintro ⟨G,z,w,d,j,k,r,e,q⟩;unfold M.g2 at e
   split at e
   . obtain ⟨h,e1,e2⟩:=jd e;obtain ⟨a,xs,rfl,ha,rs⟩:=r.dH;obtain ⟨v1,B,rfl,r1,r2⟩:=rs.ap;refine ⟨a,_,rfl,.of ha,rfl,v1,[B],rfl,G,z,w,_,h,k,r1,e1,λpN k1 E z1=>⟨B,[],rfl,G,z,h,_,j,k1,E.rep k r2,e2,λy k2 f2 z2=>⟨rfl,q y k2 (E.trans f2) (z2.trans z1)⟩⟩⟩
   . cases e)
def Kv (t:TW) (g:Sl->al b8):List D->Sl->al b8
 | [],a=> .ok (.nx a)
 |d::n,a=>t d a>>=λh=>g h>>=λo=>match o with
  | .nx j=>Kv t g n j
  | .rt b e=> .ok (.rt b e)
noncomputable def tF (f:TY) (t:TW) (g:Sl->al b8):Sl->al b8:=λa=>f a>>=λd=>Kv t g d a
def jh3 (hp:qO (model X.prog X.w) X.A X.env X.xe) (hc:X.bM=true) (hi:DI X L e fi) (hg:BQ X i L t) (hb:gF X i U g)
   (hs: ∀x,pv e X.env x=pure x:=by intro _;rfl):tD X i (.For L e U [] O) (tF fi t g):=by
 with_unfolding_all exact (
  PS.imp (vH hp hc hi hg hb hs) λE σ H=>by
   rintro ⟨G,H0,v,o,a,k,ha,ef,q⟩;obtain ⟨u,e1,e2⟩:=jd ef;refine ⟨G,H0,v,u,k,e1,λJ H1 P sm wk p0 pO=>?_⟩;have k1:=k.am sm;have q1:Dn X.K G H0 i a v σ H1 E o:=Z2 (a9.refl sm) q;refine ⟨λj m n B=>m=u.length-j/\j<=u.length/\ ∃d,ax X.K G H0 d n B/\At n i a/\a9 v σ H1 d n B/\Kv t g (u.drop j) d= .ok o,⟨u.length,by simp,i8 _,v,k1,ha,a9.refl (ao.refl H1),by simpa using e2⟩,?_⟩;rintro j m n B ⟨rfl,hj,d,k',a',f',e'⟩;obtain ⟨w1,w2,w3⟩:=wk j B (pO d n B f')
   by_cases hd:j<u.length
   . refine .inr ⟨w1 hd,?_⟩;rw [xS hd] at e';obtain ⟨w,e5,e'⟩:=jd e';obtain ⟨o1,e6,e4⟩:=jd e';refine ⟨λr I=>u.length-(j+1)=u.length-(j+1)/\j+1<=u.length/\ ∃h,ax X.K G H0 h r I/\At r i a/\a9 v σ H1 h r I/\Kv t g (u.drop (j+1)) h= .ok o,λr I z=>⟨u.length-(j+1),by omega,z⟩,λx I y=>?_⟩
     obtain ⟨pX,rd⟩:ao B I/\aL X.K (Sf G d n) I x u[j]:=by
      rcases w2 _ (cU hd) x I y with ⟨rfl,rd⟩| ⟨p,vs,es,hp,rfl,rfl,ed,sI⟩
      . exact ⟨ao.refl _,f'.rep k1 rd⟩
      . refine ⟨ao.aH hp,?_⟩;rw [ed];exact .ak ju ((f'.sF k1 sI).am (ao.aH hp))
     refine ⟨G,H0,d,u[j],w,k'.am pX,rd,e5,λpN A8 A9 z1=>⟨G,H0,w,o1,a,A8,z1.trans a',e6,?_⟩⟩;have MZ:=(f'.trans (a9.refl pX)).trans A9
     cases o1 with
     |nx h=>exact λr H3 Q Gs Gu=>⟨rfl,hd,h,Q,Gs,MZ.trans Gu,e4⟩
     |rt b h=>cases e4;exact λr H3 Q Gs Gu=>q1 r H3 Q Gs (MZ.trans Gu)
   . refine .inl ⟨w3 (by omega),?_⟩;rw [Ba (by omega)] at e';cases e'
     exact q1 n B k' a' f')
end
def Do (i:Nat) (e g c:T1):Sl->al b8:=λa=>mX i a>>=λq=>e a>>=λh=>g a>>=λd=>match hH h with
 |some k=>aY (q.1.length<aP) (match bU q.1 q.2 k with
  |some d0=>c a>>=λw=>eO d0 w>>=λr=>match r with
   | .bl b=> .ok (.rt b a)
   |_=> .aj
  |none=>c (a.set i (.aw (.aQ (ZU q.1 k) (ZV q.1 q.2 k d))))>>=λw=>eO d w>>=λr=>match r with
   | .bl b=> .ok (.rt b (a.set i (.aw (.aQ (ZU q.1 k) (ZV q.1 q.2 k d)))))
   |_=> .aj)
 |none=> .aj
section
variable {X:Cx} {i:Nat} {x:Str} {e1 e2 e3:Expr} {p apos bY pos Gv:Pos} {l1 l3:Lv} {fk fv fw:T1}
def jeY {K:aC} (k:aR) (r:au K A H (a.map (·.2)) ds):(∀v,cf a k=some v-> ∃d,bU (a.map (·.1)) ds k=some d/\aL K A H v d)/\(cf a k=none->bU (a.map (·.1)) ds k=none):=by
 obtain ⟨j,l⟩:=W6 k r
 cases e:bU (a.map (·.1)) ds k with
 |none=>
  have:=l e;exact ⟨λv c=>(by rw [this] at c;cases c),λ_=>rfl⟩
 |some d=>
  obtain ⟨v,c,n⟩:=j d e;exact ⟨λo g=>(by rw [c] at g;cases g;exact ⟨d,rfl,n⟩),λh=>(by rw [c] at h;cases h)⟩
def jc9 (hu:X.A.units+200<cLine) (i:Nat) (hk:DE X l1 e1 fk) (hv:DE X .s e2 fv) (hw:DE X l3 e3 fw) (hN:X.N[i]?=some x:=by rfl) (Y:gM X.env.scope x:=by exact eE rfl)
   (hd:YU x:=by decide) (wE:WV x:=by decide)
   (l:nR (.Name x p) "setdefault" X.env (eval (.Name x p) X.env)=eval (.Name x p) X.env:=by rfl)
   (I:((dL bY (bb [e1,e2] X.env)).all (λx=>!x.1)&&(lK bY (lL [] X.env)).all (λx=>x.1.isSome)
    &&decide ([e1,e2].length+([]:List i3).length+(if ([]:List i3).isEmpty then 0 else 1)<30))=true:=by exact JE rfl rfl)
   (n:(apos.endLine==bY.line)=true:=by rfl) (hs:bb [e1,e2] X.env=(false,eval e1 X.env)::bb [e2] X.env:=by exact jm rfl) (h:(dL bY (bb [e2] X.env)).any (·.1)=false:=by exact jS rfl)
   (Bw:bb [e2] X.env=(false,eval e2 X.env)::bb [] X.env:=by exact jm rfl) (hm:r0 .Eq e3=false:=by first|exact EF _| (with_unfolding_all rfl)):
   tD X i (.Return (some (.Compare (.Call (.Attribute (.Name x p) "setdefault" apos) [e1,e2] [] bY) [.Eq] [e3] Gv)) pos) (Do i fk fv fw):=by
 with_unfolding_all exact (
  PS.imp (Q0 (Lj (xb hu) (AT PySem.F.plainAttrs_dict Mm PySem.F.type_dict_setdefault TU (xF (i:=i) hN Y hd wE) (qc hk (qc hv wo Bw) hs) l I n hs h) hw hm)) λE σ H=>by
   rintro ⟨G,Q,r,o,aa,k,haa,J,q⟩;obtain ⟨ks,c1,J⟩:=jd J;obtain ⟨kd,c2,J⟩:=jd J;obtain ⟨d,c3,U⟩:=jd J;have hi:=WH c1;obtain ⟨a,u,L,hx,z,rs⟩:=vM k hi
   have N:a=aa:=by
    have:=L.symm.trans haa;cases this;rfl
   subst N
   cases e:hH kd with
   |none=>rw [e] at U;cases U
   |some kk=>
    rw [e] at U;obtain ⟨hz,c⟩:=jv U;refine ⟨.ref a,L,.inr (.inr (.inl ⟨rfl,.inl ⟨u,hx⟩⟩)),G,Q,r,kd,k,c2,λy H1 g r1 _=>⟨G,Q,r,d,k.am g,c3,λv H2 j r2 _=>?_⟩⟩;have O:=j _ _ (g _ _ hx);have hy:=Xq (r1.aE (A':=Any) Lv.bf) e;subst hy;have hl:u.length<aP:=by rw [<-z,dQ] at hz;exact hz
    obtain ⟨g1,g2⟩:=jeY (K:=X.K) kk ((rs.am g).am j);rw [z] at g1 g2;refine ⟨a,u,kk,v,rfl,rfl,O,hl,λw hw=>?_,λhn=>?_⟩
    . obtain ⟨d0,hd0,rd0⟩:=g1 w hw;rw [hd0] at c;obtain ⟨wd,c6,c⟩:=jd c;obtain ⟨rr,c7,c⟩:=jd c;obtain ⟨hc,c8⟩:=jv c7;cases c8;cases c;refine ⟨G,Q,r,wd,(k.am g).am j,c6,λy H3 B r3 _=>⟨d0,wd,(rd0.am B).aE λ_ _=>trivial,r3.aE Lv.bf,hc,?_⟩⟩;exact q σ H3 (((k.am g).am j).am B) L (a9.refl (g.trans (j.trans B)))
    . rw [g2 hn] at c;obtain ⟨wd,c6,c⟩:=jd c;obtain ⟨rr,c7,c⟩:=jd c;obtain ⟨hc,c8⟩:=jv c7;cases c8;cases c;have W:=((k.am g).am j).putD (kk:=kk) hi L O z ((rs.am g).am j) r2;refine ⟨G,Q,_,wd,W.1,c6,λy H3 B r3 _=>⟨d,wd,((W.2.rep ((k.am g).am j) r2).am B).aE λ_ _=>trivial,r3.aE Lv.bf,hc,?_⟩⟩
      exact q σ H3 (W.1.am B) L (((W.2.am j).am g).trans (a9.refl B)))
end
abbrev FI:=List D->List aR->List D->al (Bool×List aR×List D)
def M0 (K:aC) (n:Nat) (F:FI):Sp:=λp H Q _=> ∃(B:Vi) (i:List D) (g:List V) (a:Addr) (j:List aR) (l:List D) (b:Bool) (d:List aR) (e:List D),p=g++[V.ref a]/\g.length=n/\au K (λc=>B c/\c≠a) H g i/\Top K (λc=>B c/\c≠a) H a (.aQ j l)/\F i j l= .ok (b,d,e)/\
 ∀h,(∀c o,c≠a->H c=some o->h c=some o)->Top K (λc=>(H c=none\/B c)/\c≠a) h a (.aQ d e)->Q (.bl b) h
structure nI (P:bB) (w:World) (K:aC) (mg:Vj) (af:Heap) (k:Nat) (x:Str) (ps:List Str) (n:Nat) (F:FI):Prop where
 ex: ∃f fd,bX P w K mg af gq k f fd ps (M0 K n F)/\mg x=some (.ref f)/\iZ K (.ref f)=true/\Binds K fd ps []
def nI.mono {K:aC} (h:nI P w K mg af j x c n F) (d:j<=k):nI P w K mg af k x c n F:=
 let ⟨f,e,a,b⟩:=h.ex
 ⟨f,e,a.mono d,b⟩
def WC (F:FI) (i:Nat) (c d:T1):Sl->al (Bool×Sl):=λa=>c a>>=λe=>d a>>=λd2=>mX i a>>=λq=>F [e,d2] q.1 q.2>>=λr=> .ok (r.1,a.set i (.aw (.aQ r.2.1 r.2.2)))
def Gw (K:aC) (i:Nat) (c:Sl->al (Bool×Sl)):TE:=λe H Q=> ∃G h d b a,ax K G h d e H/\c d= .ok (b,a)/\ ∀g,ax K G h a e g->a9 d e H a e g->Q (.bl b) g
@[irreducible] def zL (X:Cx) (i:Nat) (e:Expr) (c:Sl->al (Bool×Sl)):Prop:=PE X e (Gw X.K i c)
section
variable {X:Cx} {k n i:Nat} {x y:Str} {ps:List Str} {F:FI} {e1 e2:Expr} {p py pos:Pos} {f1 f2:T1}
def nI.call (i:Nat) (A:nI X.prog X.w X.K X.mg X.af k x ps 2 F) (hr:aI k X.A) (h1:DE X .s e1 f1) (h2:DE X .s e2 f2) (hN:X.N[i]?=some y:=by rfl) (h:gM X.env.scope y:=by exact eE rfl)
   (hd:YU y:=by decide) (j:WV y:=by decide) (hg:Gl X x:=by rfl) (l:YU x:=by decide)
   (U:bb [e1,e2,.Name y py] X.env=(false,eval e1 X.env)::bb [e2,.Name y py] X.env:=by exact jm rfl) (o:bb [e2,.Name y py] X.env=(false,eval e2 X.env)::bb [.Name y py] X.env:=by exact jm rfl)
   (u:bb [.Name y py] X.env=(false,eval (.Name y py) X.env)::bb [] X.env:=by exact jm rfl)
   (v:(dL pos (bb [e2,.Name y py] X.env)).any (·.1)=false:=by exact jS rfl):zL X i (.Call (.Name x p) [e1,e2,.Name y py] [] pos) (WC F i f1 f2):=by
 obtain ⟨f,fd,g1,g2,g3,g4⟩:=A.ex
 with_unfolding_all exact (
  PE.imp (U1 g1 hr hg g2 g3 g4 .nil (E:=λ_ _ _=>False) xL (qc h1 (qc h2 (qc (xF (i:=i) hN h hd j) wo u) o) U) l U v) λg H Q=>by
   rintro ⟨G,Y,env,b,env',k,d,q⟩;obtain ⟨d1,c1,d⟩:=jd d;obtain ⟨d2,c2,d⟩:=jd d;obtain ⟨ks,c3,d⟩:=jd d;obtain ⟨r,c4,d⟩:=jd d;cases d;have B:=WH c3;refine ⟨G,Y,env,d1,k,c1,λv1 H1 I r1 _=>⟨G,Y,env,d2,k.am I,c2,λv2 H2 J r2 _=>?_⟩⟩;have L:=(k.am I).am J;obtain ⟨a,N,h0,ta⟩:=L.aw i _ B;have ow:zV env g a:=⟨i,_,B,N⟩
   have w: ∀c,Sf G env g c->Sf G env g c/\c≠a:=λc z=>⟨z,by rintro rfl;exact z.1 ow⟩
   refine ⟨.ref a,N,?_⟩;show M0 X.K 2 F ([v1,v2,.ref a]++[]) H2 Q (λ_ _ _=>False);rw [nS];refine ⟨Sf G env g,[d1,d2],[v1,v2],a,_,_,r.1,r.2.1,r.2.2,rfl,rfl,.cons ((r1.am J).aE w) (.cons (r2.aE w) .nil),ta.a5 (λ_ _ e _=>e) w λ_ e=>e,c4,λH' O t'=>?_⟩;have W:=L.anew B N O (t'.a5 (λ_ _ e _=>e) (λc z=>z.1.elim (λz=>L.new c z) λz=>z) λ_ e=>e)
   exact q H' W.1 ((W.2.am J).am I))
def zL.not (h:zL X i e c) (a: ∀whole,isTrue e X.env whole=(do let v<-whole;nw e.pos;mE [v] (truthy v)):=by intro _;rfl):PT X (.UnaryOp .Not e pos) (Ar (tB (Gw X.K i c))):=by
 with_unfolding_all exact La (El h a)
noncomputable def tH (c:Sl->al (Bool×Sl)) (d g2:Sl->al b8):Sl->al b8:=λa=>c a>>=λr=>if r.1=true then g2 r.2 else d r.2
def jh2 {g2:Sl->al b8} (h:zL X i e c) (L:gF X i l N) (O:gF X i g g2)
   (Q: ∀whole,isTrue e X.env whole=(do let v<-whole;nw e.pos;mE [v] (truthy v)):=by intro _;rfl):tD X i (.If (.UnaryOp .Not e u) l g pos) (tH c N g2):=by
 with_unfolding_all exact (
  PS.imp (vu (zL.not (pos:=u) h Q) L O) λE Y H=>by
   rintro ⟨G,w,z,o,a,k,B,j,q⟩;obtain ⟨r,U,j⟩:=jd j;obtain ⟨b,d⟩:=r;refine ⟨G,w,z,b,d,k,U,λH' I J=>⟨b,rfl,?_⟩⟩
   cases b with
   |true=>
    rw [if_pos rfl] at j;rw [if_neg (by simp)];exact ⟨G,w,d,o,a,I,B,j,Z2 J q⟩
   |false=>
    rw [if_neg gd] at j;rw [if_pos (by simp)]
    exact ⟨G,w,d,o,a,I,B,j,Z2 J q⟩)
def M3 (i:Nat) (c:Sl->al (Bool×Sl)):Sl->al aT:=λa=>c a>>=λr=>if r.1=true then (mX i r.2>>=λq=> .ok (.rt true (.aQ q.1 q.2))) else .ok (.rt true .aU)
def jda {g j:Pos} (h:zL X i e c) (Y:X.N[i]?=some y:=by rfl) (w:gM X.env.scope y:=by exact eE rfl)
   (hd:YU y:=by decide) (B:WV y:=by decide)
   (he: ∀whole,isTrue e X.env whole=(do let v<-whole;nw e.pos;mE [v] (truthy v)):=by intro _;rfl) {J:Expr} (hn:PE X J (tC .aU)):DS X (.Return (some (.IfExp e (.Name y py) J g)) j) (M3 i c):=by
 with_unfolding_all exact (
  PS.imp (Q0 (vK (El (show PE X e (Gw X.K i c) from h) he) (xF (i:=i) Y w hd B) hn)) λE σ H=>by
   rintro ⟨G,H0,I,o,k,d,q⟩;obtain ⟨r,c1,d⟩:=jd d;obtain ⟨b,l⟩:=r;refine ⟨G,H0,I,b,l,k,c1,λL u f'=>⟨b,rfl,?_⟩⟩
   cases b with
   |true=>
    rw [if_pos rfl] at d ⊢;obtain ⟨ks,c2,d⟩:=jd d;cases d;have N:=WH c2;obtain ⟨a,O,Q,h2⟩:=u.aw i _ N;refine ⟨.ref a,O,q _ L u.af (h2.rep (λc z=>⟨z.2,Ym u N O c z⟩) (u.g0 a Q)) λ_ b e o' U=>?_⟩;cases e;rw [Q] at U;cases U
   |false=>
    rw [if_neg gd] at d ⊢;cases d
    exact q _ L u.af .aU λ_ b e=>by cases e)
end
def Qe (n:Nat) (ds:List D) (a:List aR) (c:List D):Sl:=ds.map .ah++(.aw (.aQ a c)::dq (n-ds.length-1) .un)
def JZ (h:(Qe n ds a c)[j]?=some s):(∃d,ds[j]?=some d/\s= .ah d)\/(j=ds.length/\s= .aw (.aQ a c))\/s= .un:=by
 unfold Qe at h
 by_cases q:j<ds.length
 . rw [ig (by simpa using q),gY] at h
   cases e:ds[j]? with
   |none=>rw [e] at h;cases h
   |some x=>rw [e] at h;cases h;exact .inl ⟨x,rfl,rfl⟩
 . rw [gP (by simpa using q)] at h;simp only [dQ] at h
   by_cases z:j=ds.length
   . subst z;simp at h;exact .inr (.inl ⟨rfl,h.symm⟩)
   . obtain ⟨m,g⟩: ∃m,j-ds.length=m+1:=⟨j-ds.length-1,by omega⟩
     rw [g,o6,pD] at h
     split at h
     . cases h;exact .inr (.inr rfl)
     . cases h
def jaL {K:aC} {B:Vi} (r:au K (λc=>B c/\c≠a) H g ds) (t:Top K (λc=>B c/\c≠a) H a (.aQ y E)) (Q:ds.length+1<=N.length):
   ax K (λc=>H c=none\/c=a\/B c) (λc=>if c=a then none else H c) (Qe N.length ds y E) (start N (g++[V.ref a])) H/\At (start N (g++[V.ref a])) ds.length a:=by
 have I:=r.length
 have l:At (start N (g++[V.ref a])) ds.length a:=by
   show (L2.start N (g++[V.ref a]))[ds.length]?=_;unfold L2.start;rw [ig (by simp;omega)];simp [<-I]
 have p: ∀(j:Nat) (v:V),g[j]?=some v->(start N (g++[V.ref a]))[j]?=some (some v):=λj v h=>by
   have J:=(ic.mp h).1;unfold L2.start;rw [ig (by simp;omega),gY,ig J,h];rfl
 have q: ∀c,zV (Qe N.length ds y E) (start N (g++[V.ref a])) c->c=a:=λc ⟨j,d,u,n⟩=>by
   rcases JZ u with ⟨_,_,z⟩| ⟨rfl,_⟩|z
   . cases z
   . rw [l] at n;cases n;rfl
   . cases z
 have w: ∀c,B c/\c≠a->Sf (λc=>H c=none\/c=a\/B c) (Qe N.length ds y E) (start N (g++[V.ref a])) c:=λc z=>⟨λo=>z.2 (q c o),.inr (.inr z.1)⟩
 refine ⟨⟨?_,λc o e=>?_,λc e=>?_,λj d h=>?_,λj d h=>?_,λj L d e b u n U Y=>?_⟩,l⟩
 . simp [L2.start,Qe,I];omega
 . split at e
   . cases e
   . exact e
 . split at e
   . rename_i z;exact .inr (.inl z)
   . exact .inl e
 . rcases JZ h with ⟨O,e,z⟩| ⟨_,z⟩|z
   . cases z;obtain ⟨v,u,n⟩:=r.get e;exact ⟨v,p j v u,n.aE w⟩
   . cases z
   . cases z
 . rcases JZ h with ⟨O,e,z⟩| ⟨rfl,z⟩|z
   . cases z
   . cases z;exact ⟨a,l,if_pos rfl,t.a5 (λ_ _ e _=>e) w λ_ e=>e⟩
   . cases z
 . have i: ∀(j:Nat) (d:D),(Qe N.length ds y E)[j]?=some (.aw d)->j=ds.length:=λj d h=>by
     rcases JZ h with ⟨_,_,z⟩| ⟨z,_⟩|z
     . cases z
     . exact z
     . cases z
   rw [i j d u,i L e n]
noncomputable def lg (N n:Nat) (g:Sl->al b8):FI:=λe h i=>match g (Qe N e h i) with
 | .ok (.rt b a)=>aY (e.length=n) (match a[n]? with
  |some (.aw (.aQ c d))=> .ok (b,c,d)
  |_=> .aj)
 |_=> .aj
def jea (h:lg N n g ds i j= .ok (b,a,c)): ∃env,g (Qe N ds i j)= .ok (.rt b env)/\ds.length=n/\env[n]?=some (.aw (.aQ a c)):=by
 unfold lg at h
 split at h
 . rename_i o env e;obtain ⟨l,d⟩:=jv h
   split at d
   . rename_i p q e2;cases d;exact ⟨env,e,l,e2⟩
   . cases d
 . cases h
section
variable {P:bB} {w:World} {K:aC} {mg:Vj} {af:Heap}
def jkn {x:Str} {st:Stmt} (L:iB K x x st f O) (p:mg x=some (.ref f)) (S:ar N u (jf st)) (v:Binds K O u []) (hn:u.length=n+1) (hN:n+1<=N.length)
   (hb: ∀(i:Value) (A:bH) (d:List Env) (s:aM) (H:Hp) (E:XK),aI k (A.deeper (gn x (jf st) s.heap.objs.size f i))->gF (bu gq P w K mg af N x (jf st) f i A d s H E).lF n (qa st) g):
   nI P w K mg af (k+1) x u n (lg N.length n g):=by
 refine ⟨f,O,?_,p,L.kp,v⟩
 with_unfolding_all exact (by
 refine L.ok S (λvs H Q E ⟨B,ds,us,a,ks,es,b,y,I,J,U,_⟩=>by rw [J,dr,U,hn];rfl) (λi A d s H vs Q E hr h=>?_);obtain ⟨B,ds,us,a,ks,es,b,y,I,J,U,r,t,eF,q⟩:=h;refine ⟨_,hb i A d s H E hr,?_⟩;obtain ⟨env,e1,e2,Y⟩:=jea eF;subst J;obtain ⟨kk,j⟩:=jaL (N:=N) r t (by omega);rw [e2] at j;refine ⟨_,_,_,_,a,kk,j,e1,λgy H' k' a' f'=>?_⟩;obtain ⟨a2,h1,_,t2⟩:=k'.aw n _ Y;rw [a'] at h1;cases h1;refine q H' (λc o hc e=>k'.af c o (by rw [if_neg hc];exact e)) (t2.a5 (λ_ _ e _=>e) (λc z=>?_) λ_ e=>e)
 have l:c≠a:=by
   rintro rfl;exact z.1 ⟨n,_,Y,a'⟩
 refine ⟨?_,l⟩;rcases z.2 with z|z|z
 . exact .inl z
 . exact absurd z l
 . exact .inr z)
def jfF {st:Stmt} (q:iB K x x st f j) (c:mg x=some (.ref f)) (d:Binds K j l []) (u:l.length=n+1):nI P w K mg af k x l n (λ_ _ _=> .aj):=
 ⟨f,j,⟨λv H Q E ⟨B,y,z,a,I,J,b,g,h,o,p,_⟩=>by rw [o,dr,p,u];rfl,λA i s H args z v Q E _ _ _ _ ⟨B,y,L,a,I,J,b,g,h,o,p,r,t,e,_⟩=>by cases e⟩,c,q.kp,d⟩
end
section
variable {prog:bB} {w:World} {A:bH} {E:Vh} {s:aM} {z TI TO i1 i2 l1 l2:Addr} {k1 k2:Nat} {xs ys:Array Value} {a b:Value}
structure gb (h:Heap) (z TI TO i1 i2 l1 l2:Addr) (k1 k2:Nat) (f0:Value):Prop where
 hz:IsZip h z TI TO f0
 ti:nJ h TI (.ref i1) (.ref i2)
 to: ∃a b,nJ h TO a b
 h1:h.IsTupleIter i1 l1 k1
 h2:h.IsTupleIter i2 l2 k2
def ja2 {Q:Vh} (D:ZipApart z TI TO i1 i2 l1 l2) (Z:gb s.heap z TI TO i1 i2 l1 l2 k1 k2 .none) (Y:s.heap.IsTuple l1 xs) (sK:s.heap.IsTuple l2 ys) (hx:xs[k1]?=some x) (hy:ys[k2]?=some y)
  (hQ: ∀N,gb N z TI TO i1 i2 l1 l2 (k1+1) (k2+1) (fK s.heap.objs.size)->nJ N s.heap.objs.size x y->
   (∀c o,c≠z->c≠TO->c≠i1->c≠i2->s.heap.get? c=some o->N.get? c=some o)->Q (.ref s.heap.objs.size) {s with heap:=N}):
  wpAny (model prog w) A (g9.«zip.__next__» ⟨[.ref z],[]⟩) (λfin s'=> ∃v,fin= .done (.ret v)/\Q v s') E s:=by
 obtain ⟨n,p,⟨a,b,hTO⟩,h1,h2⟩:=Z;refine (show wpAny _ _ (field (.ref z) 2>>=_) _ _ _ from ay (gx n rfl (x:= .bool false) rfl (show wpAny _ _ (field (.ref z) 3>>=_) _ _ _ from ay (gx n rfl (x:= .ref TI) rfl (ay (rB p rfl (show wpAny _ _ (Dp (.ref z)>>=_) _ _ _ from ay ?_)))))));unfold Dp;refine ay (gx n rfl (x:= .none) rfl (aZ ?_));simp only [if_true];refine ay (sW (ay (gx n rfl (x:= .ref TO) rfl (ay (zM n (by simp) λg1 z1 h=>ay ?_)))));have z1':IsZip g1 z TI TO .ellipsis:=z1;simp only [List.zipIdx_cons,List.zipIdx_nil,List.forIn_cons,List.forIn_nil];refine ay (ay (wpAny_onRaise (show wpAny _ _ (rA (.ref i1)>>=_) _ _ _ from ay (WJ (h1.extBut h.extBut D.i1z) (Y.extBut h.extBut D.l1z) hx λg2 q1 j=>aZ ?_))));have q:nJ g2 TO a b:=j.extBut _ _ D.TOi1 (h.extBut _ _ D.TOz hTO);refine ay (rB q rfl (ay (Gx q λg3 to3 l=>ay (wpAny_letGo (aZ (ay (ay (wpAny_onRaise ?_))))))));have r:nJ g3 TO x b:=to3;refine (show wpAny _ _ (rA (.ref i2)>>=_) _ _ _ from ay (WJ (((h2.extBut h.extBut D.i2z).extBut j.extBut D.i12.symm).extBut l.extBut D.TOi2.symm) (((sK.extBut h.extBut D.l2z).extBut j.extBut D.l2i1).extBut l.extBut D.l2TO) hy λg4 q2 u=>aZ ?_));have B:nJ g4 TO x b:=u.extBut _ _ D.TOi2 r;refine ay (rB B rfl (ay (Gx B λd to5 H=>ay (wpAny_letGo (aZ (aZ ?_))))));have g:nJ d TO x y:=to5;refine ay (rB g rfl (ay (wpAny_newTuple (show wpAny _ _ (M4 (.ref z) (.ref d.objs.size)>>=_) _ _ _ from ay ?_))));have zJ:d.objs.size=s.heap.objs.size:=by rw [H.1,u.1,l.1,j.1,h.1]
 have z5:IsZip d z TI TO .ellipsis:=H.extBut _ _ D.TOz.symm (u.extBut _ _ D.i2z.symm (l.extBut _ _ D.TOz.symm (j.extBut _ _ D.i1z.symm z1')));have k5: ∀c o,c≠z->c≠TO->c≠i1->c≠i2->s.heap.get? c=some o->d.get? c=some o:=λc o i O c3 c4 e=>H.extBut _ _ O (u.extBut _ _ c4 (l.extBut _ _ O (j.extBut _ _ c3 (h.extBut _ _ i e))))
 have q1':d.IsTupleIter i1 l1 (k1+1):=((q1.extBut l.extBut D.TOi1.symm).extBut u.extBut D.i12).extBut H.extBut D.TOi1.symm;have q2':d.IsTupleIter i2 l2 (k2+1):=q2.extBut H.extBut D.TOi2.symm;have I:z<d.objs.size:=bO z5;unfold M4;have z6:IsZip (d.push {cls:= .type "tuple",data:= .seq #[x,y]}) z TI TO .ellipsis:=bI _ z5;refine ay (zM z6 (by simp) λg7 z7 s7=>?_);have z7':IsZip g7 z TI TO (fK d.objs.size):=z7;refine zM z7' (by simp) λU z8 s8=>aZ ⟨_,rfl,(show Q (.ref d.objs.size) _ from ?_)⟩
 have J:IsZip U z TI TO (fK d.objs.size):=z8;have L: ∀c o,c≠z->d.get? c=some o->U.get? c=some o:=λc o i e=>s8.extBut _ _ i (s7.extBut _ _ i (bI _ e))
 have t8:nJ U d.objs.size x y:=s8.extBut _ _ (CB I) (s7.extBut _ _ (CB I) (c9 _ rfl));rw [zJ] at J t8 ⊢;exact hQ U ⟨J,L _ _ D.TIz (k5 _ _ D.TIz D.TITO D.TIi1 D.TIi2 p),⟨_,_,L _ _ D.TOz g⟩,q1'.at λo e=>L _ o D.i1z e,q2'.at λo e=>L _ o D.i2z e⟩ t8 λc o i O c3 c4 e=>L c o i (k5 c o i O c3 c4 e)
def jdU (U:A.handled=none) (D:ZipApart z TI TO i1 i2 l1 l2) (Z:gb s.heap z TI TO i1 i2 l1 l2 k1 k2 .none) (r:s.heap.IsTuple l1 xs) (H:s.heap.IsTuple l2 ys) (u:xs[k1]?=none\/ys[k2]?=none)
  (Y: ∀I e,(∀c o,c≠z->c≠TO->c≠i1->c≠i2->s.heap.get? c=some o->I.get? c=some o)->(∃o,I.get? e=some o/\o.cls= .type "StopIteration")->E (.ref e) {s with heap:=I}):
  wpAny (model prog w) A (g9.«zip.__next__» ⟨[.ref z],[]⟩) Q E s:=by
 obtain ⟨l,J,⟨a,b,L⟩,h1,h2⟩:=Z;refine (show wpAny _ _ (field (.ref z) 2>>=_) _ _ _ from ay (gx l rfl (x:= .bool false) rfl (show wpAny _ _ (field (.ref z) 3>>=_) _ _ _ from ay (gx l rfl (x:= .ref TI) rfl (ay (rB J rfl (show wpAny _ _ (Dp (.ref z)>>=_) _ _ _ from ay ?_)))))));unfold Dp;refine ay (gx l rfl (x:= .none) rfl (aZ ?_));simp only [if_true];refine ay (sW (ay (gx l rfl (x:= .ref TO) rfl (ay (zM l (by simp) λg1 z1 i=>ay ?_)))));have v:IsZip g1 z TI TO .ellipsis:=z1;simp only [List.zipIdx_cons,List.zipIdx_nil,List.forIn_cons,List.forIn_nil];refine ay (ay (wpAny_onRaise (show wpAny _ _ (rA (.ref i1)>>=_) _ _ _ from ?_)))
 have ne: ∀ {h:Heap} {e:Addr} {n:Obj},IsZip h z TI TO .ellipsis->h.get? e=some n->n.cls= .type "StopIteration" ->e≠z:=λ{h e n} l d g x=>by
  subst x;rw [l] at d;cases d;simp at g
 cases N:xs[k1]? with
 |none=>
  refine ay (KB U (h1.extBut i.extBut D.i1z) (r.extBut i.extBut D.l1z) N λg2 e j p=>?_);obtain ⟨n,d,g⟩:=p;have z2:IsZip g2 z TI TO .ellipsis:=j _ _ D.i1z.symm v;exact zM z2 (by simp) λg3 _ q=>Y g3 e (λc o y _ O _ x=>q.extBut _ _ y (j _ _ O (i.extBut _ _ y x))) ⟨n,q.extBut _ _ (ne z2 d g) d,g⟩
 |some x=>
  have hy:ys[k2]?=none:=u.resolve_left (by rw [N];simp);refine ay (WJ (h1.extBut i.extBut D.i1z) (r.extBut i.extBut D.l1z) N λg2 q1 j=>aZ ?_);have B:nJ g2 TO a b:=j.extBut _ _ D.TOi1 (i.extBut _ _ D.TOz L);refine ay (rB B rfl (ay (Gx B λg3 to3 q=>ay (wpAny_letGo (aZ (ay (ay (wpAny_onRaise ?_))))))));refine (show wpAny _ _ (rA (.ref i2)>>=_) _ _ _ from ay (KB U (((h2.extBut i.extBut D.i2z).extBut j.extBut D.i12.symm).extBut q.extBut D.TOi2.symm) (((H.extBut i.extBut D.l2z).extBut j.extBut D.l2i1).extBut q.extBut D.l2TO) hy λg4 e s4 p=>?_));obtain ⟨n,d,g⟩:=p;have z4:IsZip g4 z TI TO .ellipsis:=s4 _ _ D.i2z.symm (q.extBut _ _ D.TOz.symm (j.extBut _ _ D.i1z.symm v));exact zM z4 (by simp) λg5 _ s5=>Y g5 e (λc o y c2 O c4 x=>s5.extBut _ _ y (s4 _ _ c4 (q.extBut _ _ c2 (j.extBut _ _ O (i.extBut _ _ y x))))) ⟨n,s5.extBut _ _ (ne z4 d g) d,g⟩
def jay (D:ZipApart z TI TO i1 i2 l1 l2) (Z:gb s.heap z TI TO i1 i2 l1 l2 k1 k2 .none) (e:s.heap.IsTuple l1 xs) (g:s.heap.IsTuple l2 ys) (i:xs[k1]?=some x) (j:ys[k2]?=some y)
  (l: ∀d,gb d z TI TO i1 i2 l1 l2 (k1+1) (k2+1) (fK s.heap.objs.size)->nJ d s.heap.objs.size x y->
   (∀c o,c≠z->c≠TO->c≠i1->c≠i2->s.heap.get? c=some o->d.get? c=some o)->Q (some (.ref s.heap.objs.size)) {s with heap:=d}):wpAny (model prog w) A (pyNext (.ref z)) Q E s:=by
 have h:s.TypeIs (.ref z) "zip" :=⟨_,Z.hz,rfl⟩
 unfold pyNext;exact ay (yT (rc (name:=Str.ofString "__next__") h Dq (nT Dq h F.entry_zip_next (ja2 D Z e g i j λd n p q=>aZ (l d n p q)) (F.args_zip_next_1 _))))
def jce (l:A.handled=none) (D:ZipApart z TI TO i1 i2 l1 l2) (Z:gb s.heap z TI TO i1 i2 l1 l2 k1 k2 .none) (g:s.heap.IsTuple l1 xs) (h:s.heap.IsTuple l2 ys) (d:xs[k1]?=none\/ys[k2]?=none)
  (n: ∀i,(∀c o,c≠z->c≠TO->c≠i1->c≠i2->s.heap.get? c=some o->i.get? c=some o)->Q none {s with heap:=i}):wpAny (model prog w) A (pyNext (.ref z)) Q E s:=by
 have j:s.TypeIs (.ref z) "zip" :=⟨_,Z.hz,rfl⟩
 unfold pyNext;exact ay (yT (rc (name:=Str.ofString "__next__") j Dq (nT Dq j F.entry_zip_next (jdU l D Z g h d λi e p ⟨o,q,r⟩=>ay (De (T:= "StopIteration") (b:=true) ⟨o,q,r⟩ isSubtype_stop (aZ (n _ p)))) (F.args_zip_next_1 _))))
end
noncomputable abbrev BR (h:Heap) (a:Addr):Heap:=h.push {cls:= .type "tuple_iterator",data:= .fields #[.ref a,.int 0 0]}
abbrev Dr (h:Heap) (a c:Addr):Heap:=(BR h a).push {cls:= .type "tuple_iterator",data:= .fields #[.ref c,.int 0 0]}
abbrev Aa (h:Heap) (a c:Addr):Heap:=(Dr h a c).push {cls:= .type "tuple",data:= .seq #[.ref h.objs.size,.ref (BR h a).objs.size]}
abbrev Ds (h:Heap) (a c:Addr):Heap:=(Aa h a c).push {cls:= .type "tuple",data:= .seq #[.none,.none]}
abbrev tJ (h:Heap) (a c:Addr):Heap:=(Ds h a c).push {cls:= .type "zip",data:= .fields #[.none,.bool false,.bool false,.ref (Dr h a c).objs.size,.ref (Aa h a c).objs.size]}
def jdT (a c:Addr) (n o:Array Value):PySem.Meets (g9.«zip.__new__» ⟨[.type "zip",.ref a,.ref c],[]⟩) (λ_ R s=>s.heap.IsTuple a n/\s.heap.IsTuple c o/\R (.ok (.ret (.ref (Ds s.heap a c).objs.size))) {s with heap:=tJ s.heap a c}):=
 .of_wp λp w A R s h=>by
  obtain ⟨q,g,d,tk,os⟩:=s;obtain ⟨e,i,h⟩:=h;have r:=sub_zip;have j:Heap.IsTuple (Shared.heap ⟨q,g,d,tk,os⟩) a n:=e;have l:Heap.IsTuple (Shared.heap ⟨q.push {cls:= .type "tuple_iterator",data:= .fields #[.ref a,.int 0 0]},g,d,tk,os⟩) c o:=Heap.IsTuple.push i _
  wp_walk using A7 j,A7 l
  exact ⟨_,rfl,h⟩
section
variable {prog:bB} {w:World} {A:bH} {E:Vh} {s:aM}
def jdz (i:s.heap.IsTuple a y) (j:s.heap.IsTuple d z)
  (h: ∀l,gb l (s.heap.objs.size+4) (s.heap.objs.size+2) (s.heap.objs.size+3) s.heap.objs.size (s.heap.objs.size+1) a d 0 0 .none->(∀c o,s.heap.get? c=some o->l.get? c=some o)->Q (.ref (s.heap.objs.size+4)) {s with heap:=l}):
  wpAny (model prog w) A (call (.type "zip") [.ref a,.ref d]) Q E s:=by
 refine callType_new F.called_zip (by decide) (F.typeCall_zip_2 _ _) (F.newCall_zip_2 _ _) (λobj=>F.args_object_init_3 obj _ _) F.entry_zip_new (jdT a d y z) ⟨i,j,?_⟩;have n:(BR s.heap a).objs.size=s.heap.objs.size+1:=o3 ..;have p:(Dr s.heap a d).objs.size=s.heap.objs.size+2:=by rw [o3,n]
 have q:(Aa s.heap a d).objs.size=s.heap.objs.size+3:=by rw [o3,p]
 have u:(Ds s.heap a d).objs.size=s.heap.objs.size+4:=by rw [o3,q]
 have up1: ∀c o,(Aa s.heap a d).get? c=some o->(tJ s.heap a d).get? c=some o:=λc o e=>bI _ (bI _ e)
 have g: ∀c o,(BR s.heap a).get? c=some o->(Aa s.heap a d).get? c=some o:=λc o e=>bI _ (bI _ e)
 have r:(tJ s.heap a d).get? (Ds s.heap a d).objs.size=some _:=c9 _ rfl;have v:(tJ s.heap a d).get? (Aa s.heap a d).objs.size=some _:=bI _ (c9 _ rfl);have g3:(tJ s.heap a d).get? (Dr s.heap a d).objs.size=some _:=up1 _ _ (c9 _ rfl);have g2:(tJ s.heap a d).get? (BR s.heap a).objs.size=some _:=up1 _ _ (bI _ (c9 _ rfl));have B:(tJ s.heap a d).get? s.heap.objs.size=some _:=up1 _ _ (g _ _ (c9 _ rfl));show _/\_;rw [p,q,u] at r;rw [n,p] at g3;rw [q] at v;rw [n] at g2;rw [u];exact ⟨⟨_,r,rfl⟩,h _ ⟨r,g3,⟨_,_,v⟩,⟨_,B,rfl,rfl⟩,⟨_,g2,rfl,rfl⟩⟩ λc o x=>up1 _ _ (g _ _ (bI _ x))⟩
end
def ItZ (K:aC) (d e:Addr) (a c:List V):It:=⟨λi H=>(eQ K H d a/\eQ K H e c)/\i<a.length/\i<c.length,λi H v g=> ∃p x y,H p=none/\a[i]?=some x/\c[i]?=some y/\v= .ref p/\g=aH H p (.ak [x,y]),λi H=>(eQ K H d a/\eQ K H e c)/\(a.length<=i\/c.length<=i)⟩
section
variable {X:Cx} {pins:List (Addr×Obj)} {σ:L2.St} {H:Hp} {s:aM}
def yP {d:List Addr} (I:aA X pins σ H s) (k: ∀b o,b∉d->s.heap.get? b=some o->h'.get? b=some o) (f: ∀b∈d,cZ X pins H b):aA X pins σ H {s with heap:=h',toks:=t'}:=by
 have n: ∀b u,H b=some u->b∉d:=λb u e z=>by have:=(f b z).1;rw [this] at e;cases e
 refine I.step (g':=s.gens) (d':=s.drawn) (ch:=d) (λb g=>?_) (λb o _ _ a e _=>k b o a e) (λb o _ _ a e _=>⟨o.slots,k b o a e⟩) (λ_ _ _ _ n=>n)
   (λb o a e=>⟨o,k b o a e⟩) (λ_ _ e=>e) (λ_ _ _ e=>e) (λb E e=>⟨#[],by rw [e];simp⟩) (λm h=>?_) (λb u e=>?_) I.bare
 . obtain ⟨J,i,_,j,l,p⟩:=f b g;exact ⟨j,i,l,p⟩
 . obtain ⟨o,w,y,B,r⟩:=h;exact ⟨o,w,y,k _ o (λz=>(f _ z).2.1 rfl) B,r⟩
 . refine (I.aV b u e).a5 (λc v a q=>k c v ?_ q) (λ_ q=>q) λ_ _ q=>q
   rcases a with z|z
   . rw [z];exact n b u e
   . exact n c _ z
end
def ja8 {K:aC} {TI TO:Addr} (N O:List V) (D:ZipApart z TI TO Q U a1 a2):
  Turn P w K (.Tuple elts n pos) (ItZ K a1 a2 N O) [z,TI,TO,Q,U] z (λi h=>gb h z TI TO Q U a1 a2 i i .none) where
 mem:=by simp
 obj:=λi h st b a=>by
  obtain ⟨Y,ti,⟨x,y,to⟩,⟨o1,e1,c1,d1⟩,o2,e2,c2,d2⟩:=st;simp only [bA,ei,or_false] at a;rcases a with rfl|rfl|rfl|rfl|rfl
  . exact ⟨_,Y,λv q=>by cases q⟩
  . exact ⟨_,ti,λv q=>by cases q⟩
  . exact ⟨_,to,λv q=>by cases q⟩
  . exact ⟨o1,e1,λv q=>by rw [d1] at q;cases q⟩
  . exact ⟨o2,e2,λv q=>by rw [d2] at q;cases q⟩
 keep:=λi h h' st k=>by
  obtain ⟨Y,ti,⟨x,y,to⟩,q1,q2⟩:=st;exact ⟨k z (by simp) _ Y,k TI (by simp) _ ti,⟨x,y,k TO (by simp) _ to⟩,q1.at λo e=>k Q (by simp) o e,q2.at λo e=>k U (by simp) o e⟩
 item:=by
  intro X hP hw hK hc i j s σ H E I hf st hg;subst hP hw hK;obtain ⟨⟨r,B⟩,g1,g2⟩:=hg;obtain ⟨l,J,p1,_⟩:=I.tuple r;obtain ⟨p,L,p2,_⟩:=I.tuple B;have hx:N[i]?=some N[i]:=cU g1;have hy:O[i]?=some O[i]:=cU g2;obtain ⟨u,hu,ru⟩:=J.get hx;obtain ⟨v,hv,rv⟩:=L.get hy;refine jay D st (show s.heap.IsTuple a1 l.toArray from p1) (show s.heap.IsTuple a2 p.toArray from p2) (x:=u) (y:=v) (by simpa using hu) (by simpa using hv) λh' Z' hT hk=>?_
  refine ⟨_,rfl,wpAny_letOwnedTupleGo_zip Z'.hz λoa tK d=>?_⟩;have lt: ∀ {c o},s.heap.get? c=some o->c<s.heap.objs.size:=λe=>bO e
  have nM: ∀c∈[z,TI,TO,Q,U],c<s.heap.objs.size:=λc hc=>by
    obtain ⟨Y,ti,⟨_,_,to⟩,⟨_,e1,_⟩,_,e2,_⟩:=st;simp only [bA,ei,or_false] at hc;rcases hc with rfl|rfl|rfl|rfl|rfl
    . exact lt Y
    . exact lt ti
    . exact lt to
    . exact lt e1
    . exact lt e2
  have ly:H s.heap.objs.size=none:=I.aV.fresh (bg _)
  have I1:aA X j σ (aH H s.heap.objs.size (.ak [N[i],O[i]])) {s with heap:=s.heap.push {cls:= .type "tuple",data:= .seq #[u,v]}}:=
    I.laid (t':=s.toks) (λb o e=>bI _ e) (bg _) ⟨dG (show 2<=20 by decide) (by decide),[u,v],.cons ru (.cons rv .nil),⟨_,c9 _ rfl,rfl,_,rfl⟩⟩
  have f1: ∀b∈[z,TI,TO,Q,U],cZ X j (aH H s.heap.objs.size (.ak [N[i],O[i]])) b:=λb a=>⟨by rw [jF (dJ (nM b a))];exact (hf b a).1,(hf b a).2⟩
  have I2:=yP (t':=s.toks) (h':=oa) I1 (λb o a eo=>by
    have BS:b≠z:=λe=>a (by simp [e])
    refine (d.2 b BS).trans ?_
    by_cases BU:b=s.heap.objs.size
    . subst BU;rw [c9 _ rfl] at eo;rw [<-eo];exact hT
    . have tp:s.heap.get? b=some o:=by
       rcases Df eo with ⟨q,_⟩|q
       . exact absurd q BU
       . exact q
      exact hk b o BS (λe=>a (by simp [e])) (λe=>a (by simp [e])) (λe=>a (by simp [e])) tp) f1
  obtain ⟨_,Gy,⟨q1,q2,Gz⟩,w1,w2⟩:=Z';exact ⟨.ref s.heap.objs.size,_,I2,rfl,⟨_,_,_,ly,hx,hy,rfl,rfl⟩,⟨tK,d.extBut _ _ D.TIz Gy,⟨q1,q2,d.extBut _ _ D.TOz Gz⟩,w1.extBut d.extBut D.i1z,w2.extBut d.extBut D.i2z⟩,λb a=>(f1 b a).1⟩
 done:=by
  intro X hP hw hK hc i j s σ H E I hf st hg;subst hP hw hK;obtain ⟨⟨r,B⟩,g⟩:=hg;obtain ⟨l,J,p1,_⟩:=I.tuple r;obtain ⟨p,L,p2,_⟩:=I.tuple B;have Dt:=J.length;have sK:=L.length;refine jce (I.ok.hd hc) D st (show s.heap.IsTuple a1 l.toArray from p1) (show s.heap.IsTuple a2 p.toArray from p2) (g.imp (λg=>by simp;omega) λg=>by simp;omega) λh' hk=>⟨rfl,yP (t':=s.toks) I (λb o a eo=>hk b o (λe=>a (by simp [e])) (λe=>a (by simp [e])) (λe=>a (by simp [e])) (λe=>a (by simp [e])) eo) hf⟩
 self:=λ_ _ _ _ _ st h=>Du st.hz h
section
variable {X:Cx} {elts:List Expr} {n:Nat} {gX p pos:Pos} {e1 e2:Expr} {f1 f2:T1}
def zA:List D->List D->List D
 |x::a,y::c=> .ak [x,y]::zA a c
 |_,_=>[]
theorem ZZ: ∀a c:List D,(zA a c).length=min a.length c.length
 | [],_=>by simp [zA]
 |_::_,[]=>by simp [zA]
 |x::a,y::c=>by simp [zA,ZZ a c]
theorem Z0: ∀(a c:List D) (i:Nat) (d:D),(zA a c)[i]?=some d-> ∃x y,a[i]?=some x/\c[i]?=some y/\d= .ak [x,y]
 | [],_,i,d,h=>by simp [zA] at h
 |_::_,[],i,d,h=>by simp [zA] at h
 |x::a,y::c,0,d,h=>by simp [zA] at h;exact ⟨x,y,rfl,rfl,h.symm⟩
 |x::a,y::c,i+1,d,h=>by
  simp only [zA,o6] at h ⊢;exact Z0 a c i d h
noncomputable def lX (f1 f2:T1):Sl->al (List D):=λa=>f1 a>>=λd=>f2 a>>=λe=>match d,e with
 | .ak c,.ak g=> .ok (zA c g)
 |_,_=> .aj
def Ur:lD "zip" =some (.type "zip"):=by decide+kernel
def jkb (hg:Gl X "zip") (hm:X.mg "zip" =none) (h1:DE X .s e1 f1) (h2:DE X .s e2 f2) (hs:bb [e1,e2] X.env=(false,eval e1 X.env)::bb [e2] X.env:=by exact jm rfl) (Bw:bb [e2] X.env=(false,eval e2 X.env)::bb [] X.env:=by exact jm rfl)
  (wD:(dL pos (bb [e2] X.env)).any (·.1)=false:=by exact jS rfl):DI X (.Tuple elts n gX) (.Call (.Name "zip" p) [e1,e2] [] pos) (lX f1 f2):=by
 have GA:PE X e1 (tE X.K .s f1):=by with_unfolding_all exact h1
 have GB:PE X e2 (tE X.K .s f2):=by with_unfolding_all exact h2
 with_unfolding_all exact (show PI X (.Tuple elts n gX) (.Call (.Name "zip" p) [e1,e2] [] pos) (tI X.K (lX f1 f2)) from by
  rintro h s U H R I ⟨G,H0,c,ds,k,l,q⟩;obtain ⟨d1,c1,l⟩:=jd l;obtain ⟨d2,c2,l⟩:=jd l;have hA:=qc GA (qc GB wo Bw) hs;refine Call_ (Wr I hg hm Ur (v3 (bi (hA pos h s U H (λvs r=> ∃u v,vs=[u,v]/\ao H r/\aL X.K (Sf G c U) r u d1/\aL X.K (Sf G c U) r v d2) I ⟨G,H0,c,d1,k,c1,λu Y a r1 _=>⟨G,H0,c,d2,k.am a,c2,λv r s2 r2 _=>⟨u,v,rfl,a.trans s2,r1.am s2,r2⟩⟩⟩) λus a j5=>?_) hs wD));obtain ⟨vs,Y,w,r1,u,v,ev,sm,GC,GD⟩:=j5;subst ev;obtain ⟨u1,u2,rfl,GF,GH⟩:=AE r1;have k1:=k.am sm
  split at l
  . rename_i es1 es2;cases l;obtain ⟨z,xs,rfl,e,B⟩:=GC.dH;obtain ⟨E,ys,rfl,g,J⟩:=GD.dH;cases GF;cases GH;obtain ⟨L,rv1,p1,_⟩:=w.tuple (.inl (.of e));obtain ⟨N,rv2,p2,_⟩:=w.tuple (.inl (.of g));have GI:z<a.heap.objs.size:=by obtain ⟨o,ho,_⟩:=p1;exact bO ho
    have GJ:E<a.heap.objs.size:=by obtain ⟨o,ho,_⟩:=p2;exact bO ho
    refine jdz (show a.heap.IsTuple z L.toArray from p1) (show a.heap.IsTuple E N.toArray from p2) λh' Z hk=>Du Z.hz ?_
    have I2:aA X h U Y {a with heap:=h'}:=w.kept (t':=a.toks) hk;refine ⟨a.heap.objs.size+4,[a.heap.objs.size+4,a.heap.objs.size+2,a.heap.objs.size+3,a.heap.objs.size,a.heap.objs.size+1],_,_,Y,rfl,I2,ja8 xs ys (M5 GI GJ),Z,λb hb=>?_,?_⟩
    . have O:a.heap.objs.size<=b:=by
       simp only [bA,ei,or_false] at hb;rcases hb with rfl|rfl|rfl|rfl|rfl<;>first|exact Nat.le_add_right _ _|exact bg _
      exact w.fb O (w.aV.fresh O)
    . refine q _ Y (λH=>H z=some (.ak xs)/\H E=some (.ak ys)) sm (λi H' pp=>?_) ⟨e,g⟩ λenv' gy H' fr=>⟨fr.keep z _ e λow=>(k1.lQ ow e).elim,fr.keep E _ g λow=>(k1.lQ ow g).elim⟩
      have Dt:=B.length;have sK:=J.length;have hq:eQ X.K H' z xs/\eQ X.K H' E ys:=⟨.inl (.of pp.1),.inl (.of pp.2)⟩
      rw [ZZ];refine ⟨λhi=>⟨hq,by omega,by omega⟩,λd hd x r y=>?_,λhi=>⟨hq,by omega⟩⟩;obtain ⟨p,x',y',hp,mU,GK,rfl,rfl⟩:=y;obtain ⟨dx,dy,GL,GN,rfl⟩:=Z0 _ _ _ _ hd;obtain ⟨d',Q,rd⟩:=B.get' mU;obtain ⟨d'',j,Bg⟩:=J.get' GK;rw [GL] at Q;cases Q;rw [GN] at j;cases j;exact .inr ⟨p,_,_,hp,rfl,rfl,rfl,.cons rd (.cons Bg .nil)⟩
  . cases l)
end
section
variable {X:Cx} {pins:List (Addr×Obj)} {σ:L2.St} {H:Hp} {s:aM} {a:Addr}
def GO (X:Cx) (a:Addr):Prop:=(∀c,X.i7 a≠some (.ak c))/\(∀o u,X.i7 a≠some (.bE o u))/\ ∀d,X.i7 a≠some (.pc d)
def aA.loose (I:aA X pins σ H s) (e:H a=some (.dK c)):GO X a:=by
 refine ⟨λd z=>?_,λo u z=>?_,λg z=>?_⟩
 . rw [I.af.dE _ _ z] at e;cases e
 . rw [I.af.eA _ _ _ z] at e;cases e
 . obtain ⟨m,q⟩:=I.af.eP _ _ z;rw [q] at e;cases e
def aA.swap (I:aA X pins σ H s) (e:H a=some u) (l:GO X a) (y: ∀d,u≠ .ak d) (B: ∀x,u≠ .aw x) (new:a6 X.prog X.w H s.heap a g):aA X pins σ (aH H a g) s:=by
 have ne: ∀b,H b=none->b≠a:=λb z w=>by subst w;rw [e] at z;cases z
 have i: ∀c b,H c=some (.aw b)->aH H a g c=some (.aw b):=λc b q=>by
   rw [jF];exact q;intro z;subst z;rw [e] at q;cases q;exact B _ rfl
 have h: ∀c d,H c=some (.ak d)->aH H a g c=some (.ak d):=λc d q=>by
   rw [jF];exact q;intro z;subst z;rw [e] at q;cases q;exact y _ rfl
 refine ⟨I.ok,I.os,I.bare,⟨I.af.keep,I.af.slot,λb o q n x=>?_,I.af.there,λb d q=>?_,λb o v q=>?_,λb E q=>?_⟩,I.loc,I.cell,?_,λx c q=>?_,λp J=>?_,λb v q=>?_,I.len⟩
 . have z:=I.af.free b o q n x;rw [jF (ne b z)];exact z
 . exact h b d (I.af.dE b d q)
 . rw [jF (λz=>by subst z;exact l.2.1 _ _ q)];exact I.af.eA b o v q
 . rw [jF (λz=>by subst z;exact l.2.2 _ q)];exact I.af.eP b E q
 . rw [jF (ne _ I.free)];exact I.free
 . rw [jF (ne _ (I.ce x c q))];exact I.ce x c q
 . obtain ⟨L,j,N⟩:=I.pin p J;exact ⟨L,by rw [jF (ne _ j)];exact j,N⟩
 . by_cases r:b=a
   . subst r;rw [ju] at q;cases q;exact new.a5 (λ_ _ _ z=>z) (λc z=>i c _ z) h
   . rw [jF r] at q;exact (I.aV b v q).a5 (λ_ _ _ z=>z) (λc z=>i c _ z) h
def aA.freeze (I:aA X pins σ H s) (e:H a=some (.dK c)) (d:s.heap.get? a=some o):aA X pins σ (aH H a (.bE o (.dK c))) s:=
 aA.swap I e (aA.loose I e) (λ_ z=>by cases z) (λ_ z=>by cases z) ⟨d,I.aV a _ e⟩
def aA.BV (I:aA X pins σ H s) (e:H a=some (.bE o (.dK c))) (l:GO X a):aA X pins σ (aH H a (.dK c)) s:=
 aA.swap I e l (λ_ z=>by cases z) (λ_ z=>by cases z) (I.aV a _ e).2
end
def M6 (a:Addr) (o:Obj) (c:List (aR×V)):It:=
 ⟨λi H=>H a=some (.bE o (.dK c))/\i<c.length,λi H x d=>d=H/\ ∃k v,c[i]?=some (k,v)/\x=kV k,λi H=>H a=some (.bE o (.dK c))/\c.length<=i⟩
def jjM (h:(qE P w).is k u=true):aO (kV k) u:=by
 rcases qF (show kE k u=true from h) with ⟨i,t,rfl,rfl⟩| ⟨x,t,rfl,rfl⟩
 . exact ⟨t,rfl⟩
 . exact ⟨t,rfl⟩
def KV.get (r:KV cG vs): ∀ {i:Nat} {k:aR} {v:V},cG[i]?=some (k,v)-> ∃u,vs[i]?=some (k,u):=by
 unfold KV at r
 induction r with
 |nil=>intro i k v h;simp at h
 | @cons p q _ _ h t a=>
  intro i k v e
  cases i with
  |zero=>
   obtain ⟨g,c⟩:=q;have d:p=(k,v):=by simpa using e
   subst d;have h1:=h.1;subst h1;exact ⟨c,rfl⟩
  |succ i=>simpa using a (by simpa using e)
section
variable {P:bB} {w:World} {K:aC} {tg:Expr}
def M7 (g: ∀i e,o.data= .dict i e->e=p) (x:a6 P w H h a (.bE o (.dK j))): ∃d,KV j d/\h.DictAt (qE P w) a d p:=by
 obtain ⟨l,_,_,d,r,v,i,e,c,q,n,u⟩:=x;rw [l] at c;cases c;have:=g _ _ n;subst this;exact ⟨d,r,o,i,l,q,n,u⟩
def jbc (a j:Addr) (o:Obj) (g:List (aR×V)) (ep:Nat) (p: ∀es e,o.data= .dict es e->e=ep):Turn P w K tg (M6 a o g) [j] j (λi h=>h.IsKeyIter j a i g.length ep) where
 mem:=by simp
 obj:=λi h st b l=>by
  have e:b=j:=by simpa using l
  subst e;obtain ⟨o,e,c,d⟩:=st;exact ⟨o,e,λv z=>by rw [d] at z;cases z⟩
 keep:=λi h h' st k=>st.at λo e=>k j (by simp) o e
 item:=by
  intro X J hw L hc i q s σ H E I r st N;subst J hw L;obtain ⟨O,Q⟩:=N;obtain ⟨vs,y,U⟩:=M7 p (I.aV a _ O);have B:=KV.length y;obtain ⟨u,hu⟩:=KV.get y (show g[i]?=some (g[i].1,g[i].2) by simp [Q]);obtain ⟨Y,f1,f2,f3,f4,f5⟩:=r j (by simp);rw [B] at st;refine wpAny_pyNext_dict_item st U hu λkey h' hk n sb=>?_
  have I1:=I.turned (t':=s.toks) (λb o l e=>(sb.2 b l).trans e) Y f1 f3 f4 f5;rw [<-B] at n;obtain ⟨o2,e,c,d⟩:=id n;exact ⟨key,rfl,vw e c d (by decide) ⟨kV g[i].1,H,I1,jjM hk,⟨rfl,g[i].1,g[i].2,by simp [Q],rfl⟩,n,λb l=>(r b l).1⟩⟩
 done:=by
  intro X J hw L hc i q s σ H E I r st N;subst J hw L;obtain ⟨O,Q⟩:=N;obtain ⟨vs,y,U⟩:=M7 p (I.aV a _ O);have B:=KV.length y;obtain ⟨Y,f1,f2,f3,f4,f5⟩:=r j (by simp);rw [B] at st;exact wpAny_pyNext_dict_end (I.ok.hd hc) st U (by simp;omega) λh' eb=>⟨rfl,I.turned (λb o l e=>eb b o l e) Y f1 f3 f4 f5⟩
 self:=λ_ _ _ _ _ st h=>wpAny_pyIter_keyiter st h
end
section
variable {X:Cx} {tg:Expr}
def jk3 (e:TE):TI:=λg H R=>e g H λx d=> ∃a c,x= .ref a/\d a=some (.dK c)/\ ∀o,R (M6 a o c) (aH d a (.bE o (.dK c)))
def jg6 (g:PE X l B):PI X tg l (jk3 B):=by
 intro c s E H R I h;refine bi (g c s E H _ I h) λv d i=>?_;obtain ⟨x,H1,p,J,L⟩:=i
 obtain ⟨a,j,e,r,q⟩:=L;subst e;cases J;obtain ⟨zl,N,O,Q,dd⟩:=p.aV a _ r;obtain ⟨o,U,u,w,Y,y,hr⟩:=id dd;have da:d.heap.DictAt (qE X.prog X.w) a O u:=⟨o,U,w,Y,y,hr⟩
 have g:=KV.length Q;refine wpAny_pyIter_dict N da ?_;have n:=aA.freeze p r w;refine ⟨d.heap.objs.size,[d.heap.objs.size],_,_,_,rfl,n.kept λb o e=>bI _ e,jbc a _ o j u (λes' e' z=>by rw [y] at z;cases z;rfl),⟨_,c9 _ rfl,rfl,by rw [g];rfl⟩,λb hb=>?_,q o⟩;have e:b=d.heap.objs.size:=by simpa using hb
 subst e;exact n.fb (bg _) (n.aV.fresh (bg _))
def jkw (a:Addr) (c:List (aR×V)) (E:Ends):Ends:=⟨λd H=>(∃o,H a=some (.bE o (.dK c)))/\E.nx d (aH H a (.dK c)),λv H=>(∃o,H a=some (.bE o (.dK c)))/\E.rt v (aH H a (.dK c)),λ_ _=>False,λ_ _=>False⟩
def jg2 {st:Stmt} (h:PS X st t):PS X st (λE p H=> ∃a d,H a=some (.dK d)/\t (jkw a d E) p H):=by
 rintro i s p H E I ⟨a,d,e,q⟩;have l:=aA.loose I e;refine bi (h i s p H _ I q) λf z n=>?_
 cases f with
 |next=>obtain ⟨c,w,j,⟨o,y⟩,g⟩:=n;exact ⟨c,_,aA.BV j y l,g⟩
 |brk=>obtain ⟨c,w,j,g⟩:=n;exact g.elim
 |cont=>obtain ⟨c,w,j,g⟩:=n;exact g.elim
 |ret u=>obtain ⟨v,c,w,j,r,⟨o,y⟩,g⟩:=n;exact ⟨v,c,_,aA.BV j y l,r,g⟩
end
noncomputable def m6:aR->Bool
 | .inl _=>true
 | .inr _=>false
def allI (a:List aR):Bool:=a.all m6
def kA:Slot->Slot
 | .ah (.aQ c a)=>if D.dS a=true then .ah (.fq c a) else .un
 | .aw (.aQ c a)=>if D.dS a=true then .ah (.fq c a) else .un
 | .ah d=>if d.j2=true then .ah d else .un
 |_=> .un
def lend (env:Sl):Sl:=env.map kA
def jcu (h:kA s= .ah d):(s= .ah d/\d.j2=true)\/(∃c ds,d= .fq c ds/\D.dS ds=true/\(s= .ah (.aQ c ds)\/s= .aw (.aQ c ds))):=by
 unfold kA at h
 split at h
 . split at h
   . rename_i a;cases h;exact .inr ⟨_,_,rfl,a,.inl rfl⟩
   . cases h
 . split at h
   . rename_i a;cases h;exact .inr ⟨_,_,rfl,a,.inr rfl⟩
   . cases h
 . split at h
   . rename_i a;cases h;exact .inl ⟨rfl,a⟩
   . cases h
 . cases h
def jct:kA s≠ .aw d:=by
 unfold kA
 split
 . split<;>(intro h;cases h)
 . split<;>(intro h;cases h)
 . split<;>(intro h;cases h)
 . intro h;cases h
section
variable {K:aC} {G:Vi} {H0 H:Hp} {env:Sl} {σ:L2.St} {a:Addr} {cG:List (aR×V)}
def Kj {i:Nat}:(lend env)[i]?≠some (.aw d):=by
 intro h;unfold lend at h;rw [gY] at h
 cases e:env[i]? with
 |none=>rw [e] at h;cases h
 |some s=>rw [e] at h;exact jct (fY h)
def aL.held (r:aL K A H v d) (c:d.j2=true) (e:H a=some (.dK cG)):aL K g (aH H a (.bE o (.dK cG))) v d:=
 (r.j2 (A':=λ_=>False) c).a5 (λb ob q m=>by
  rw [jF];exact q
  intro z;subst z;rw [e] at q;cases q;exact m trivial) λ_ z=>z.elim
def au.held (r:au K A H v d) (c:D.dS d=true) (e:H a=some (.dK cG)):au K g (aH H a (.bE o (.dK cG))) v d:=
 (r.j2 (A':=λ_=>False) c).a5 (λb ob q m=>by
  rw [jF];exact q
  intro z;subst z;rw [e] at q;cases q;exact m trivial) λ_ z=>z.elim
def ax.lend (k:ax K G H0 env σ H) (e:H a=some (.dK cG)) (o:Obj):ax K (λ_=>True) (aH H a (.bE o (.dK cG))) (lend env) σ (aH H a (.bE o (.dK cG))) where
 len:=by rw [k.len];simp [M.lend]
 af:=ao.refl _
 g0:=λ_ _=>trivial
 ah:=λi d h=>by
  have y: ∀c,Sf (λ_=>True) (M.lend env) σ c:=λc=>⟨λ⟨j,I,z,_⟩=>Kj z,trivial⟩
  have n:=h;unfold M.lend at n;rw [gY] at n
  cases q:env[i]? with
  |none=>rw [q] at n;cases n
  |some s=>
   rw [q] at n;rcases jcu (fY n) with ⟨rfl,u⟩| ⟨J,L,rfl,u,rfl|rfl⟩
   . obtain ⟨v,e1,r⟩:=k.ah i d q;exact ⟨v,e1,r.held u e⟩
   . obtain ⟨v,e1,r⟩:=k.ah i _ q;obtain ⟨p,B,rfl,l,_,hk,w⟩:=r.pU;refine ⟨_,e1,.fq ?_ hk rfl (w.held u e)⟩
     by_cases g:p=a
     . subst g;rw [e] at l;cases l;exact .inr ⟨o,ju⟩
     . exact .inl ⟨by rw [jF g];exact l,y p⟩
   . obtain ⟨p,e1,_,t⟩:=k.aw i _ q
     cases t with
     | @aQ B N _ _ l hk E w=>
     refine ⟨_,e1,.fq ?_ hk E (w.held u e)⟩
     by_cases g:p=a
     . subst g;rw [e] at l;cases l;exact .inr ⟨o,ju⟩
     . exact .inl ⟨by rw [jF g];exact l,y p⟩
 aw:=λi d h=>absurd h Kj
 nB:=λi j d O Q h=>absurd h Kj
def Vc (e:H a=some (.dK cG)) (s:ao (aH H a (.bE o (.dK cG))) d):ao H (aH d a (.dK cG)):=λb u q=>by
 by_cases c:b=a
 . subst c;rw [e] at q;cases q;exact ju
 . rw [jF c];exact s b u (by rw [jF c];exact q)
end
def M8 (K:aC) (g:Sl->al (Option Bool)):TS:=λE d H=> ∃G e a o,ax K G e a d H/\g a= .ok o/\match o with
 |none=> ∀c,ao H c->E.nx d c
 |some b=> ∀c,ao H c->E.rt (.bl b) c
@[irreducible] def DB (X:Cx) (a:List Stmt) (g:Sl->al (Option Bool)):Prop:=dM X a (M8 X.K g)
section
variable {X:Cx} {e c:Expr} {l:Lv} {f:T1} {pos pj pi rp cp:Pos} {g:Sl->al (Option Bool)} {t:T0}
def Dv (f:T1):Sl->al (Option Bool):=λa=>f a>>=λ_=> .ok none
def jig (h:DE X l e f) (i:ix e none pos.line X.env=pure false:=by rfl):DB X [.Expr e pos] (Dv f):=by
 with_unfolding_all exact (dM.imp (ZW (ZX h i)) λE u H=>by
  rintro ⟨G,j,a,o,k,n,q⟩;obtain ⟨d,e1,e2⟩:=jd n;cases e2
  exact ⟨G,j,a,d,k,e1,λv p s r _=>q p s⟩)
noncomputable def Ab (g:Sl->al (Option Bool)) (j:Nat):List aR->Sl->al (Option Bool)
 | [],_=> .ok none
 |k::d,a=>g (a.set j (.ah (kD k)))>>=λr=>match r with
  |some b=> .ok (some b)
  |none=>Ab g j d a
def GP (i:Nat) (env:Sl):al (List aR):=match env[i]? with
 |some (.ah (.aQ a _))=> .ok a
 |some (.aw (.aQ a _))=> .ok a
 |_=> .aj
def tL (j:Nat) (a:List aR) (env:Sl):Option Bool->al aT
 |some b=> .ok (.rt true (.bl b))
 |none=> .ok (.nx (match a.getLast? with
  |none=>env
  |some k=>env.set j (.ah (kD k))))
def BW (i j:Nat) (g:Sl->al (Option Bool)):Sl->al aT:=λa=>GP i a>>=λd=>aY (allI d=true) (Ab g j d (lend a)>>=tL j d a)
def jde {K:aC} (k:ax K G E env u H) (h:GP i env= .ok w): ∃a d,u[i]?=some (some (.ref a))/\H a=some (.dK d)/\d.map (·.1)=w:=by
 unfold GP at h
 split at h
 . rename_i j y n;cases h;obtain ⟨v,e1,r⟩:=k.ah i _ n;obtain ⟨p,z,rfl,o,_,q,B⟩:=r.pU;exact ⟨p,z,e1,o,q⟩
 . rename_i j y n;cases h;obtain ⟨p,e1,_,t⟩:=k.aw i _ n
   cases t with
   |aQ o q I B=>exact ⟨p,_,e1,o,q⟩
 . cases h
def M9 {K:aC} (h:m6 k=true):aL K A H (kV k) (kD k):=by
 cases k with
 |inl i=>exact .int i
 |inr x=>cases h
def jh5 (i j:Nat) {L xj:Str} (hp:qO (model X.prog X.w) X.A X.env X.xe) (hc:X.bM=true) (hN:X.N.Nodup) (hb:DB X N g)
   (hi:X.N[i]?=some L:=by rfl) (hv:gM X.env.scope L:=by exact eE rfl)
   (hd:YU L:=by decide) (wE:WV L:=by decide)
   (hj:X.N[j]?=some xj:=by rfl) (hx:Loc X.env.scope xj:=by exact iC rfl)
   (hf:UM X xj:=by first|exact .inl rfl|exact .inr rfl|assumption)
   (hs: ∀x,pv (.Name L pi) X.env x=pure x:=by intro _;rfl):DS X (.For (.Name xj pj) (.Name L pi) N [] pos) (BW i j g):=by
 with_unfolding_all exact (
  PS.imp (jg2 (vH hp hc (jg6 (xF hi hv hd wE)) (UZ hN hj hx hf) hb hs)) λE σ H=>by
   rintro ⟨G,H0,B,out,k,ef,q⟩;obtain ⟨ks,e1,e2⟩:=jd ef;obtain ⟨h,e3⟩:=jv e2;obtain ⟨r,e4,e5⟩:=jd e3;obtain ⟨a,d,hσ,O,hks⟩:=jde k e1;subst hks
   have Q: ∀(n:Nat) (k:aR) (v:V),d[n]?=some (k,v)->m6 k=true:=λn k v z=>by
     unfold allI at h;rw [mP] at h;exact h k (hG.mpr ⟨(k,v),lu z,rfl⟩)
   refine ⟨a,d,O,.ref a,hσ,a,d,rfl,O,λo=>?_⟩;have kl:=k.lend O o
   refine ⟨λn m p H'=>m=d.length-n/\n<=d.length/\ao (aH H a (.bE o (.dK d))) H'/\((n=0/\p=σ)\/ ∃U v,n≠0/\d[n-1]?=some (U,v)/\p=σ.set j (some (kV U)))/\Ab g j ((d.map (·.1)).drop n) (lend B)= .ok r,
     ⟨d.length,by simp,i8 _,ao.refl _,.inl ⟨rfl,rfl⟩,by simpa using e4⟩,?_⟩
   rintro n m p H' ⟨rfl,hn,Y,rg,w⟩;have y:=Y a _ ju
   have GQ: ∀v,p.set j v=σ.set j v:=λv=>by
     rcases rg with ⟨_,rfl⟩| ⟨_,_,_,_,rfl⟩
     . rfl
     . rw [List.set_set]
   by_cases bQ:n<d.length
   . have u:d[n]?=some (d[n].1,d[n].2):=by simp [bQ]
     have I:(d.map (·.1)).drop n=d[n].1::(d.map (·.1)).drop (n+1):=by
       rw [xS (by simpa using bQ)];simp
     rw [I] at w;obtain ⟨ro,g1,g2⟩:=jd w
     refine .inr ⟨⟨y,bQ⟩,λGR H2=>ao (aH H a (.bE o (.dK d))) H2/\GR=σ.set j (some (kV d[n].1))/\Ab g j ((d.map (·.1)).drop (n+1)) (lend B)= .ok r,
       λGR H2 ⟨z1,z2,z3⟩=>⟨d.length-(n+1),by omega,rfl,bQ,z1,.inr ⟨d[n].1,d[n].2,by omega,by simpa using u,z2⟩,z3⟩,λx H2 ⟨y1,U,v,y2,y3⟩=>?_⟩
     subst y1 y3;rw [u] at y2;cases y2;show M8 X.K g _ (p.set j (some (kV d[n].1))) H2;rw [GQ];refine ⟨_,_,(lend B).set j (.ah (kD d[n].1)),ro,(kl.am Y).gz (M9 (Q _ _ _ u)),g1,?_⟩
     cases ro with
     |none=>exact λH3 s3=>⟨Y.trans s3,rfl,g2⟩
     |some b=>
       cases g2;cases e5;intro H3 s3;exact ⟨⟨o,s3 _ _ y⟩,q (.bl b) _ (k.af.trans (Vc O (Y.trans s3))) (.bl b) (λ_ z zz=>by cases zz)⟩
   . have GS:n=d.length:=by omega
     subst GS;rw [Ba (by simp)] at w;cases w;cases e5;have sH:=Vc O Y;refine .inl ⟨⟨y,bg _⟩,⟨o,y⟩,?_⟩;rcases rg with ⟨h0,rfl⟩| ⟨U,v,h0,hl,rfl⟩
     . have GU:=GV h0;subst GU;exact q _ _ (k.am sH) (a9.refl sH)
     . have J:(d.map (·.1)).getLast?=some U:=by
        rw [List.getLast?_eq_getElem?,gY,dQ,hl];rfl
       rw [J] at q
       exact q _ _ ((k.am sH).gz (M9 (Q _ _ _ hl))) (.set sH λ_ _ z _=>by cases z))
end
section
variable {X:Cx}
def oy:D->D->al D
 | .fq a c,e=>match hH e with
  |some k=>match bU a c k with
   |some d=> .ok d
   |none=> .aj
  |none=> .aj
 |_,_=> .aj
def Na:R2:=λx y H Q=> ∃a c k v,x= .ref a/\y=kV k/\Rd H a (.dK c)/\cf c k=some v/\Q v H
def jeN (j:X.A.units+1<cLine):o5 X Na:=by
 intro value c i s B H x y v u Q I l n h o;obtain ⟨a,d,k,z,rfl,rfl,p,r,q⟩:=h;obtain rfl:v=cX a:=l;have g:lP H a (kV k) (some z):=by rw [<-r];exact .inl ⟨d,k,p,rfl,rfl⟩
 exact tail_any (kL I g) PySem.F.slot_dict_getitem.lookup (RQ j I g n λE J w e=>⟨z,H,w,e,q⟩) o
def jhk {K:aC} (e:aL K A H x a) (g:aL K Any H y b) (h:oy a b= .ok d) (q: ∀v,aL K A H v d->Q v H):Na x y H Q:=by
 unfold oy at h
 split at h
 . split at h
   . rename_i k i
     split at h
     . rename_i w j;cases h
       cases e with
       | @fq _ _ a c _ _ _ l n o r=>
        subst n o;obtain ⟨v,p,u⟩:=(W6 k r.low).1 _ j;exact ⟨a,c,k,v,rfl,Xq g i,l.elim (λz=> .inl z.1) .inr,p,q v u⟩
     . cases h
   . cases h
 . cases h
def jid {e:Pos} (l:X.A.units+1<cLine) (n:DE X .s a o) (p:DE X N b r) (u:KY b:=by intro _ _;rfl):DE X .s (.Subscript a b e) (ap o r oy):=by
 with_unfolding_all exact (
  PE.imp (EZ (jeN l) n p u) λO H Q=>by
   rintro ⟨G,h,c,d,k,g,q⟩;obtain ⟨w,e1,g⟩:=jd g;obtain ⟨z,e2,B⟩:=jd g;refine ⟨G,h,c,w,k,e1,λx U i E _=>⟨G,h,c,z,k.am i,e2,λy I j J _=>?_⟩⟩
   exact jhk (E.am j) (J.aE Lv.bf) B λv L=>q v I (i.trans j) L trivial)
def GW:D->Option Int->Option Int->al D
 | .eN a,lo,c=> .ok (.ai (cutD a lo c))
 |_,_,_=> .aj
def jdk {lo:Option Expr} (y:DE X .s e f) (B:DO X lo E) (I:DO X J L):
   DE X .t (.Subscript e (.Slice lo J none p2) N) (qv f E L GW):=by
 with_unfolding_all exact (
  PE.imp (vJ mr y B I) λσ H Q=>by
   rintro ⟨G,j,g,d,k,h,q⟩;obtain ⟨a,e1,h⟩:=jd h;obtain ⟨l,e2,h⟩:=jd h;obtain ⟨n,O,v⟩:=jd h;refine ⟨G,j,g,a,k,e1,λx H1 o U _=>⟨G,j,g,l,k.am o,e2,λH2 r=>⟨G,j,g,n,(k.am o).am r,O,λY w=>?_⟩⟩⟩;have u:=o.trans (r.trans w)
   cases a with
   |eN ds=>
    cases v;obtain ⟨b,xs,rfl,hb,rs⟩:=((U.am r).am w).mL;refine ⟨b,xs,rfl,hb.nW,λp i=>q _ _ (u.trans (ao.aH i)) (.ai ju (k.new p (ao.free u i)) (((kO rs).laid i).aE λc z=>⟨z.1,z.2⟩)) ((qK (ao.refl Y) i).am u)⟩
   |_=>cases v)
def Nb (K:aC):R2:=λx y H Q=> ∃l b a c,x= .ref l/\y= .ref b/\cY K H l a/\cY K H b c/\a.length+c.length<=aP/\ ∀p,H p=none->Q (.ref p) (aH H p (.ai (a++c)))
def jhg:ck X (gw .Add) (Nb X.K):=by
 intro g s σ H x y v u Q I E J h;obtain ⟨l,b,xs,zs,rfl,rfl,L,N,hz,q⟩:=h;cases E;cases J;obtain ⟨c,r,⟨⟨c1,d1,O,d⟩,U,i,j,n,o⟩,z1⟩:=I.list L;obtain ⟨a,p,⟨⟨c2,d2,Y,e⟩,n2,g2,w,z,B⟩,z2⟩:=I.list N;simp only at j n o w z B;subst j n o w z B;have hl:=r.length;have sK:=p.length;refine concat_meets ⟨_,i,rfl⟩ ⟨_,g2,rfl⟩ noFill_list_add seq_list_add F.slot_list_add F.entry_list_add (F.args_list_add_2 _ _) (list_addW l b c.toArray a.toArray U n2 none none d e (by rw [cb,cb];omega)) ⟨i,g2,?_⟩;have ea:c.toArray++a.toArray=(c++a).toArray:=by simp
 rw [ea];exact ⟨.ref _,_,I.pJ (r.append p) (by rw [dr];omega),rfl,q _ I.fresh⟩
noncomputable def pY:D->D->al D
 | .eN a,.ai b=>aY (a.length+b.length<=aP) (.ok (.ai (a++b)))
 |_,_=> .aj
def jhn {K:aC}:sE K (Nb K) pY:=by
 intro A x y H a b d Q n o e q;unfold pY at e
 split at e
 . obtain ⟨r,u⟩:=jv e;cases u;obtain ⟨l,v,rfl,w,i⟩:=n.mL;obtain ⟨B,E,rfl,h,_,j⟩:=o.cK;refine ⟨l,B,v,E,rfl,rfl,w.nW,.of h,i.len_app j.low r,λp g=>q _ _ (ao.aH g) ?_ (qK (ao.refl H) g)⟩;exact .ai ju (.inl g) (((i.append j.low).laid g).aE λc z=>⟨.inr z.1,z.2⟩)
 . cases e
def Nc (i j:Int):Prop:=0<j/\j<2^200
def Y3:ck X (gw .FloorDiv) (rI Nc λi j=> .int (i/j)):=CD λi j _ _ _ _ _ a q=>by
 have d:=a.1;have e:=a.2;refine floordiv_int (by omega) (by rw [Int.fdiv_eq_ediv_of_nonneg i (by omega)];exact q) (.inl (PyProof.noPylong_of_log2 ?_));have c:j.natAbs<2^200:=by omega
 exact fH ((Nat.log2_lt (by omega)).mpr c) (by omega)
abbrev tM:Int->Int->Prop:=λ_ j=>0<j/\j<2^200
def Kb {K:aC}:fJ K (rI Nc λi j=> .int (i/j)) (gf tM λi j=> .int (i/j)):=pP (λ_ _ h=>h) λi j=>ms _
abbrev cA:=gf tM λi j=> .int (i/j)
end
section
variable {prog:bB} {w:World} {A:bH} {E:Vh}
theorem Uh (j:t≠o): ∀(n i:Nat) (s:aM) (Q:List Value->aM->Prop),s.heap.IsListIter o t i->s.heap.IsList t a->i+n<=a.size->
  (∀p,p.IsListIter o t (i+n)->ph o s.heap p->Q ((a.toList.drop i).take n) {s with heap:=p})->wpAny (model prog w) A (draw (.ref o) n) Q E s
 |0,i,s,Q,g,_,_,q=>by
  exact aZ (by simpa using q s.heap g (Heap.SameBut.refl ..))
 |n+1,i,s,Q,g,r,v,q=>by
  have bQ:i<a.size:=by omega
  refine ay (wpAny_pyNext_list_item g r (x:=a[i]) (by simp [bQ]) λu d c=>?_);refine ay (iy (Uh j n (i+1) _ _ d (r.extBut c.extBut j) (by omega) λl e h=>aZ ?_));have y:a.toList.drop i=a[i]::a.toList.drop (i+1):=by simp [xS,bQ]
  have:=q l (by rw [show i+(n+1)=i+1+n by omega];exact e) (c.trans h);rw [y,List.take_succ_cons] at this;exact this
variable {s:aM}
def Wy (r:A.handled=none) (i:s.heap.IsList t a)
   (u: ∀n,Heap.ExtBut s.heap.objs.size s.heap n->Q a.toList {s with heap:=n}):wpAny (model prog w) A (unpackItems (.ref t) a.size none) Q E s:=by
 have bQ:t≠s.heap.objs.size:=by obtain ⟨o,v,_⟩:=i;exact dJ (bO v)
 unfold unpackItems;refine ay ?_
 . unfold notIterableAtAll;refine ay (wpAny_specialOf i.typeIs slot_list_iter.lookup ?_);refine aZ ?_;simp;refine ay (iy (A6 i ?_));refine ay (iy (Uh bQ a.size 0 _ _ ⟨_,c9 _ rfl,rfl,rfl⟩ (i.push _) (by omega) λp d c=>?_))
   have j:List.take a.size (List.drop 0 a.toList)=a.toList:=by
    rw [List.drop_zero];exact List.take_of_length_le (by simp)
   rw [j];rw [if_neg (by simp)];have g:=(i.push _).extBut c.extBut bQ;refine ay (iy (wpAny_pyNext_list_end r d g (by simp) λl h=>?_));simp;refine aZ (u l λb o q e=>h b o q (c.extBut b o q (bI _ e)))
def UH (g:A.handled=none) (i:s.heap.IsList t c)
  (j:a.length=c.size) (d:a.findIdx? (·.1)=none)
  (h: ∀e,Heap.ExtBut s.heap.objs.size s.heap e->wpAny (model prog w) A (assignInOrder (a.map (·.2)) c.toList) Q E {s with heap:=e}):
  wpAny (model prog w) A (unpack (.ref t) a) Q E s:=by
 unfold unpack;rw [j,d];exact ay (iy (Wy g i h))
end
section
variable {X:Cx}
def GX (K:aC) (n:Nat) (t:qN):TG:=λv d H Q=> ∃a c,v= .ref a/\cY K H a c/\c.length=n/\t c d H Q
def jje {d:Pos} {k:Nat} (l:X.bM=true) (h:Au X g t)
  (p:(dO g X.env).length=n:=by rfl) (i:(dO g X.env).findIdx? (·.1)=none:=by rfl):PG X (.Tuple g k d) (GX X.K n t):=by
 intro c s q H v u Q I r hw;obtain ⟨a,w,e1,y,z,hw⟩:=hw;subst e1;cases r;obtain ⟨B,j,E,N⟩:=I.list y;rw [assign_Tuple];refine ay (xU (UH (I.ok.hd l) E.isList (by simp [p,<-z,j.length]) i λO J=>?_));have L:=I.kept (t':=s.toks) λb o e=>J b o (dJ (bO e)) e
 exact h c _ q H w _ Q L (by simpa using j) hw
noncomputable def tN (t u:TW):D->Sl->al Sl:=λd c=>match d with
 | .ai [x,y]=>t x c>>=λa=>u y a
 |_=> .aj
def Nd {k:Nat} {h:Pos} (y:X.bM=true) (z:DG X a t) (B:DG X b u)
   (E:(dO [a,b] X.env).map (·.2)=lG a X.env::(dO [b] X.env).map (·.2):=by rfl) (i:(dO [b] X.env).map (·.2)=lG b X.env::(dO [] X.env).map (·.2):=by rfl)
   (I:(dO [a,b] X.env).length=2:=by rfl) (j:(dO [a,b] X.env).findIdx? (·.1)=none:=by rfl):DG X (.Tuple [a,b] k h) (tN t u):=by
 with_unfolding_all exact (
  PG.imp (jje y (xh z (xh B Y1 i) E) I j) λv σ H Q=>by
   rintro ⟨G,o,l,d,g,k,r,e,q⟩;unfold tN at e
   split at e
   . obtain ⟨c,e1,e2⟩:=jd e;obtain ⟨a,xs,rfl,J,_,L⟩:=r.cK;obtain ⟨N,p,rfl,O,U⟩:=L.low.ap;refine ⟨a,_,rfl,.of J,rfl,N,[p],rfl,G,o,l,_,c,k,O,e1,λY k1 w=>⟨p,[],rfl,G,o,c,_,g,k1,w.rep k U,e2,λn k2 f2=>⟨rfl,q n k2 (w.trans f2)⟩⟩⟩
   . cases e)
end
noncomputable def lh (f:Str):List Str->List D->Option D
 |n::a,d::c=>if n=f then some d else lh f a c
 |_,_=>none
def Ac (f:Str):List Str->List Str
 | []=>[f]
 |n::a=>if n=f then n::a else n::Ac f a
def Ad (f:Str) (d:D):List Str->List D->List D
 | [],_=>[d]
 |n::c,e::a=>if n=f then d::a else e::Ad f d c a
 |_::_,[]=>[]
theorem Kr {K:aC}: ∀ {fs:List (Str×V)} {ds:List D} {d:D},au K A H (fs.map (·.2)) ds->lh f (fs.map (·.1)) ds=some d-> ∃v,fs.lookup f=some v/\aL K A H v d
 | [],_,_,_,h=>by simp [lh] at h
 | (n,v)::r,_,d,.cons q t,h=>by
  by_cases e:n=f
  . subst e;simp only [fh,lh,if_pos] at h;cases h;exact ⟨v,by simp [f6],q⟩
  . simp only [fh,lh,if_neg e] at h;obtain ⟨a,c,g⟩:=Kr t h;exact ⟨a,by rw [lx];simp [show (f==n)=false from by simpa using λz=>e z.symm,c],g⟩
theorem vC {K:aC} (a:aL K A H v d): ∀ {fs:List (Str×V)} {ds:List D},au K A H (fs.map (·.2)) ds->(cR f v fs).map (·.1)=Ac f (fs.map (·.1))/\au K A H ((cR f v fs).map (·.2)) (Ad f d (fs.map (·.1)) ds)
 | [],_,.nil=>⟨rfl,.cons a .nil⟩
 | (n,u)::r,_,.cons q t=>by
  by_cases e:n=f
  . simp only [cR,fh,Ac,Ad,if_pos e];exact ⟨trivial,.cons a t⟩
  . simp only [cR,fh,Ac,Ad,if_neg e];obtain ⟨c,g⟩:=vC a t;exact ⟨by rw [c],.cons q g⟩
theorem Zf: ∀ {fs:List (Str×V)},(fs.map (·.1)).contains f=false->fs.lookup f=none
 | [],_=>rfl
 | (n,u)::r,h=>by
  simp only [fh,F9,Bool.or_eq_false_iff] at h;rw [lx];simp [h.1,Zf h.2]
def aL.objE {K:aC} (r:aL K A H v (.obj c ns ds)): ∃a C dx fs,v= .ref a/\H a=some (.ins C dx fs)/\A a/\cT K cc c=some (some (.ref C))/\fs.map (·.1)=ns/\au K (λc=>A c/\c≠a) H (fs.map (·.2)) ds:=by
 cases r with
 |obj e a d g r=>subst g;exact ⟨_,_,_,_,rfl,e,a,d.1,d.2,r⟩
def Nf {K:aC} {i:Nat} (k:ax K G p env d H) (h:env[i]?=some (.aw (.obj c j ds))):
  ∃a C dx fs,d[i]?=some (some (.ref a))/\H a=some (.ins C dx fs)/\cT K cc c=some (some (.ref C))/\fs.map (·.1)=j/\au K (Sf G env d) H (fs.map (·.2)) ds:=by
 obtain ⟨a,l,_,n⟩:=k.aw i _ h
 cases n with
 |obj e g o r=>subst o;exact ⟨a,_,_,_,l,e,g.1,g.2,r⟩
structure m7 (K:aC) (c f:Str):Prop where
 ex: ∃C,cT K cc c=some (some (.ref C))/\f7 K C/\dP K C f
def m7.at {K:aC} (h:m7 K c f) (e:cT K cc c=some (some (.ref C))):f7 K C/\dP K C f:=by
 obtain ⟨a,h1,h2⟩:=h.ex;rw [e] at h1;cases h1;exact h2
def m8 (c f:Str):D->al D
 | .obj a e g=>aY (a=c) (match lh f e g with
  |some d=> .ok d
  |none=> .aj)
 |_=> .aj
def je5 (h:m8 c f o= .ok d): ∃a ds,o= .obj c a ds/\lh f a ds=some d:=by
 unfold m8 at h
 split at h
 . rename_i j a ds;obtain ⟨i,g⟩:=jv h;subst i
   cases e:lh f a ds with
   |none=>rw [e] at g;cases g
   |some l=>rw [e] at g;cases g;exact ⟨a,ds,rfl,e⟩
 . cases h
def gk (c f:Str) (d:T1):Sl->al D:=λa=>d a>>=m8 c f
section
variable {X:Cx} {e:Expr} {fo:T1} {pos p:Pos} {c f:Str}
def KL (i:Nat) {x:Str} (j:m7 X.K c f) (E:X.N[i]?=some x:=by rfl) (I:gM X.env.scope x:=by exact eE rfl)
   (J:YU x:=by decide) (l:WV x:=by decide)
   (L:nR (.Name x p) f X.env (eval (.Name x p) X.env)=eval (.Name x p) X.env:=by rfl):DE X .s (.Attribute (.Name x p) f pos) (gk c f (ge i)):=by
 with_unfolding_all exact (
  PE.imp (Ri (xF E I J l) L) λY H Q=>by
   rintro ⟨G,H0,N,d,k,O,q⟩;obtain ⟨o,e1,e2⟩:=jd O;obtain ⟨ns,ds,rfl,B⟩:=je5 e2;rcases US e1 with z|z
   . obtain ⟨v,n,U⟩:=k.ah i _ z;obtain ⟨a,C,dx,fs,rfl,r,_,g,u,w⟩:=U.objE;subst u;obtain ⟨h,y,g2⟩:=Kr w B;exact ⟨_,n,a,C,dx,fs,h,rfl,r,(j.at g).1,(j.at g).2,y,q h H (ao.refl H) (g2.aE λ_ z=>z.1) trivial⟩
   . obtain ⟨a,C,dx,fs,n,r,g,u,w⟩:=Nf k z;subst u;obtain ⟨h,y,g2⟩:=Kr w B
     exact ⟨_,n,a,C,dx,fs,h,rfl,r,(j.at g).1,(j.at g).2,y,q h H (ao.refl H) g2 trivial⟩)
end
inductive eK where
 |nx (env:Sl)|rt (d:D) (env:Sl)
def GY (K:aC) (G:Vi) (h:Hp) (i:Nat) (a:Addr) (env:Sl) (j:L2.St) (H:Hp) (E:Ends):eK->Prop
 | .nx c=> ∀e g,ax K G h c e g->At e i a->a9 env j H c e g->E.nx e g
 | .rt d c=> ∀v e g,ax K G h c e g->At e i a->a9 env j H c e g->aL K (Sf G c e) g v d->E.rt v g
def Ng (K:aC) (i:Nat) (g:Sl->al eK):TS:=λE d H=> ∃G e c o a,ax K G e c d H/\At d i a/\g c= .ok o/\GY K G e i a c d H E o
@[irreducible] def BX (X:Cx) (i:Nat) (st:Stmt) (g:Sl->al eK):Prop:=PS X st (Ng X.K i g)
@[irreducible] def iN (X:Cx) (i:Nat) (st:List Stmt) (g:Sl->al eK):Prop:=dM X st (Ng X.K i g)
theorem U7 {K:aC} (f:a9 env p H d g r) (q:GY K G u i a env p H E o):GY K G u i a d g r E o:=by
 cases o with
 |nx e=>exact λc h j l n=>q c h j l (f.trans n)
 |rt b e=>exact λv c h j l n w=>q v c h j l (f.trans n) w
section
variable {X:Cx} {i:Nat} {e j tg:Expr} {st:Stmt} {rest v J:List Stmt} {r p u:Pos} {l:Lv} {f:T1} {g B g2:Sl->al eK} {c n x:Str}
noncomputable def pZ (B g2:Sl->al eK):Sl->al eK:=λd=>B d>>=λo=>match o with
 | .nx a=>g2 a
 | .rt b e=> .ok (.rt b e)
def Ug (z:BX X i st B) (I:iN X i rest g2):iN X i (st::rest) (pZ B g2):=by
 with_unfolding_all exact (dM.imp (WG z I) λE σ H=>by
  rintro ⟨G,w,h,o,a,k,L,N,q⟩;obtain ⟨y,e1,e2⟩:=jd N;refine ⟨G,w,h,y,a,k,L,e1,?_⟩
  cases y with
  |nx d=>exact λO H' Q U Y=>⟨G,w,d,o,a,Q,U,e2,U7 Y q⟩
  |rt b d=>cases e2;exact q)
def uz (a:BX X i st B):iN X i [st] B:=by
 with_unfolding_all exact (dM.imp (ZW a) λE d H q=>q)
noncomputable def Nh:Sl->al eK:=λa=> .ok (.nx a)
def jfl:iN X i [] Nh:=by
 with_unfolding_all exact (dM.imp UU λE d H=>by
  rintro ⟨G,z,h,o,a,k,w,y,q⟩;cases y
  exact q d H k w (a9.refl (ao.refl H)))
noncomputable def GZ (t:T0) (B g2:Sl->al eK):Sl->al eK:=λa=>t a>>=λb=>if b=true then B a else g2 a
def jj9 (y:DT X j t) (z:iN X i v B) (I:iN X i J g2):BX X i (.If j v J r) (GZ t B g2):=by
 with_unfolding_all exact (PS.imp (vu y z I) λE N H=>by
  rintro ⟨G,h,d,o,a,k,w,L,q⟩;obtain ⟨b,e1,e2⟩:=jd L;refine ⟨G,h,d,b,k,e1,λO s=>?_⟩
  cases b with
  |true=>
   rw [if_pos rfl] at e2 ⊢;exact ⟨G,h,d,o,a,k.am s,w,e2,U7 (a9.refl s) q⟩
  |false=>
   rw [if_neg gd] at e2 ⊢
   exact ⟨G,h,d,o,a,k.am s,w,e2,U7 (a9.refl s) q⟩)
def Ni:Sl->al eK:=λ_=> .aj
def jc8:BX X i st Ni:=by
 with_unfolding_all exact (λd s y H E I ⟨G,z,h,o,a,k,L,w,q⟩=>by cases w)
noncomputable def m9 (i:Nat) (c:Str):Sl->al (List Str×List D):=λa=>match a[i]? with
 |some (.aw (.obj d h o))=>aY (d=c) (.ok (h,o))
 |_=> .aj
def jes (h:m9 i c env= .ok q):env[i]?=some (.aw (.obj c q.1 q.2)):=by
 unfold m9 at h
 split at h
 . rename_i o w y e;obtain ⟨a,d⟩:=jv h;subst a;cases d;exact e
 . cases h
def Dw (i:Nat) (c n:Str) (f:T1):Sl->al eK:=λa=>f a>>=λd=>m9 i c a>>=λq=>aY (q.1.length<1000) (.ok (.nx (a.set i (.aw (.obj c (Ac n q.1) (Ad n d q.1 q.2))))))
def uA (U:m7 X.K c n) (h:DE X .s e f) (hN:X.N[i]?=some x:=by rfl) (hv:gM X.env.scope x:=by exact eE rfl)
   (hd:YU x:=by decide) (L:WV x:=by decide)
   (hs:ix e (some (.Attribute (.Name x p) n u)) r.line X.env=pure false:=by rfl):BX X i (.Assign [.Attribute (.Name x p) n u] e r) (Dw i c n f):=by
 with_unfolding_all exact (
  PS.imp (Rj (xF hN hv hd L) h hs) λE σ H=>by
   rintro ⟨G,H0,N,o,a,k,I,z,q⟩;obtain ⟨d,e1,z⟩:=jd z;obtain ⟨ns,e2,z⟩:=jd z;obtain ⟨Y,e3⟩:=jv z;cases e3;have hi:=jes e2;refine ⟨G,H0,N,d,k,e1,λy H1 O r1 _=>?_⟩;obtain ⟨a',C,dx,fs,h1,hx,Q,hn,rs⟩:=Nf (k.am O) hi;rw [I] at h1;cases h1;refine ⟨_,I,a,C,dx,fs,rfl,hx,(U.at Q).1,(U.at Q).2,by rw [<-hn,dQ] at Y;exact Y,?_⟩;obtain ⟨p1,p2⟩:=vC r1 rs;rw [hn] at p1 p2;have W:=(k.am O).iG (o':= .ins C dx (cR n y fs)) hi I hx trivial λA' H' st e w=> .obj e ⟨Q,p1⟩ rfl (p2.a5 st w)
   exact q σ _ W.1 I (W.2.am O))
end
structure lY (P:bB) (w:World) (K:aC) (mg:Vj) (af:Heap) (k:Nat) (c m:Str) (ps:List Str) (fr:Bool) (F:TX):Prop where
 ex: ∃C f fd,bX P w K mg af gq k f fd ps (nD K fr ps.length F)/\cT K cc c=some (some (.ref C))/\f7 K C/\Meth K C m f/\Binds K fd ps []
def lY.mono {K:aC} (h:lY P w K mg af j c m d e F) (g:j<=k):lY P w K mg af k c m d e F:=
 let ⟨C,f,i,a,b⟩:=h.ex
 ⟨C,f,i,a.mono g,b⟩
def X6 (c m:Str) (n:Nat) (F:TX) (i:T1) (g:TY):Sl->al D:=λa=>i a>>=λo=>match o with
 | .obj d e j=>aY (d=c/\e.contains m=false) (g a>>=λh=>aY (h.length+1=n) (F (.obj d e j::h)))
 |_=> .aj
def VI (h:X6 c m n F j g env= .ok d): ∃a e ds,j env= .ok (.obj c a e)/\a.contains m=false/\g env= .ok ds/\ds.length+1=n/\F (.obj c a e::ds)= .ok d:=by
 obtain ⟨o,l,h⟩:=jd h
 cases o with
 |obj y a e=>
  obtain ⟨⟨p,q⟩,r⟩:=jv h;subst p;obtain ⟨ds,u,i⟩:=jd r;obtain ⟨v,w⟩:=jv i;exact ⟨a,e,ds,l,q,u,v,w⟩
 |_=>cases h
section
variable {X:Cx} {k n:Nat} {c m:Str} {ps:List Str} {fr:Bool} {F:TX} {o e:Expr} {es:List Expr} {pos apos:Pos} {fo:T1} {g:TY} {pl:Sem Bool}
def lY.aB (A:lY X.prog X.w X.K X.mg X.af k c m ps true F) (hr:aI k X.A) (J:DE X .s o fo) (L:DA X .s (e::es) g) (j:ps.length=n:=by rfl)
  (l:UO X e es:=by exact jm rfl) (p:UN X pos es:=by exact jS rfl)
  (N:eval (.Call (.Attribute o m apos) (e::es) [] pos) X.env=(do
   let r<-eval o X.env
   nw apos.atName
   let (f,first)<-mE [r] (r9 r m pl)
   callWith pos f first (dL pos (bb (e::es) X.env)) (lK pos (lL [] X.env))):=by rfl):DE X .t (.Call (.Attribute o m apos) (e::es) [] pos) (X6 c m n F fo g):=by
 subst j;obtain ⟨C,f,fd,h1,h2,O,U,Y⟩:=A.ex
 with_unfolding_all exact (
 PE.imp (Rr J O U h1 hr Y .nil xL L l p N) λσ H Q=>by
  rintro ⟨u,w,env,d,k,ef,q⟩;obtain ⟨ns,vs,y,e1,e2,e3,e4,e5⟩:=VI ef;refine ⟨u,w,env,_,k,e1,λv H1 h B _=>?_⟩;obtain ⟨a,C',dx,fs,rfl,hx,_,E,j,rs⟩:=B.objE;rw [h2] at E;cases E;refine ⟨a,dx,fs,rfl,hx,Zf (by rw [j];exact e2),u,w,env,y,k.am h,e3,λws H2 i I=>?_⟩;show nD X.K true ps.length F (.ref a::(ws++[])) H2 Q (λ_ _ _=>False);rw [nS]
  exact ⟨_,_::y,d,by simp [I.length,e4],.cons (B.am i) I,e5,λv H3 s3 r3 nt=>q v H3 (h.trans (i.trans s3)) (r3.aE λc z=>z.elim (λz=>k.new c (ao.free h (ao.free i z))) λz=>z) (((nt rfl).am i).am h)⟩)
noncomputable def pC:Sl->al (List D):=λ_=> .ok []
def lY.tP (A:lY X.prog X.w X.K X.mg X.af k c m ps true F) (hr:aI k X.A) (r:DE X .s o fo) (h:ps.length=n:=by rfl)
  (u:eval (.Call (.Attribute o m apos) [] [] pos) X.env=(do
   let j<-eval o X.env
   nw apos.atName
   let (f,first)<-mE [j] (r9 j m pl)
   callWith pos f first (dL pos (bb [] X.env)) (lK pos (lL [] X.env))):=by rfl):DE X .t (.Call (.Attribute o m apos) [] [] pos) (X6 c m n F fo pC):=by
 subst h;obtain ⟨C,f,fd,h1,h2,w,y,B⟩:=A.ex
 with_unfolding_all exact (
 PE.imp (Rs r w y h1 hr B .nil xL u) λσ H Q=>by
  rintro ⟨E,I,env,d,k,J,q⟩;obtain ⟨ns,vs,ds,e1,e2,L,N,O⟩:=VI J;cases L;refine ⟨E,I,env,_,k,e1,λv H1 i l _=>?_⟩;obtain ⟨a,C',dx,fs,rfl,U,_,p,h,rs⟩:=l.objE;rw [h2] at p;cases p;refine ⟨a,dx,fs,rfl,U,Zf (by rw [h];exact e2),?_⟩
  exact ⟨_,[_],d,by simp [<-N],.cons l .nil,O,λv Y s3 r3 nt=>q v Y (i.trans s3) (r3.aE λc z=>z.elim (λz=>k.new c (ao.free i z)) λz=>z) ((nt rfl).am i)⟩)
end
section
variable {P:bB} {w:World} {K:aC} {mg:Vj} {af:Heap}
def jkj {st:Stmt} (l:Bool) (p:iB K m a st f n) (q:cT K cc c=some (some (.ref C))) (r:f7 K C) (u:Meth K C m f) (S:ar N o (jf st)) (j:Binds K n o [])
  (v: ∀(i:Value) (A:bH) (e:List Env) (s:aM) (H:Hp) (E:XK),aI k (A.deeper (gn a (jf st) s.heap.objs.size f i))->iD (bu gq P w K mg af N a (jf st) f i A e s H E).lF (qa st) g):
  lY P w K mg af (k+1) c m o l (aG l N.length g):=
 ⟨C,f,n,Fz p S v λy d _ h=>ZT h,q,r,u,j⟩
end
abbrev FO:=D->List D->al (D×D)
def Nj (K:aC) (n:Nat) (F:FO):Sp:=λi H Q _=> ∃(B:Vi) (g:List D) (e:List V) (a:Addr) (d0 r h:D),i=V.ref a::e/\e.length=n/\au K (λc=>B c/\c≠a) H e g/\Top K (λc=>B c/\c≠a) H a d0/\F d0 g= .ok (r,h)/\
 ∀v d,(∀c o,c≠a->H c=some o->d c=some o)->Top K (λc=>(H c=none\/B c)/\c≠a) d a h->aL K (λc=>(H c=none\/B c)/\c≠a) d v r->Q v d
def QR (n:Nat) (d0:D) (ds:List D):Sl:= .aw d0::(ds.map .ah++dq (n-ds.length-1) .un)
def JY (h:(QR n d0 ds)[j]?=some s):(j=0/\s= .aw d0)\/(∃a d,j=a+1/\ds[a]?=some d/\s= .ah d)\/s= .un:=by
 unfold QR at h
 cases j with
 |zero=>simp at h;exact .inl ⟨rfl,h.symm⟩
 |succ j=>
  rw [o6] at h
  by_cases q:j<ds.length
  . rw [ig (by simpa using q),gY] at h
    cases e:ds[j]? with
    |none=>rw [e] at h;cases h
    |some x=>rw [e] at h;cases h;exact .inr (.inl ⟨j,x,rfl,e,rfl⟩)
  . rw [gP (by simpa using q),pD] at h
    split at h
    . cases h;exact .inr (.inr rfl)
    . cases h
def jaK {K:aC} {B:Vi} (r:au K (λc=>B c/\c≠a) H g ds) (t:Top K (λc=>B c/\c≠a) H a d0) (J:ds.length+1<=N.length):
   ax K (λc=>H c=none\/c=a\/B c) (λc=>if c=a then none else H c) (QR N.length d0 ds) (start N (V.ref a::g)) H/\At (start N (V.ref a::g)) 0 a:=by
 have E:=r.length
 have l:At (start N (V.ref a::g)) 0 a:=by
   show (L2.start N (V.ref a::g))[0]?=_;unfold L2.start;simp
 have p: ∀(j:Nat) (v:V),g[j]?=some v->(start N (V.ref a::g))[j+1]?=some (some v):=λj v h=>by
   have L:=(ic.mp h).1;unfold L2.start;rw [ig (by simp;omega),gY,o6,h];rfl
 have q: ∀c,zV (QR N.length d0 ds) (start N (V.ref a::g)) c->c=a:=λc ⟨j,d,u,n⟩=>by
   rcases JY u with ⟨rfl,_⟩| ⟨_,_,_,_,z⟩|z
   . rw [l] at n;cases n;rfl
   . cases z
   . cases z
 have w: ∀c,B c/\c≠a->Sf (λc=>H c=none\/c=a\/B c) (QR N.length d0 ds) (start N (V.ref a::g)) c:=λc z=>⟨λo=>z.2 (q c o),.inr (.inr z.1)⟩
 refine ⟨⟨?_,λc o e=>?_,λc e=>?_,λj d h=>?_,λj d h=>?_,λj y d e b u n O Q=>?_⟩,l⟩
 . simp [L2.start,QR,E];omega
 . split at e
   . cases e
   . exact e
 . split at e
   . rename_i z;exact .inr (.inl z)
   . exact .inl e
 . rcases JY h with ⟨_,z⟩| ⟨y,I,rfl,e,z⟩|z
   . cases z
   . cases z;obtain ⟨v,u,n⟩:=r.get e;exact ⟨v,p y v u,n.aE w⟩
   . cases z
 . rcases JY h with ⟨rfl,z⟩| ⟨y,I,_,e,z⟩|z
   . cases z;exact ⟨a,l,if_pos rfl,t.a5 (λ_ _ e _=>e) w λ_ e=>e⟩
   . cases z
   . cases z
 . have i: ∀(j:Nat) (d:D),(QR N.length d0 ds)[j]?=some (.aw d)->j=0:=λj d h=>by
     rcases JY h with ⟨z,_⟩| ⟨_,_,_,_,z⟩|z
     . exact z
     . cases z
     . cases z
   rw [i j d u,i y e n]
def BY:Sl->al D
 | .aw d::_=> .ok d
 |_=> .aj
def jbx (h:BY env= .ok d):env[0]?=some (.aw d):=by
 unfold BY at h
 split at h
 . cases h;rfl
 . cases h
noncomputable def oz (N n:Nat) (g:Sl->al eK):FO:=λd0 c=>aY (c.length=n) (g (QR N d0 c)>>=λo=>match o with
 | .nx a=>BY a>>=λd=> .ok (.aU,d)
 | .rt r a=>BY a>>=λd=> .ok (r,d))
section
variable {P:bB} {w:World} {K:aC} {mg:Vj} {af:Heap}
def jjY {m p:Str} {st:Stmt} (Fu:iB K m p st f fd) (S:ar N ps (jf st)) (hn:ps.length=n+1) (hN:n+1<=N.length)
  (hb: ∀(u:Value) (A:bH) (l:List Env) (s:aM) (H:Hp) (E:XK),aI k (A.deeper (gn p (jf st) s.heap.objs.size f u))->iN (bu gq P w K mg af N p (jf st) f u A l s H E).lF 0 (qa st) g):
  bX P w K mg af gq (k+1) f fd ps (Nj K n (oz N.length n g)):=by
 with_unfolding_all exact (by
 refine Fu.ok S (λvs H Q E ⟨B,ds,us,a,d0,r,d1,Y,hl,_⟩=>by rw [Y,bN,hl,hn]) (λu A l s H vs Q E hr h=>?_);obtain ⟨B,ds,us,a,d0,r,d1,Y,hl,rs,t,I,q⟩:=h;refine ⟨_,hb u A l s H E hr,?_⟩;obtain ⟨e0,I⟩:=jv I;obtain ⟨o,e1,I⟩:=jd I;subst Y;obtain ⟨kk,hat⟩:=jaK (N:=N) rs t (by omega)
 have O: ∀(i:Sl) (j:L2.St) (y:Hp) (v:V),ax K (λc=>H c=none\/c=a\/B c) (λc=>if c=a then none else H c) i j y->At j 0 a->BY i= .ok d1->aL K (Sf (λc=>H c=none\/c=a\/B c) i j) y v r->Q v y:=λi j y v J L e2 rv=>by
  have hi:=jbx e2;obtain ⟨a2,h1,_,t2⟩:=J.aw 0 _ hi;rw [L] at h1;cases h1
  have ww: ∀c,Sf (λc=>H c=none\/c=a\/B c) i j c->(H c=none\/B c)/\c≠a:=λc z=>by
   have U:c≠a:=by
     rintro rfl;exact z.1 ⟨0,_,hi,L⟩
   refine ⟨?_,U⟩;rcases z.2 with z|z|z
   . exact .inl z
   . exact absurd z U
   . exact .inr z
  exact q v y (λc o hc e=>J.af c o (by rw [if_neg hc];exact e)) (t2.a5 (λ_ _ e _=>e) ww λ_ e=>e) (rv.aE ww)
 refine ⟨_,_,_,o,a,kk,hat,e1,?_⟩
 cases o with
 |nx i=>
  obtain ⟨d,e2,e3⟩:=jd I;cases e3;exact λj y J L f'=>O i j y .aU J L e2 .aU
 |rt r' i=>
  obtain ⟨d,e2,e3⟩:=jd I;cases e3
  exact λv j y J L f' rv=>O i j y v J L e2 rv)
end
structure tQ (P:bB) (w:World) (K:aC) (mg:Vj) (af:Heap) (k:Nat) (c:Str) (n:Nat) (F:FO):Prop where
 ex: ∃C f fd ps,bX P w K mg af gq k f fd ps (Nj K n F)/\cT K cc c=some (some (.ref C))/\mg c=some (.ref C)/\Mk K C f/\Binds K fd ps []
def BZ (c:Str) (n:Nat) (F:FO) (g:TY):Sl->al D:=λa=>g a>>=λe=>aY (e.length=n) (F (.obj c [] []) e>>=λq=>match q with
 | (.aU,d)=> .ok d
 |_=> .aj)
section
variable {X:Cx} {k n:Nat} {c:Str} {F:FO} {e:Expr} {es:List Expr} {pos p:Pos} {g:TY}
def tQ.make (A:tQ X.prog X.w X.K X.mg X.af k c n F) (hr:aI (k+1) X.A) (J:DA X .s (e::es) g) (hg:Gl X c:=by rfl) (l:YU c:=by decide)
  (L:UO X e es:=by exact jm rfl) (u:UN X pos es:=by exact jS rfl):
  DE X .t (.Call (.Name c p) (e::es) [] pos) (BZ c n F g):=by
 obtain ⟨C,f,fd,ps,h1,h2,N,O,U⟩:=A.ex
 with_unfolding_all exact (
 PE.imp (Rv O h1 hr hg N U .nil xL J l L u) λY H Q=>by
  rintro ⟨G,H0,env,d,k,a,q⟩;obtain ⟨y,e1,a⟩:=jd a;obtain ⟨hn,a⟩:=jv a;obtain ⟨⟨r,d1⟩,e2,a⟩:=jd a
  cases r with
  |aU=>
   cases a;refine ⟨G,H0,env,y,k,e1,λvs B j E x dx i w ne=>?_⟩
   have S:ao B (aH (aH B dx (.aw x)) x (.ins C dx [])):=λb o h=>by
    rw [jF (ql h i),jF (ql h w)];exact h
   have kx:=k.new x (ao.free j i);have rr:=E.cu.am S;rw [nS];refine ⟨Sf G env Y,y,vs,x,_,.aU,d,rfl,by rw [E.length];exact hn,rr.aE λb z=>⟨z.1,by rintro rfl;exact z.2 i⟩,.obj ju ⟨h2,rfl⟩ rfl .nil,e2,λv I hs t rv=>⟨rv.sD,?_⟩⟩;have sH:ao H I:=λb o h=>hs b o (ql (j b o h) i) (S b o (j b o h))
   refine q _ I sH (t.rep (λb z=>⟨z.1.elim (λz=>k.new b (ao.free j (ao.free S z))) λz=>z,z.2⟩) kx) λb h o qb m=>?_
   cases h;rw [j _ _ qb] at i;cases i
  |_=>cases a)
end
section
variable {P:bB} {w:World} {K:aC} {mg:Vj} {af:Heap}
def jkl {st:Stmt} (o:iB K m a st f l) (p:cT K cc c=some (some (.ref C))) (h:mg c=some (.ref C)) (mk:Mk K C f) (S:ar N i (jf st)) (j:Binds K l i []) (q:i.length=n+1) (r:n+1<=N.length)
  (u: ∀(e:Value) (A:bH) (d:List Env) (s:aM) (H:Hp) (E:XK),aI k (A.deeper (gn a (jf st) s.heap.objs.size f e))->iN (bu gq P w K mg af N a (jf st) f e A d s H E).lF 0 (qa st) g):
  tQ P w K mg af (k+1) c n (oz N.length n g):=
 ⟨C,f,l,i,jjY o S q r u,p,h,mk,j⟩
end
section
variable {prog:bB} {w:World} {A:bH} {E:Vh} {s:aM}
structure cM (h:Heap) (a:Addr) (es:Array (Int×Value)) (ep:Nat) (t:SetTable):Prop where
 ex: ∃o,h.get? a=some o/\o.ExactSet/\o.data= .set es ep t
 el: ∀e∈es.toList,∃k tk,e.2= .int k tk/\e.1=hashInt k
 bd:es.size<rC
 ft:t.fits es.size=true
def cM.of (i:h.SetOf (mn prog w) a S n): ∃c d t,cM h a c d t/\c.size=n/\(∀k,S k=true↔ ∃e∈c.toList,(mn prog w).is k e.2=true):=by
 obtain ⟨o,c,d,t,j,l,hd,g,p,q,r,u⟩:=i;refine ⟨c,d,t,⟨⟨o,j,l,hd⟩,λe v=>?_,q,r⟩,u,p⟩;obtain ⟨⟨k,h1,h2⟩,_⟩:=g e v;obtain ⟨tk,y⟩:=Ee h1;exact ⟨k,tk,y,h2⟩
def cM.state (h:cM s.heap a c d t) (e:Q (c,d,t) s):wpAny (model prog w) A (setState a) Q E s:=by
 obtain ⟨o,g,_,hd⟩:=h.ex;exact wpAny_setState_of g hd h.ft e
def W7 {c:Array (Int×Value)} (g: ∀e∈c.toList,∃k tk,e.2= .int k tk/\e.1=hashInt k) {d:Type} {a:d} {f:Int×Value->d->Sem (ForInStep d)} {Q:d->aM->Prop}
   (l: ∀h k tk,f (h,.int k tk) a=pure (.yield a)) (n:Q a s):wpAny (model prog w) A (forIn c a f) Q E s:=by
 refine Nk f (λrest b i=>b=a/\i=s/\ ∀e∈rest,e∈c.toList) Q ?_ ?_ c a ⟨rfl,rfl,λ_ h=>h⟩
 . rintro ⟨h,x⟩ rest b i ⟨rfl,rfl,j⟩;obtain ⟨k,tk,e1,e2⟩:=g _ (j _ lE);dsimp only at e1;subst e1;rw [l];exact aZ ⟨rfl,rfl,λe o=>j e (gc _ o)⟩
 . rintro b i ⟨rfl,rfl,_⟩;exact n
def jai {a b c:Addr} {e1 e2 h:Array (Int×Value)} {i j l:Nat} {n o p:SetTable} (d:cM s.heap a e1 i n) (e:cM s.heap b e2 j o) (g:cM s.heap c h l p) {Q:Bool->aM->Prop} (q:Q true s):
  wpAny (model prog w) A (setsQuiet [a,b,c]) Q E s:=by
 unfold setsQuiet setEntries;simp;refine ay (d.state ?_);refine ay (W7 d.el (λ_ _ _=>rfl) ?_);dsimp only;simp;refine ay (e.state ?_);refine ay (W7 e.el (λ_ _ _=>rfl) ?_);dsimp only;simp;refine ay (g.state ?_);refine ay (W7 g.el (λ_ _ _=>rfl) ?_);dsimp only;simp;exact aZ q
theorem Nl {c:Type} (next:Nat->Nat): ∀(fuel k:Nat) (left:List c) (a:Array c) (x:c),x∈(pickOrder.go next fuel k left a).toList->x∈left\/x∈a.toList
 |0,_,_,a,x,h=> .inr h
 |fuel+1,k,left,a,x,h=>by
  unfold pickOrder.go at h
  split at h
  . rename_i y e;rcases Nl next fuel (k+1) _ _ x h with z|z
    . exact .inl (List.mem_of_mem_eraseIdx z)
    . rw [Array.toList_push,mD] at z;rcases z with z|z
      . exact .inr z
      . rw [List.mem_singleton] at z;subst z;exact .inl (lu e)
  . exact .inr h
def jej {a:Type} {c:Array a} {x:a} (h:x∈(pickOrder next c).toList):x∈c.toList:=by
 rcases Nl next _ _ _ _ x h with z|z
 . exact z
 . simp at z
def Vg {d:SetTable} (l:cM s.heap a c q d) (g:w.params.followText "set-order" =true\/((!d.plain&&decide (c.size>1))=false/\(!d.led&&decide (c.size>1))=false)) {Q:Array (Int×Value)->aM->Prop}
  (h: ∀i:Array (Int×Value),(∀e∈i.toList,e∈c.toList)->Q i s):wpAny (model prog w) A (setWalk a) Q E s:=by
 unfold setWalk setsByText;refine ay (l.state ?_);dsimp only;simp;refine ay (wpAny_askSetting ?_);dsimp only
 cases j:(model prog w).w.params.followText "set-order" with
 |true=>
  simp;refine ay (wpAny_askSetting (aZ (h _ λe n=>jej n)))
 |false=>
  simp;rcases g with g| ⟨o,p⟩
  . rw [show (model prog w).w.params.followText "set-order" =w.params.followText "set-order" from rfl,g] at j;cases j
  . show wpAny _ _ (if (!d.plain&&decide (c.size>1))=true then _ else _) _ _ _;rw [o];simp;show wpAny _ _ ((if (!d.led&&decide (c.size>1))=true then unsupported "set:maker-not-led" else pure ())>>=λ_=>pure c) _ _ _;rw [p];simp;exact aZ (h _ λ_ z=>z)
def cM.keep (x:cM h a c d t) (k: ∀o,h.get? a=some o->e.get? a=some o):cM e a c d t:=
 let ⟨o,h1,h2⟩:=x.ex
 ⟨⟨o,k o h1,h2⟩,x.el,x.bd,x.ft⟩
def WS (n:cM s.heap a d U ta) (H:cM s.heap o Y po I) (g:cM s.heap f #[] pf l)
   (h: ∀(c:Array (Int×Value)) (p:Heap),(∀e∈c.toList,e∈d.toList)->(∀b ob,b≠f->s.heap.get? b=some ob->p.get? b=some ob)->(∃q r,cM p f #[] q r)->Q c {s with heap:=p}):
   wpAny (model prog w) A (setWalkUnseen a [o,f] (some f)) Q E s:=by
 unfold setWalkUnseen setsByText;refine ay (n.state ?_);dsimp only;simp only [bind_assoc,pure_bind];refine ay (wpAny_askSetting ?_);dsimp only;have i: ∀c:Array (Int×Value),(∀e∈c.toList,e∈d.toList)->Q c s:=λc z=>h c s.heap z (λ_ _ _ e=>e) ⟨_,_,g⟩
 by_cases hc:((model prog w).w.params.followText "set-order" ||ta.led&&ta.plain||decide (d.size<=1))=true
 . rw [if_pos hc];refine Vg n ?_ λc hw=>i c hw
   simp at hc;rcases hc with (hc| ⟨J,L⟩)|hc
   . exact .inl hc
   . exact .inr ⟨by simp [L],by simp [J]⟩
   . have: ¬(d.size>1):=by omega
     exact .inr ⟨by simp [this],by simp [this]⟩
 . rw [if_neg hc];refine ay (jai n H g ?_);simp;refine ay (sW ?_);refine ay (g.state ?_);dsimp only
   split
   . obtain ⟨ob,v,y,B⟩:=g.ex;refine ay (wpAny_storeSet_of v B ?_ (by simp));refine aZ (h d _ (λ_ z=>z) (λb ob N e=>Heap.get?_update_of_ne _ (gm N) e) ?_)
     have j:({l with led:=l.led&&ta.led,plain:=l.plain&&ta.plain}:SetTable).fits (#[]:Array (Int×Value)).size=true:=by
      have:=g.ft;cases l;exact this
     obtain ⟨O,_⟩:=SetOf_store (knd:=mn prog w) (S':=λ_=>false) v y B (λe u=>by simp at u) (λk=>by simp) (by decide) j;exact ⟨_,_,⟨⟨_,O,y,rfl⟩,λe u=>by simp at u,by decide,j⟩⟩
   . exact aZ (i _ λ_ z=>z)
def Ys (k:Int) (tk:Tok):(mn prog w).is k (.int k tk)=true:=by
 with_unfolding_all exact (beq_self_eq_true k)
def G0 (c:s.TypeIs (.ref a) "set") (h:Q true s):wpAny (model prog w) A (Dy (.ref a)) Q E s:=by
 unfold Dy;unfold orM;refine ay (De c F.sub_set_set ?_);exact aZ h
def XR {id:String} {a o:Addr} {O p:Int->Bool} {U Y:Nat} (hA:s.heap.SetOf (mn prog w) a O U) (q:s.heap.SetOf (mn prog w) o p Y) (hs: ∀k,O k=true->p k=true) (hn: ¬U/4>Y) {Q:Vh}
   (h: ∀(c:Heap),(∀b ob,b<s.heap.objs.size->s.heap.get? b=some ob->c.get? b=some ob)->(∃d g,cM c s.heap.objs.size #[] d g)->Q (.ref s.heap.objs.size) {s with heap:=c}):
   wpAny (model prog w) A (G1 id a (.ref o)) Q E s:=by
 have tA:=hA.typeIs;have tO:=q.typeIs;obtain ⟨ea,pa,ta,l,rfl,mA⟩:=cM.of hA;obtain ⟨eo,po,to_,u,rfl,mO⟩:=cM.of q;unfold G1 Builtin.Frozenset.sizeOf G2 setEntries Builtin.Frozenset.baseOf setEpoch;dsimp only;refine ay (G0 tO ?_);simp only [Ae,pV,if_false,pure_bind,bind_assoc,Bool.false_and,if_true];refine ay (u.state ?_);refine ay (l.state ?_);dsimp only;rw [if_neg hn];refine ay (De tA F.sub_set_set ?_);simp only [if_true];refine ay (wpAny_newSet_of (knd:=mn prog w) λv hS=>?_);simp only [pure_bind];obtain ⟨er,pr,tr,iR,hz,_⟩:=cM.of hS;have y:=Array.eq_empty_of_size_eq_zero hz;subst y;have n: ∀b ob,s.heap.get? b=some ob->(s.heap.push {cls:= .type "set",dict:=none,data:= .set #[] 0 (.fresh 0 0 v)}).get? b=some ob:=λb ob e=>bI _ e
 have i:=l.keep (n a);have z:=u.keep (n o);have lA:=let ⟨_,e,_⟩:=l.ex;bO e;have lO:=let ⟨_,e,_⟩:=u.ex;bO e;refine ay (i.state ?_);refine ay (iy ?_);refine ay (WS i z iR λws c hw B H=>?_);obtain ⟨d,g,iF⟩:=H;have I:=i.keep λob e=>B _ _ (dJ lA) e
 have J:c.SetOf (mn prog w) o p eo.size:=by
   obtain ⟨ob,es,ep,t,ho,hx,hd,rest⟩:=q;exact ⟨ob,es,ep,t,B _ _ (dJ lO) (n _ _ ho),hx,hd,rest⟩
 have hQ:=h c (λb ob hb e=>B b ob (dJ hb) (n b ob e)) ⟨d,g,iF⟩;refine ay (Nk _ (λrest b L=>L={s with heap:=c}/\ ∀e∈rest,e∈ea.toList) _ ?_ ?_ ws _ ⟨rfl,hw⟩)
 . rintro ⟨hh,x⟩ rest b L ⟨rfl,hm⟩;have j:=hm _ lE;obtain ⟨k,tk,e1,e2⟩:=l.el _ j;dsimp only at e1 e2;subst e1;subst e2;refine ay (iy ?_);have N:=hs k ((mA k).mpr ⟨_,j,Ys k tk⟩);refine ay (wpAny_setFind_of (knd:=mn prog w) (Ys k tk) rfl J λr hr=>?_);rw [hr,N];simp only [pure_bind,Ae,pV,if_false];refine aZ ?_;unfold Builtin.Frozenset.unchanged setEpoch;simp only [bind_assoc,pure_bind];refine ay (I.state ?_);dsimp only;simp only [bne_self_eq_false,pV,if_false,pure_bind];exact aZ ⟨rfl,λe he=>hm e (gc _ he)⟩
 . rintro b L ⟨rfl,_⟩;exact aZ (aZ hQ)
def KA:entryFor table "set.__sub__" =some g9.«frozenset.__sub__» :=
 entryFor_alias (id':= "frozenset.__sub__") (by kernel_rfl) rfl (by decide+kernel) (by kernel_rfl)
def jd1 {a o:Addr} {n p:Int->Bool} {q u:Nat} (e:s.heap.SetOf (mn prog w) a n q) (g:s.heap.SetOf (mn prog w) o p u) (v: ∀k,n k=true->p k=true) (y: ¬q/4>u) {Q:Vh}
  (h: ∀(d:Heap),(∀b ob,b<s.heap.objs.size->s.heap.get? b=some ob->d.get? b=some ob)->(∃i j,cM d s.heap.objs.size #[] i j)->Q (.ref s.heap.objs.size) {s with heap:=d}):
  wpAny (model prog w) A (gw .Sub (.ref a) (.ref o)) Q E s:=by
 refine wpAny_binaryOp_same e.typeIs g.typeIs F.fills_set_sub F.slot_set_sub (nT F.slot_set_sub e.typeIs KA ?_ (F.args_set_sub_2 _ _))
 show wpAny _ _ (do
  let (self,c)<-Nm "__sub__" ⟨[.ref a,.ref o],[]⟩
  let (l,r):=(self,c)
  if !(<-Dy l<&&>Dy r) then rule s!"frozenset.{"__sub__"}.declined";return<-ret .notImplemented
  ret (<-G1 s!"frozenset.{"__sub__"}" (<-G2 l) r)) _ _ _
 unfold Nm slotArgs;simp only [List.isEmpty_nil,Ae,pV,if_false,bind_assoc,bN,eM,bne_self_eq_false,pure_bind];unfold andM;simp only [bind_assoc];refine ay (G0 e.typeIs ?_);dsimp;refine ay (G0 g.typeIs ?_);simp;unfold G2;simp;refine ay (XR e g v y λd z B=>?_);exact aZ ⟨_,rfl,by simp,h d z B⟩
end
def cM.setOf (x:cM h a #[] c d):h.SetOf (mn prog w) a (λ_=>false) 0:=by
 obtain ⟨o,h1,h2,g⟩:=x.ex;exact ⟨o, #[],c,d,h1,h2,g,λe i=>by simp at i,λk=>by simp,by decide,x.ft,rfl⟩
noncomputable def dd (a:List Int):List Int:=firstMet (λi=>a.getD i 0) a.length
def jke (a:List Int) (k:Int):(dd a).any (· ==k)=a.any (· ==k):=by
 unfold dd;rw [firstMet_any];congr 1;apply List.ext_getElem
 . simp
 . intro i d c;simp [cU c]
section
variable {X:Cx}
theorem ud: ∀ {is:List Int} {us:List Value},aN (is.map V.int) us->IntsAre us is
 | [],_,.nil=> .nil
 |i::is,_,.cons h t=>by
  obtain ⟨k,rfl⟩:=h;exact .cons i k (ud t)
def Uo (n:X.bM=true):bC X (.type "set") (λg H Q=> ∃(p:Addr) (a:List Int),g=[.ref p]/\cY X.K H p (a.map V.int)/\a.length+1<rC/\ ∀l,H l=none->Q (.ref l) (aH H l (.set (λk=>a.any (· ==k)) (dd a).length))):=by
 rintro h s O H g U Q I r ⟨p,a,v,w,y,q⟩;subst v;obtain ⟨u,rfl,z⟩:=Wx r;cases z;obtain ⟨B,i,E,_⟩:=I.list w;obtain ⟨c,Y⟩:=YJ i;refine call_set_list (I.ok.hd n) E.isList (by simpa using ud i) (by simp;rw [c];exact y) λj tk J L=>?_
 have N:=I.aV.fresh (bg _)
 have d:j.SetOf (mn X.prog X.w) s.heap.objs.size (λk=>a.any (· ==k)) (dd a).length:=by
  refine SetOf_congr J (λk=>?_) ?_
  . simp only [cb,c];exact jke a k
  . simp only [cb,c];rfl
 exact ⟨.ref s.heap.objs.size,_,I.laid (λb o e=>L b o (bO e) e) (bg _) (show a6 X.prog X.w _ j _ (.set _ _) from d),rfl,q _ N⟩
def jhe:ck X (gw .Sub) (λx y H Q=> ∃a b S n c d,x= .ref a/\y= .ref b/\H a=some (.set S n)/\H b=some (.set c d)/\(∀k,S k=true->c k=true)/\ ¬n/4>d/\ ∀l,H l=none->Q (.ref l) (aH H l (.set (λ_=>false) 0))):=by
 rintro h s σ H x y v u Q I i j ⟨a,b,S,n,c,d,p,r,w,z,B,E,q⟩;subst p;subst r;cases i;cases j;have J:=I.aV a _ w;have L:=I.aV b _ z;refine jd1 J L B E λN O g=>?_;obtain ⟨pf,tf,U⟩:=g
 have Y:=I.aV.fresh (bg _);exact ⟨.ref s.heap.objs.size,_,I.laid (λb o e=>O b o (bO e) e) (bg _) (show a6 X.prog X.w _ N _ (.set _ _) from U.setOf),rfl,q _ Y⟩
def jdB:bC X (.builtin "len") (λc H Q=> ∃a S n,c=[.ref a]/\H a=some (.set S n)/\Q (.int n) H):=by
 rintro d s J H c L Q I r ⟨a,S,n,e,g,q⟩;subst e;obtain ⟨u,rfl,h⟩:=Wx r;cases h;have i:=I.aV a _ g;obtain ⟨o,j,N,t,l,p,v,w,O,y,z,B⟩:=i;subst B;have E:rC=4096:=rfl;exact call_len_set l p v z (by rw [E] at y;omega) ⟨.int j.size,H,I.tok _,⟨_,rfl⟩,q⟩
def nc (a b:D):al D:=match a,b with
 | .ai x,.ai y=>match Zg x,Zg y with
  |some u,some v=>aY (u.length+1<rC/\v.length+1<rC/\(∀i∈u,i∈v)/\ ¬(dd u).length/4>(dd v).length) (.ok (.int 0))
  |_,_=> .aj
 |_,_=> .aj
def jd2 (h:nc a b= .ok d): ∃u v:List Int,a= .ai (u.map D.int)/\b= .ai (v.map D.int)/\(u.length+1<rC/\v.length+1<rC/\(∀i∈u,i∈v)/\ ¬(dd u).length/4>(dd v).length)/\d= .int 0:=by
 unfold nc at h
 split at h
 . rename_i x y
   split at h
   . rename_i u v e1 e2;obtain ⟨c,e⟩:=jv h;cases e;exact ⟨u,v,by rw [J1 e1],by rw [J1 e2],c,rfl⟩
   . cases h
 . cases h
variable {l1 l2:Lv} {e1 e2:Expr} {f1 f2:T1} {p1 p2 p3 q1 q2 q3 pos:Pos}
def jdj (N:X.bM=true) (h1:DE X l1 e1 f1) (h2:DE X l2 e2 f2) (w:Gl X "len") (y:X.mg "len" =none) (c:Gl X "set") (g:X.mg "set" =none)
   (h:bb [.BinOp (.Call (.Name "set" p1) [e1] [] q1) .Sub (.Call (.Name "set" p2) [e2] [] q2) pos] X.env=(false,eval (.BinOp (.Call (.Name "set" p1) [e1] [] q1) .Sub (.Call (.Name "set" p2) [e2] [] q2) pos) X.env)::bb [] X.env:=by exact jm rfl)
   (j:bb [e1] X.env=(false,eval e1 X.env)::bb [] X.env:=by exact jm rfl) (n:bb [e2] X.env=(false,eval e2 X.env)::bb [] X.env:=by exact jm rfl):
   DE X .b (.Call (.Name "len" p3) [.BinOp (.Call (.Name "set" p1) [e1] [] q1) .Sub (.Call (.Name "set" p2) [e2] [] q2) pos] [] q3) (ap f1 f2 nc):=by
 with_unfolding_all exact (
  PE.imp (Q4 jdB w y rfl (qc (EC jhe (Xc (Uo N) c g rfl (qc h1 wo j) (by decide) (by decide) j rfl) (Xc (Uo N) c g rfl (qc h2 wo n) (by decide) (by decide) n rfl)) wo h) (by decide) (by decide) h rfl) λσ H Q=>by
   rintro ⟨G,O,r,d,k,z,q⟩;obtain ⟨a,c1,z⟩:=jd z;obtain ⟨b,c2,c3⟩:=jd z;obtain ⟨u,v,rfl,rfl,⟨z1,z2,z3,z4⟩,rfl⟩:=jd2 c3;refine ⟨G,O,r,_,k,c1,λx1 H1 U r1 _=>?_⟩;obtain ⟨p,xs,rfl,hp,_,rs⟩:=(r1.aE Lv.bf).cK;have B:=QX rs;subst B;refine ⟨p,u,rfl,.inl (.inl hp),z1,λl hl=>?_⟩;have Y:=ao.aH (o:=HO.set (λk=>u.any (· ==k)) (dd u).length) hl;refine ⟨G,O,r,_,(k.am U).am Y,c2,λx2 H2 s2 r2 _=>?_⟩;obtain ⟨p',xs,rfl,E,_,I⟩:=(r2.aE Lv.bf).cK;have B:=QX I;subst B;refine ⟨p',v,rfl,.inl (.inl E),z2,λl' J=>?_⟩;have S2:=ao.aH (o:=HO.set (λk=>v.any (· ==k)) (dd v).length) J;refine ⟨l,l',_,_,_,_,rfl,rfl,S2 _ _ (s2 _ _ ju),ju,λk hk=>?_,z4,λl2 L=>?_⟩
   . obtain ⟨i,hi,e⟩:=List.any_eq_true.mp hk;exact List.any_eq_true.mpr ⟨i,z3 i hi,e⟩
   . have S3:=ao.aH (o:=HO.set (λ_=>false) 0) L
     exact ⟨l2,_,0,rfl,ju,q _ _ (U.trans (Y.trans (s2.trans (S2.trans S3)))) (.int 0) trivial⟩)
end
structure lZ (h:Heap) (z TI TO i1 i2 l1 l2:Addr) (k1 k2:Nat) (f0:Value):Prop where
 hz:IsZip h z TI TO f0
 ti:nJ h TI (.ref i1) (.ref i2)
 to: ∃a b,nJ h TO a b
 h1:h.IsListIter i1 l1 k1
 h2:h.IsListIter i2 l2 k2
def G3 (K:aC) (d e:Addr) (a c:List V):It:=⟨λi H=>(cY K H d a/\cY K H e c)/\i<a.length/\i<c.length,λi H v g=> ∃p x y,H p=none/\a[i]?=some x/\c[i]?=some y/\v= .ref p/\g=aH H p (.ak [x,y]),λi H=>(cY K H d a/\cY K H e c)/\(a.length<=i\/c.length<=i)⟩
def ja9 {K:aC} {TI TO:Addr} (O Q:List V) (D:ZipApart z TI TO L N a1 a2):
  Turn P w K (.Tuple elts n pos) (G3 K a1 a2 O Q) [z,TI,TO,L,N] z (λi h=>lZ h z TI TO L N a1 a2 i i .none) where
 mem:=by simp
 obj:=λi h st b a=>by
  obtain ⟨U,Y,⟨x,y,to⟩,⟨o1,e1,c1,d1⟩,o2,e2,c2,d2⟩:=st;simp only [bA,ei,or_false] at a;rcases a with rfl|rfl|rfl|rfl|rfl
  . exact ⟨_,U,λv q=>by cases q⟩
  . exact ⟨_,Y,λv q=>by cases q⟩
  . exact ⟨_,to,λv q=>by cases q⟩
  . exact ⟨o1,e1,λv q=>by rw [d1] at q;cases q⟩
  . exact ⟨o2,e2,λv q=>by rw [d2] at q;cases q⟩
 keep:=λi h h' st k=>by
  obtain ⟨U,Y,⟨x,y,to⟩,q1,q2⟩:=st;exact ⟨k z (by simp) _ U,k TI (by simp) _ Y,⟨x,y,k TO (by simp) _ to⟩,q1.at λo e=>k L (by simp) o e,q2.at λo e=>k N (by simp) o e⟩
 item:=by
  intro X hP hw hK hc i j s σ H E I hf st hg;subst hP hw hK;obtain ⟨⟨l,p⟩,g1,g2⟩:=hg;obtain ⟨mV,r,p1,_⟩:=I.list l;obtain ⟨B0,B,p2,_⟩:=I.list p;have hx:O[i]?=some O[i]:=cU g1;have hy:Q[i]?=some Q[i]:=cU g2;obtain ⟨u,hu,ru⟩:=r.get hx;obtain ⟨v,hv,rv⟩:=B.get hy;obtain ⟨za,zb,J⟩:=st.to;refine wpAny_pyNext_zip_item D st.hz st.ti J st.h1 st.h2 p1.isList p2.isList (x:=u) (y:=v) (by simpa using hu) (by simpa using hv) λh' a1' a2' a3' a4' hT _ hk=>?_
  have Z':lZ h' z TI TO L N a1 a2 (i+1) (i+1) (fK s.heap.objs.size):=⟨a1',hk _ _ D.TIz D.TITO D.TIi1 D.TIi2 st.ti,⟨_,_,a2'⟩,a3',a4'⟩
  refine ⟨_,rfl,wpAny_letOwnedTupleGo_zip Z'.hz λoa tK d=>?_⟩;have lt: ∀ {c o},s.heap.get? c=some o->c<s.heap.objs.size:=λe=>bO e
  have nM: ∀c∈[z,TI,TO,L,N],c<s.heap.objs.size:=λc hc=>by
    obtain ⟨U,Y,⟨_,_,to⟩,⟨_,e1,_⟩,_,e2,_⟩:=st;simp only [bA,ei,or_false] at hc;rcases hc with rfl|rfl|rfl|rfl|rfl
    . exact lt U
    . exact lt Y
    . exact lt to
    . exact lt e1
    . exact lt e2
  have ly:H s.heap.objs.size=none:=I.aV.fresh (bg _)
  have I1:aA X j σ (aH H s.heap.objs.size (.ak [O[i],Q[i]])) {s with heap:=s.heap.push {cls:= .type "tuple",data:= .seq #[u,v]}}:=
    I.laid (t':=s.toks) (λb o e=>bI _ e) (bg _) ⟨dG (show 2<=20 by decide) (by decide),[u,v],.cons ru (.cons rv .nil),⟨_,c9 _ rfl,rfl,_,rfl⟩⟩
  have f1: ∀b∈[z,TI,TO,L,N],cZ X j (aH H s.heap.objs.size (.ak [O[i],Q[i]])) b:=λb a=>⟨by rw [jF (dJ (nM b a))];exact (hf b a).1,(hf b a).2⟩
  have I2:=yP (t':=s.toks) (h':=oa) I1 (λb o a eo=>by
    have BS:b≠z:=λe=>a (by simp [e])
    refine (d.2 b BS).trans ?_
    by_cases BU:b=s.heap.objs.size
    . subst BU;rw [c9 _ rfl] at eo;rw [<-eo];exact hT
    . have tp:s.heap.get? b=some o:=by
       rcases Df eo with ⟨q,_⟩|q
       . exact absurd q BU
       . exact q
      exact hk b o BS (λe=>a (by simp [e])) (λe=>a (by simp [e])) (λe=>a (by simp [e])) tp) f1
  obtain ⟨_,Gy,⟨q1,q2,Gz⟩,w1,w2⟩:=Z';exact ⟨.ref s.heap.objs.size,_,I2,rfl,⟨_,_,_,ly,hx,hy,rfl,rfl⟩,⟨tK,d.extBut _ _ D.TIz Gy,⟨q1,q2,d.extBut _ _ D.TOz Gz⟩,w1.extBut d.extBut D.i1z,w2.extBut d.extBut D.i2z⟩,λb a=>(f1 b a).1⟩
 done:=by
  intro X hP hw hK hc i j s σ H E I hf st hg;subst hP hw hK;obtain ⟨⟨l,p⟩,g⟩:=hg;obtain ⟨mV,r,p1,_⟩:=I.list l;obtain ⟨B0,B,p2,_⟩:=I.list p;have Dt:=r.length;have sK:=B.length;obtain ⟨za,zb,J⟩:=st.to;refine wpAny_pyNext_zip_end (I.ok.hd hc) D st.hz st.ti J st.h1 st.h2 p1.isList p2.isList (g.imp (λg=>by simp;omega) λg=>by simp;omega) λh' hk=>⟨rfl,yP (t':=s.toks) I (λb o a eo=>hk b o (λe=>a (by simp [e])) (λe=>a (by simp [e])) (λe=>a (by simp [e])) (λe=>a (by simp [e])) eo) hf⟩
 self:=λ_ _ _ _ _ st h=>Du st.hz h
section
variable {X:Cx} {elts:List Expr} {n:Nat} {gX p pos:Pos} {e1 e2:Expr} {f1 f2:T1}
def UE (f1 f2:T1):Sl->al (List D):=λa=>f1 a>>=λd=>f2 a>>=λe=>match d,e with
 | .ai c,.ai g=> .ok (zA c g)
 |_,_=> .aj
def jia (hg:Gl X "zip") (hm:X.mg "zip" =none) (h1:DE X .s e1 f1) (h2:DE X .s e2 f2) (hs:bb [e1,e2] X.env=(false,eval e1 X.env)::bb [e2] X.env:=by exact jm rfl) (Y:bb [e2] X.env=(false,eval e2 X.env)::bb [] X.env:=by exact jm rfl)
  (wD:(dL pos (bb [e2] X.env)).any (·.1)=false:=by exact jS rfl):DI X (.Tuple elts n gX) (.Call (.Name "zip" p) [e1,e2] [] pos) (UE f1 f2):=by
 have GA:PE X e1 (tE X.K .s f1):=by with_unfolding_all exact h1
 have GB:PE X e2 (tE X.K .s f2):=by with_unfolding_all exact h2
 with_unfolding_all exact (show PI X (.Tuple elts n gX) (.Call (.Name "zip" p) [e1,e2] [] pos) (tI X.K (UE f1 f2)) from by
  rintro e s Q H R I ⟨G,H0,c,ds,k,h,q⟩;obtain ⟨d1,c1,h⟩:=jd h;obtain ⟨d2,c2,h⟩:=jd h;have hA:=qc GA (qc GB wo Y) hs;refine Call_ (Wr I hg hm Ur (v3 (bi (hA pos e s Q H (λvs r=> ∃u v,vs=[u,v]/\ao H r/\aL X.K (Sf G c Q) r u d1/\aL X.K (Sf G c Q) r v d2) I ⟨G,H0,c,d1,k,c1,λu U a r1 _=>⟨G,H0,c,d2,k.am a,c2,λv r s2 r2 _=>⟨u,v,rfl,a.trans s2,r1.am s2,r2⟩⟩⟩) λus a j5=>?_) hs wD));obtain ⟨vs,U,w,r1,u,v,ev,sm,GC,GD⟩:=j5;subst ev;obtain ⟨u1,u2,rfl,GF,GH⟩:=AE r1;have k1:=k.am sm
  split at h
  . rename_i es1 es2;cases h;obtain ⟨B,xs,rfl,j,w1,E⟩:=GC.cK;obtain ⟨J,ys,rfl,l,w2,L⟩:=GD.cK;cases GF;cases GH;obtain ⟨mV,rv1,p1,_⟩:=w.list (.of j);obtain ⟨B0,rv2,p2,_⟩:=w.list (.of l);have GI:B<a.heap.objs.size:=by obtain ⟨o,_,ho,_⟩:=p1;exact bO ho
    have GJ:J<a.heap.objs.size:=by obtain ⟨o,_,ho,_⟩:=p2;exact bO ho
    refine call_zip_2 p1.isList p2.isList λh' z1 z2 z3 z4 z5 _ hk=>?_
    have Z:lZ h' (a.heap.objs.size+4) (a.heap.objs.size+2) (a.heap.objs.size+3) a.heap.objs.size (a.heap.objs.size+1) B J 0 0 .none:=⟨z1,z2,⟨_,_,z3⟩,z4,z5⟩
    refine Du Z.hz ?_;have I2:aA X e Q U {a with heap:=h'}:=w.kept (t':=a.toks) hk;refine ⟨a.heap.objs.size+4,[a.heap.objs.size+4,a.heap.objs.size+2,a.heap.objs.size+3,a.heap.objs.size,a.heap.objs.size+1],_,_,U,rfl,I2,ja9 xs ys (M5 GI GJ),Z,λb hb=>?_,?_⟩
    . have N:a.heap.objs.size<=b:=by
       simp only [bA,ei,or_false] at hb;rcases hb with rfl|rfl|rfl|rfl|rfl<;>first|exact Nat.le_add_right _ _|exact bg _
      exact w.fb N (w.aV.fresh N)
    . refine q _ U (λH=>H B=some (.ai xs)/\H J=some (.ai ys)) sm (λi H' pp=>?_) ⟨j,l⟩ λenv' gy H' fr=>⟨fr.keep B _ j λow=>w1.1 ow,fr.keep J _ l λow=>w2.1 ow⟩
      have Dt:=E.length;have sK:=L.length;have hq:cY X.K H' B xs/\cY X.K H' J ys:=⟨.of pp.1,.of pp.2⟩
      rw [ZZ];refine ⟨λhi=>⟨hq,by omega,by omega⟩,λd hd x r y=>?_,λhi=>⟨hq,by omega⟩⟩;obtain ⟨p,x',y',hp,mU,GK,rfl,rfl⟩:=y;obtain ⟨dx,dy,GL,GN,rfl⟩:=Z0 _ _ _ _ hd;obtain ⟨d',O,rd⟩:=E.get' mU;obtain ⟨d'',g,Bg⟩:=L.get' GK;rw [GL] at O;cases O;rw [GN] at g;cases g;exact .inr ⟨p,_,_,hp,rfl,rfl,rfl,.cons (rd.aE λ_ z=>z.1) (.cons (Bg.aE λ_ z=>z.1) .nil)⟩
  . cases h)
end
def cn {N P:List Str} {a:Scope} (c:a.kind= .function:=by rfl) (d:a.isCoroutine=false:=by rfl) (e:a.isGenerator=false:=by rfl) (g:N.Nodup:=by decide+kernel) (h:N.take P.length=P:=by rfl) (i: ∀x∈P,a.names.lookup x=some .local\/a.names.lookup x=some .cell:=by decide+kernel) (j: ∀y∈a.names,y.2≠ .free:=by decide+kernel):ar N P a:=⟨c,d,e,g,h,i,j⟩
def Dx (K:aC) (c:Vj) (x:Str) (st:Stmt) (d:List Str):Prop:= ∃f a,iB K x x st f a/\c x=some (.ref f)/\Binds K a d []
def Dz (K:aC) (p:Addr) (x q:Str) (st:Stmt):Prop:= ∃(e:Value) (g h:Option Addr) (c:Array (Option Value)) (kV d i a j:Value),
 K.lookup p=some ⟨e,g,.func (lM x q (wG st) (qa st) (jf st) .none kV d i h a j),c⟩/\ra K a q=true
def bp (K:aC) (x:Str) (st:Stmt):Prop:= ∃p:Addr,cT K cc x=some (some (.ref p))/\Dz K p x x st/\iZ K (.ref p)=true
def Dm (K:aC) (C:Addr) (m q:Str) (st:Stmt) (c:List Str):Prop:= ∃f a,iB K m q st f a/\Meth K C m f/\Binds K a c []
def li (K:aC) (C:Addr) (m q:Str) (st:Stmt):Prop:= ∃p:Addr,gW K (.ref C) m=some (some (.ref p))/\AG K (.ref p)=true/\Dz K p m q st/\iZ K (.ref p)=true
abbrev Tk (x q:Str) (st:Stmt) (d:List Value) (e:List Str):Prop:= ∀(kV a g:Value) (h:Option Addr) (c i:Value),bindArgs (lM x q (wG st) (qa st) (jf st) .none kV a g h c i) ⟨d,[]⟩=pure (e.zip d)
section
variable {K:aC} {mg:Vj} {x q m:Str} {st:Stmt} {ps:List Str} {h:Heap} {C:Addr}
def Dz.fn (l:Dz K p x q st) (k:iZ K (.ref p)=true) (j: ∀g,g.length=ps.length->Tk x q st g ps): ∃i,iB K x q st p i/\Binds K i ps []:=by
 obtain ⟨u,v,w,n,kV,o,y,r,ct,l,c⟩:=l;have F:=Lz l c k;exact ⟨_,F,F.binds λa b c d e f g hl=>j g hl a b c d e f⟩
def bp.dx (d:bp K x st) (e:K.In h) (G:h.Ns cc mg) (g: ∀c,c.length=ps.length->Tk x x st c ps):Dx K mg x st ps:=by
 obtain ⟨p,a,l,k⟩:=d;obtain ⟨i,F,B⟩:=l.fn k g;exact ⟨p,i,F,j1 e G a,B⟩
def li.dm (d:li K C m q st) (e: ∀c,c.length=ps.length->Tk m q st c ps):Dm K C m q st ps:=by
 obtain ⟨p,a,i,l,k⟩:=d;obtain ⟨g,F,B⟩:=l.fn k e;exact ⟨p,g,F,⟨a,i,k⟩,B⟩
def X7 {P:List Value->Prop} {n:Nat} (h: ∀a c,c.length=n->P (a::c)): ∀c,c.length=n+1->P c:=by
 intro c e
 cases c with
 |nil=>cases e
 |cons a r=>exact h a r (Nat.succ.inj e)
def DC {P:List Value->Prop} (h:P []): ∀c,c.length=0->P c:=by
 intro c e
 cases c with
 |nil=>exact h
 |cons a r=>cases e
def gl (h: ∀a,Tk x q st [a] [p]:=by intro _ _ _ _ _ _ _;rfl): ∀c:List Value,c.length=[p].length->Tk x q st c [p]:=X7 λa=>DC (h a)
def lz (h: ∀a b,Tk x q st [a,b] [p,c]:=by intro _ _ _ _ _ _ _ _;rfl): ∀d:List Value,d.length=[p,c].length->Tk x q st d [p,c]:=X7 λa=>X7 λb=>DC (h a b)
def oA (h: ∀a b c,Tk x q st [a,b,c] [p,d,e]:=by intro _ _ _ _ _ _ _ _ _;rfl): ∀g:List Value,g.length=[p,d,e].length->Tk x q st g [p,d,e]:=X7 λa=>X7 λb=>X7 λc=>DC (h a b c)
def G4 (h: ∀a b c d,Tk x q st [a,b,c,d] [p,e,g,i]:=by intro _ _ _ _ _ _ _ _ _ _;rfl): ∀j:List Value,j.length=[p,e,g,i].length->Tk x q st j [p,e,g,i]:=X7 λa=>X7 λb=>X7 λc=>X7 λd=>DC (h a b c d)
end
section
variable {P:bB} {w:World} {K:aC} {mg:Vj} {af:Heap}
def zm {st:Stmt} (e:Bool) (d:Dx K mg x st h) (S:ar N h (jf st))
  (i: ∀(f:Addr) (c:Value) (A:bH) (a:List Env) (s:aM) (H:Hp) (E:XK),aI k (A.deeper (gn x (jf st) s.heap.objs.size f c))->iD (bu gq P w K mg af N x (jf st) f c A a s H E).lF (qa st) g):
  Av P w K mg af (k+1) x h e (aG e N.length g):=by
 obtain ⟨f,j,F,m,B⟩:=d;exact Tj e F m S B (i f)
def Uy {st:Stmt} (e:Bool) (d:Dx K mg x st h) (S:ar N h (jf st))
  (i: ∀(f:Addr) (c:Value) (A:bH) (a:List Env) (s:aM) (H:Hp) (E:XK),aI k (A.deeper (gn x (jf st) s.heap.objs.size f c))->gh (bu (gg P w) P w K mg af N x (jf st) f c A a s H E) (qa st) g):
  fT P w K mg af (k+1) x h e (bt e N.length g):=by
 obtain ⟨f,j,F,m,B⟩:=d;exact jki e F m S B (i f)
def jkm {st:Stmt} (d:Dx K mg x st e) (S:ar N e (jf st)) (h:e.length=n+1) (i:n+1<=N.length)
  (j: ∀(f:Addr) (c:Value) (A:bH) (a:List Env) (s:aM) (H:Hp) (E:XK),aI k (A.deeper (gn x (jf st) s.heap.objs.size f c))->gF (bu gq P w K mg af N x (jf st) f c A a s H E).lF n (qa st) g):
  nI P w K mg af (k+1) x e n (lg N.length n g):=by
 obtain ⟨f,l,F,m,B⟩:=d;exact jkn F m S B h i (j f)
def Nn {st:Stmt} (h:Bool) (d:Dm K C m q st i) (j:cT K cc c=some (some (.ref C))/\f7 K C) (S:ar N i (jf st))
  (l: ∀(f:Addr) (e:Value) (A:bH) (a:List Env) (s:aM) (H:Hp) (E:XK),aI k (A.deeper (gn q (jf st) s.heap.objs.size f e))->iD (bu gq P w K mg af N q (jf st) f e A a s H E).lF (qa st) g):
  lY P w K mg af (k+1) c m i h (aG h N.length g):=by
 obtain ⟨f,n,F,m,B⟩:=d;exact jkj h F j.1 j.2 m S B (l f)
def jkk {st:Stmt} (d:Dm K C "__init__" q st i) (j:cT K cc c=some (some (.ref C))/\f7 K C) (h:mg c=some (.ref C)) (mk:AH K C=true/\iZ K (.ref C)=true) (S:ar N i (jf st)) (l:i.length=n+1) (o:n+1<=N.length)
  (p: ∀(f:Addr) (e:Value) (A:bH) (a:List Env) (s:aM) (H:Hp) (E:XK),aI k (A.deeper (gn q (jf st) s.heap.objs.size f e))->iN (bu gq P w K mg af N q (jf st) f e A a s H E).lF 0 (qa st) g):
  tQ P w K mg af (k+1) c n (oz N.length n g):=by
 obtain ⟨f,r,F,m,B⟩:=d;exact jkl F j.1 h ⟨mk.1,m.at_,m.fn,mk.2⟩ S B l o (p f)
def kR {st:Stmt} (a:Bool) (d:Dx K mg x st c):Av P w K mg af k x c a (λ_=> .aj):=by
 obtain ⟨f,e,F,m,B⟩:=d;exact Tl a F m B
def jko {st:Stmt} (d:Dx K mg x st a) (c:a.length=n+1):nI P w K mg af k x a n (λ_ _ _=> .aj):=by
 obtain ⟨f,e,F,m,B⟩:=d;exact jfF F m B c
end
section
variable {X:Cx} {a b e:Expr} {f d f2:T1} {I:Pos} {x:Str}
def vb (i:Nat) (g:X.N[i]?=some x:=by rfl) (h:gM X.env.scope x:=by exact eE rfl) (j:YU x:=by decide) (c:WV x:=by decide):DE X .b (.Name x I) (ag i):=DE.b (dv i g h j c)
def ib {j}:DE X .b (.Constant (.int i) j I) (cI i):=Fe
def bJ {j}:DE X .s (.Constant (.int i) j I) (cI i):=Fe
def ob (c:ck X (gw h) r) (i:fJ X.K r g) (j:DE X .b a d) (l:DE X .b b f2):DE X .b (.BinOp a h b I) (ap d f2 g):=kM c i j l
def eU (c:ck X (gw h) r) (i:fJ X.K r g) (j:DE X .b a d) (l:DE X .b b f2):DE X .s (.BinOp a h b I) (ap d f2 g):=kM c i j l
def WB (c:DE X .b a d) (g:DE X .b b f2):DE X .b (.BinOp a .Mod b I) (ap d f2 a7):=kM xG xH c g
def kj (c:DE X .b a d) (g:DE X .b b f2):DE X .b (.BinOp a .Pow b I) (ap d f2 bS):=kM vO vQ c g
def VD (c:DE X .b a d) (g:DE X .b b f2):DE X .b (.BinOp a .FloorDiv b I) (ap d f2 cA):=kM Y3 Kb c g
def gi (c:Gl X x) (g: ∃t,X.mg x=some (.int i t)) (j:YU x:=by decide):DE X .b (.Name x I) (cI i):=g.elim λ_ h=>LB c h j
def gis (c:Gl X x) (g: ∃t,X.mg x=some (.int i t)) (j:YU x:=by decide):DE X .s (.Name x I) (cI i):=g.elim λ_ h=>LB c h j
def gst (c:Gl X x) (g: ∃t,X.mg x=some (.str y t)) (i:y.length<=aP:=by decide) (j:YU x:=by decide):DE X .b (.Name x I) (cS y):=g.elim λ_ h=>Sd c h i j
end
def Jl (n:Nat) (t:T0) (g:TZ):Sl->al aT:=λc=>match n with
 |0=> .aj
 |n+1=>match t c with
  | .ok b=>if b=true then g c>>=λo=>match o with
    | .nx a=>Jl n t g a
    | .ct a=>Jl n t g a
    | .bk a=> .ok (.nx a)
    | .rt e d=> .ok (.rt e d)
   else .ok (.nx c)
  |_=> .aj
def jc7 (n:Nat) (hp:qO (model X.prog X.w) X.A X.env X.xe) (hc:DT X c t) (hb:gh X y g):lV X (.While c y [] pos) (Jl n t g):=by
 with_unfolding_all exact (
  PS.imp (vF hp hc hb) λE σ H=>by
   rintro ⟨G,I,p,k,q⟩;generalize B:Jl n t g p=res at q;refine ⟨λm r Q=> ∃a,ax X.K G I a r Q/\a9 p σ H a r Q/\Jl m t g a=res,⟨n,p,k,a9.refl (ao.refl H),B⟩,?_⟩;rintro m r Q ⟨a,U,f',e'⟩
   have J:res≠ .aj:=by
    rintro rfl;rcases q with ⟨o,e,_⟩| ⟨c,e,_⟩<;>cases e
   cases m with
   |zero=>exact (J e'.symm).elim
   |succ m=>
    have e1:(match t a with
     | .ok b=>if b=true then g a>>=λo=>match o with
        | .nx a=>Jl m t g a
        | .ct a=>Jl m t g a
        | .bk a=> .ok (.nx a)
        | .rt L d=> .ok (.rt L d)
      else .ok (.nx a)
     |_=> .aj)=res:=e'
    cases N:t a with
    |exc c=>rw [N] at e1;exact (J e1.symm).elim
    |aj=>rw [N] at e1;exact (J e1.symm).elim
    |ok b=>
     rw [N] at e1;refine ⟨G,I,a,b,U,N,λH1 O=>?_⟩
     cases b with
     |false=>
      have e2:=e1.symm;rw [if_neg gd];rcases q with ⟨o,e,q⟩| ⟨c,e,_⟩
      . rw [e2] at e;cases e;exact q r H1 (U.am O) (f'.trans (a9.refl O))
      . rw [e2] at e;cases e
     |true=>
      rw [if_pos rfl]
      have u:(g a>>=λo=>match o with
        | .nx a=>Jl m t g a
        | .ct a=>Jl m t g a
        | .bk a=> .ok (.nx a)
        | .rt L d=> .ok (.rt L d))=res:=e1
      refine ⟨λi Y=> ∃h,ax X.K G I h i Y/\a9 p σ H h i Y/\Jl m t g h=res,λi Y z=>⟨m,AJ m,z⟩,G,I,a,U.am O,?_⟩;have w:=f'.trans (a9.refl O)
      cases eg:g a with
      |aj=>rw [eg] at u;exact (J u.symm).elim
      |exc c1=>
        rw [eg] at u;have v:=u.symm;rcases q with ⟨o,e,_⟩| ⟨c,e,th⟩
        . rw [v] at e;cases e
        . rw [v] at e;cases e;exact .inr ⟨c1,rfl,th⟩
      |ok o1=>
        rw [eg] at u;refine .inl ⟨o1,rfl,?_⟩
        cases o1 with
        |nx h=>exact λi H3 j l=>⟨h,j,w.trans l,u⟩
        |ct h=>exact λi H3 j l=>⟨h,j,w.trans l,u⟩
        |bk h=>
          have v:=u.symm;rcases q with ⟨o,e,q⟩| ⟨c,e,_⟩
          . rw [v] at e;cases e;exact λi H3 j l=>q i H3 j (w.trans l)
          . rw [v] at e;cases e
        |rt L dd=>
          have v:=u.symm;rcases q with ⟨o,e,q⟩| ⟨c,e,_⟩
          . rw [v] at e;cases e;exact q
          . rw [v] at e;cases e)
def tAX (X:Cx) (l:Lv) (f:TY):TA:=λd H Q=> ∃G i a,ax X.K G i a d H/\
 ((∃g,f a= .ok g/\ ∀h e,ao H e->au X.K (l.A G a d) e h g->Q h e)\/ ∃c,f a= .exc c/\lc X c d H)
@[irreducible] def DD (X:Cx) (l:Lv) (a:List Expr) (f:TY):Prop:=PA X a (tAX X l f)
section
variable {X:Cx} {e:Expr} {es:List Expr} {st:Stmt} {pos:Pos} {l:Lv} {f:T1} {g:TY}
def No:DD X l [] ae:=by
 with_unfolding_all exact (PA.imp wo λh H Q=>by
  rintro ⟨G,i,d,k,q⟩;rcases q with ⟨j,a,q⟩| ⟨c,a,_⟩
  . cases a;exact q [] H (ao.refl H) .nil
  . cases a)
def Zt (y:fQ X l e f) (z:DD X l es g) (B:UO X e es:=by exact jm rfl):DD X l (e::es) (jb f g):=by
 with_unfolding_all exact (
  PA.imp (qc y z B) λL H Q=>by
   rintro ⟨G,h,a,k,q⟩;rcases q with ⟨N,o,q⟩| ⟨c,o,r⟩
   . obtain ⟨d,e1,e2⟩:=jd o;obtain ⟨i,n,p⟩:=jd e2;cases p;exact ⟨G,h,a,k,.inl ⟨d,e1,λv E j u _=>⟨G,h,a,k.am j,.inl ⟨i,n,λO I w J=>q _ I (j.trans w) (.cons (u.am w) J)⟩⟩⟩⟩
   . rcases zu o with e1| ⟨d,e1,e2⟩
     . exact ⟨G,h,a,k,.inr ⟨c,e1,r⟩⟩
     . rcases zu e2 with n| ⟨i,n,p⟩
       . exact ⟨G,h,a,k,.inl ⟨d,e1,λv E j u _=>⟨G,h,a,k.am j,.inr ⟨c,n,r.am j⟩⟩⟩⟩
       . cases p)
def Np {v} (h:DD X .s es g):fQ X .t (.Tuple es v pos) (aD g):=by
 with_unfolding_all exact (
  PE.imp (Lk h) λB H Q=>by
   rintro ⟨G,n,a,k,q⟩;rcases q with ⟨d,i,q⟩| ⟨c,i,w⟩
   . obtain ⟨o,e1,e2⟩:=jd i;obtain ⟨y,z⟩:=jv e2;cases z;refine ⟨G,n,a,k,.inl ⟨o,e1,λE I r u=>⟨by rw [u.length];exact y,λp j=>?_⟩⟩⟩;exact q _ _ (r.trans (ao.aH j)) (.ak ju (u.am (ao.aH j))) (qK r j)
   . rcases zu i with e1| ⟨o,e1,e2⟩
     . exact ⟨G,n,a,k,.inr ⟨c,e1,w⟩⟩
     . unfold aY at e2
       split at e2<;>cases e2)
def jh1 (i:Nat) {g:TZ} (h:lV X st g):lV X st (gA i g):=by
 with_unfolding_all exact (PS.imp h λE c H=>by
  rintro ⟨G,d,a,k,q⟩;refine ⟨G,d,bE i a,k.bE i,?_⟩;have f:a9 a c H (bE i a) c H:=⟨λ_ _ e _=>e,λb o=> .inl (Xh o),λ_ e=>e⟩
  rcases q with ⟨o,j,q⟩|z
  . exact .inl ⟨o,j,Jg f q⟩
  . exact .inr z)
end
section
variable {X:Cx} {e:Expr} {x:Str} {p pos apos bY:Pos} {f:T1}
def YB (i:Nat) (he:fQ X .s e f) (hN:X.N[i]?=some x:=by rfl) (hv:gM X.env.scope x:=by exact eE rfl)
   (hd:YU x:=by decide) (J:WV x:=by decide)
   (j:nR (.Name x p) "append" X.env (eval (.Name x p) X.env)=eval (.Name x p) X.env:=by rfl)
   (u:((dL bY (bb [e] X.env)).all (λx=>!x.1)&&(lK bY (lL [] X.env)).all (λx=>x.1.isSome)
     &&decide ([e].length+([]:List i3).length+(if ([]:List i3).isEmpty then 0 else 1)<30))=true:=by exact JE rfl rfl)
   (l:(apos.endLine==bY.line)=true:=by rfl) (O:bb [e] X.env=(false,eval e X.env)::bb [] X.env:=by exact jm rfl) (h:(dL bY (bb [] X.env)).any (·.1)=false:=by exact jS rfl)
   (L:ix (.Call (.Attribute (.Name x p) "append" apos) [e] [] bY) none pos.line X.env=pure false:=by rfl):
   lV X (.Expr (.Call (.Attribute (.Name x p) "append" apos) [e] [] bY) pos) (qH i f):=by
 with_unfolding_all exact (
  PS.imp (ZX (AT Fk E3 PySem.F.type_list_append Xk (xF hN hv hd J) (qc he wo O) j u l O h) L) λE Q H=>by
   rintro ⟨G,H0,g,k,q⟩;have N: ∃r,bZ i g= .ok r/\qH i f g=(f g>>=λd=>aY (r.length<aP) (.ok (.nx (g.set i (.aw (.ai (r++[d]))))))):=by
     cases e1:bZ i g with
     |ok r=>exact ⟨r,rfl,by unfold qH;rw [e1];rfl⟩
     |exc c=>unfold bZ at e1;split at e1<;>cases e1
     |aj=>
       have z:qH i f g= .aj:=by unfold qH;rw [e1];rfl
       rcases q with ⟨o,n,_⟩| ⟨c,n,_⟩<;>(rw [z] at n;cases n)
   obtain ⟨r,e1,e2⟩:=N;rw [e2] at q;have U:=Q6 e1;obtain ⟨a,Y,ha,hx,rs⟩:=Q5 k U;refine ⟨.ref a,ha,.inl ⟨rfl,Y,.of hx⟩,G,H0,g,k,?_⟩;rcases q with ⟨o,n,q⟩| ⟨c,n,th⟩
   . obtain ⟨d,B,w⟩:=jd n;obtain ⟨hz,e5⟩:=jv w;cases e5;refine .inl ⟨d,B,λv H1 I r1 _=>?_⟩;have y:=I _ _ hx;refine ⟨a,Y,v,rfl,rfl,y,by rw [rs.length];exact hz,?_⟩;have W:=(k.am I).write U ha y ((rs.am I).append (.cons r1 .nil));exact q Q _ W.1 (W.2.am I)
   . rcases zu n with B| ⟨d,B,w⟩
     . exact .inr ⟨c,B,th.b Q H k.af⟩
     . unfold aY at w
       split at w<;>cases w)
end
structure cq (P:bB) (w:World) (K:aC) (mg:Vj) (af:Heap) (k:Nat) (c m:Str) (ps:List Str) (Af:List D) (fr:Bool) (F:TX):Prop where
 ex: ∃C f fd Nq G5,bX P w K mg af (gg P w) k f fd ps (MQ K fr ps.length F)/\cT K cc c=some (some (.ref C))/\f7 K C/\Meth K C m f/\Binds K fd ps G5/\aN Nq G5/\ ∀A H,au K A H Nq Af
def cq.mono {K:aC} (h:cq P w K mg af j c m i d l F) (n:j<=k):cq P w K mg af k c m i d l F:=
 let ⟨C,f,o,e,g,a,b⟩:=h.ex
 ⟨C,f,o,e,g,a.mono n,b⟩
def yN (c m:Str) (n:Nat) (a:List D) (F:TX) (j:T1) (g:TY):Sl->al D:=λd=>match j d with
 | .ok (.obj e h l)=>if e=c/\h.contains m=false then match g d with
   | .ok i=>aY (i.length+a.length+1=n) (F (.obj e h l::(i++a)))
   |_=> .aj
  else .aj
 |_=> .aj
def jci (h:yN c m n a F i g env≠ .aj): ∃d e ds,i env= .ok (.obj c d e)/\d.contains m=false/\g env= .ok ds/\ds.length+a.length+1=n/\yN c m n a F i g env=F (.obj c d e::(ds++a)):=by
 unfold yN at h ⊢
 split at h
 . rename_i p d e e1
   split at h
   . rename_i o;obtain ⟨rfl,j⟩:=o
     split at h
     . rename_i ds e2;unfold aY at h
       split at h
       . rename_i l;refine ⟨d,e,ds,e1,j,e2,l,?_⟩;rw [if_pos ⟨rfl,j⟩];exact jn l
       . exact (h rfl).elim
     . exact (h rfl).elim
   . exact (h rfl).elim
 . exact (h rfl).elim
section
variable {X:Cx} {k n:Nat} {c m:Str} {ps:List Str} {Af:List D} {fr:Bool} {F:TX} {o e:Expr} {es:List Expr} {pos apos:Pos} {fo:T1} {g:TY} {pl:Sem Bool}
def Nr {v:L2.St} (F:bX X.prog X.w X.K X.mg X.af y k f z ps B) (J:aI k X.A) (L:Binds X.K z ps a) (w:aN d a)
  (I:aA X i v H s) (r:aN vs j) (h:B (vs++d) H Q E) (N: ∀e p,y X.stack H s E e p->X.xe e p):wpAny (model X.prog X.w) X.A (call (.ref f) j) (EP X i v Q) X.xe s:=by
 have O:(j++a).length=ps.length:=by rw [<-F.len _ _ _ _ h,dr,dr,r.length,w.length]
 have q:=L s j I.eD O;refine wm (pB (F.run X.A X.stack s H ⟨j,[]⟩ (j++a) (vs++d) Q E J I.pA q (r.append w) h) λr p l=>?_)
 cases r with
 |error e=>exact N e p l
 |ok U=>
  cases U with
  |ret u=>exact I.after l
  |next=>exact gO l
  |brk=>exact gO l
  |cont=>exact gO l
def cq.io {l:Lv} (hl: ∀ {H:Hp} {v:V},(fr=true->be H v)->l.T H v) (A:cq X.prog X.w X.K X.mg X.af k c m ps Af fr F) (hr:aI k X.A) (ho:DE X .s o fo) (ha:DA X .s (e::es) g) (hA: ∀ {G:Vi} {env:Sl} {w:L2.St} {c:Addr},Sf G env w c->l.A G env w c:=by exact λz=>z) (hn:ps.length=n:=by rfl)
   (Dj:UO X e es:=by exact jm rfl) (wD:UN X pos es:=by exact jS rfl)
   (ht:eval (.Call (.Attribute o m apos) (e::es) [] pos) X.env=(do
     let ov<-eval o X.env
     nw apos.atName
     let (f,first)<-mE [ov] (r9 ov m pl)
     callWith pos f first (dL pos (bb (e::es) X.env)) (lK pos (lL [] X.env))):=by rfl):fQ X l (.Call (.Attribute o m apos) (e::es) [] pos) (yN c m n Af F fo g):=by
 subst hn;obtain ⟨C,f,fd,N,G5,h1,h2,h3,h4,h5,h6,h7⟩:=A.ex
 with_unfolding_all exact (by
 rintro h s w H Q I ⟨O,H0,env,kk,q⟩
 have ns:yN c m ps.length Af F fo g env≠ .aj:=by
   intro z;rcases q with ⟨o,J,_⟩| ⟨c,J,_⟩<;>(rw [z] at J;cases J)
 obtain ⟨U,Y,ds,e1,e2,e3,e4,e5⟩:=jci ns;rw [e5] at q;refine EU (bi ((show PE X o (tE X.K .s fo) from ho) h s w H (λv H1=>ao H H1/\aL X.K (Sf O env w) H1 v (.obj c U Y)) I ⟨O,H0,env,_,kk,e1,λv H' y r' _=>⟨y,r'⟩⟩) λu s1 j5=>?_) ht;obtain ⟨x,H1,I1,rx,i,r1⟩:=j5;obtain ⟨a,C',dx,fs,rfl,hx,_,hc,hn,rs⟩:=r1.objE;rw [h2] at hc;cases hc;obtain rfl:u=cX a:=rx;refine Z9 I1 hx h3 h4 (Zf (by rw [hn];exact e2)) ?_;refine sd I.ok.mod.oW h4.kp (bi ((show PA X (e::es) (tA X.K .s g) from ha) pos h s1 w H1 (λY L=>ao H1 L/\au X.K (Sf O env w) L Y ds) I1 ⟨O,H0,env,ds,kk.am i,e3,λY H' y r'=>⟨y,r'⟩⟩) λus s2 ⟨ws,L,I2,r,j,rws⟩=>⟨I2.eD,?_⟩) Dj wD;have p:au X.K (Sf O env w) L (.ref a::(ws++N)) (.obj c U Y::(ds++Af)):= .cons (r1.am j) (rws.append (h7 _ _));have B:(V.ref a::(ws++N)).length=ps.length:=by rw [p.length,bN,dr];omega
 rcases q with ⟨d,J,q⟩| ⟨c',J,th⟩
 . refine Nr (vs:= .ref a::ws) (E:=λ_ _ _=>False) h1 hr h5 h6 I2 (.cons rfl r) ⟨_,_,B,p,.inl ⟨d,J,λv H3 s3 r3 nt=>?_⟩⟩ λe y cx=>?_
   . exact q v H3 (i.trans (j.trans s3)) (r3.aE λc z=>hA (z.elim (λz=>kk.new c (ao.free i (ao.free j z))) λz=>z)) (hl λz=>((nt z).am j).am i)
   . obtain ⟨_,_,_,_,_,_,_,_,_,_,_,_,_,z⟩:=cx;exact z.elim
 . refine Nr (vs:= .ref a::ws) (E:=XE X.K c' L) h1 hr h5 h6 I2 (.cons rfl r) ⟨_,_,B,p,.inr ⟨c',J,λC H' hC y=>⟨C,rfl,hC,y⟩⟩⟩ λe y cx=>?_
   exact th h L s2 e y (i.trans j) I2 cx)
end
def rD (K:aC) (C:Addr) (m q:Str) (st:Stmt) (n:List Str) (e:List D):Prop:= ∃(f:Addr) (o:Value) (p h:Option Addr) (g:Array (Option Value)) (i kV c j a l:Value) (fI:List V) (d:List Value),
 K.lookup f=some ⟨o,p,.func (lM m q (wG st) (qa st) (jf st) i kV c j h a l),g⟩/\ra K a q=true/\Meth K C m f/\Binds K (lM m q (wG st) (qa st) (jf st) i kV c j h a l) n d/\aN fI d/\ ∀A H,au K A H fI e
def Dm.x {K:aC} {st:Stmt} (d:Dm K C m q st ps):rD K C m q st ps []:=by
 obtain ⟨f,o,F,h,B⟩:=d;obtain ⟨i,j,kV,a,l,n,c,ct,e,rfl,lk,g⟩:=F.ex;exact ⟨f,i,j,n,e,_,kV,a,l,c,ct,[],[],lk,g,h,B,.nil,λ_ _=> .nil⟩
section
variable {P:bB} {w:World} {K:aC} {mg:Vj} {af:Heap}
def KQ {st:Stmt} (U:Bool) (d:rD K C m q st Y p) (l:cT K cc c=some (some (.ref C))/\f7 K C) (S:ar N Y (jf st))
   (hb: ∀(f:Addr) (j:Value) (A:bH) (i:List Env) (s:aM) (H:Hp) (E:XK),aI k (A.deeper (gn q (jf st) s.heap.objs.size f j))->gh (bu (gg P w) P w K mg af N q (jf st) f j A i s H E) (qa st) g):
   cq P w K mg af (k+1) c m Y p U (bt U N.length g):=by
 obtain ⟨f,oc,od,an,AM,dV,kV,doc,pm,j,ct,fI,u,lk,y,me,B,r1,r2⟩:=d;refine ⟨C,f,_,fI,u,?_,l.1,l.2,me,B,r1,r2⟩
 with_unfolding_all exact (by
 refine EW lk y S (λvs H Q E ⟨B,ds,hl,_⟩=>hl) λA i s H vs Q E hr h=>?_
 obtain ⟨B,ds,hl,r,q⟩:=h;refine ⟨_,hb f j A i s H E hr,?_⟩;have J:=XL (N:=N) r;rcases q with ⟨d,e,q⟩| ⟨c,e,q⟩
 . rcases Yh e with ⟨L1,z,hf⟩| ⟨rfl,env',z⟩
   . exact ⟨_,H,_,J,.inl ⟨_,z,λv n s r nt=>q v n s r λhh=>nt (hf hh)⟩⟩
   . exact ⟨_,H,_,J,.inl ⟨_,z,λgy n k' f'=>q .aU n k'.af .aU λ_ a e=>by cases e⟩⟩
 . refine ⟨_,H,_,J,.inr ⟨c,vx e,λo σ H1 s1 h e C vs L l I hx=>Yq I hx (q C H1 l L),λσ H1 L o H2 s1 e s' O I cx=>vV I cx λC n z=>?_⟩⟩;obtain ⟨C',e',l,s3⟩:=z;cases e'
   exact q C n l (L.trans (O.trans s3)))
end
def cq.av {K:aC} (h:cq P w K mg af k c m i [] j F):lY P w K mg af k c m i j (λds=>hI (F ds)):=by
 obtain ⟨C,f,l,fI,n,G,h2,o,p,u,v,y⟩:=h.ex;have z:=GV (y (λ_=>True) (λ_=>none)).length;subst z;cases v;refine ⟨C,f,l,⟨λa H Q E ⟨B,ds,d,hl,_⟩=>hl,λA outer s H args I a Q E hr J L N O=>?_⟩,h2,o,p,u⟩;obtain ⟨B,ds,d,hl,r,e,q⟩:=O;refine pB (G.run A outer s H args I a Q (λ_ _ _=>False) hr J L N ⟨B,ds,hl,r,.inl ⟨d,Yn e,q⟩⟩) λr Y g=>?_
 cases r with
 |error e=>
  obtain ⟨_,_,_,_,_,_,_,_,_,_,_,_,_,z⟩:=g;exact z.elim
 |ok U=>cases U<;>exact g
def lj (K:aC) (C:Addr) (m q:Str) (st:Stmt) (i:Int):Prop:= ∃(p T:Addr) (h j:Value) (l o d:Option Addr) (e a:Array (Option Value)) (kV g r c u:Value) (t:Tok) (n:Nat),
 gW K (.ref C) m=some (some (.ref p))/\AG K (.ref p)=true/\K.lookup p=some ⟨h,l,.func (lM m q (wG st) (qa st) (jf st) (.ref T) kV g r o c u),e⟩/\ra K c q=true/\iZ K (.ref p)=true/\
 K.lookup T=some ⟨j,d,.seq #[.int i t] n,a⟩
abbrev Nt (x q:Str) (st:Stmt) (i:Int) (h:List Value) (j:List Str) (l:Tok->List Value):Prop:= ∀(T:Addr) (kV a d:Value) (e:Option Addr) (c g:Value) (t:Tok),∃k:Option (Array Value)->Sem (List (Str×Value)),
 bindArgs (lM x q (wG st) (qa st) (jf st) (.ref T) kV a d e c g) ⟨h,[]⟩=(seqItems? (lM x q (wG st) (qa st) (jf st) (.ref T) kV a d e c g).defaults>>=k)/\k (some #[.int i t])=pure (j.zip (l t))
section
variable {K:aC} {C:Addr} {m q:Str} {st:Stmt} {i:Int} {p1 p2 p3:Str}
def lj.d2 (d:lj K C m q st i) (v: ∀a b,Nt m q st i [a,b] [p1,p2,p3] (λt=>[a,b,.int i t]):=by intro _ _ _ _ _ _ _ _ _ _;exact ⟨_,rfl,rfl⟩):rD K C m q st [p1,p2,p3] [.int i]:=by
 obtain ⟨p,T,w,ot,y,l,z,g,o,kV,c,r,e,ct,t,n,B,E,lk,h,kp,lt⟩:=d;refine ⟨p,w,y,l,g,_,kV,c,r,e,ct,[.int i],[.int i t],lk,h,⟨B,E,kp⟩,λs u H hl=>?_,.cons ⟨t,rfl⟩ .nil,λ_ _=> .cons (.int i) .nil⟩;have j:u.length=2:=by simpa using hl
 match u,j with
 | [a,b],_=>
  obtain ⟨k,h1,h2⟩:=v a b T kV c r l e ct t;exact .of_defaults rfl (H _ _ lt) rfl h1 h2
def lj.d3 (d:lj K C m q st i) (u: ∀a b c,Nt m q st i [a,b,c] [p1,p2,p3] (λ_=>[a,b,c]):=by intro _ _ _ _ _ _ _ _ _ _ _;exact ⟨_,rfl,rfl⟩):rD K C m q st [p1,p2,p3] []:=by
 obtain ⟨p,T,v,ot,w,l,y,h,o,kV,e,r,g,ct,t,n,z,B,lk,j,kp,lt⟩:=d;refine ⟨p,v,w,l,h,_,kV,e,r,g,ct,[],[],lk,j,⟨z,B,kp⟩,λs E H hl=>?_,.nil,λ_ _=> .nil⟩
 match E,hl with
 | [a,b,c],_=>
  obtain ⟨k,h1,h2⟩:=u a b c T kV e r l g ct t;exact .of_defaults rfl (H _ _ lt) rfl h1 h2
end
def jh4 (r: ∀v w,iD (Cx.lf X v w) c g):DS X (.Try c (d::y) [] [] z) g:=by
 with_unfolding_all exact (by
  rintro a s B H E I ⟨G,J,p,o,k,L,q⟩
  refine wpAny_Try_except (ie ((r (λe i=>wpAny (model X.prog X.w) X.A (rz e X.env) (λ_ j=>wpAny (model X.prog X.w) X.A (setFlight e none) (λ_ l=>
   wpAny (model X.prog X.w) X.A (handleBy e X.env (d::y)) (SP X a E) X.xe l) X.xe j) X.xe i) a) [] s B H E (kF I) ⟨G,J,p,o,k,L,q⟩) (λf N n=>?_) λe N h=>h)
  cases f with
  |next=>exact rV (zC n)
  |brk=>exact zC n
  |cont=>exact zC n
  |ret u=>exact zC n)
abbrev FJ:=Sl->al (D×Sl)
end M
namespace M
open PySem
end M
namespace M
open PySem PySem.Spec L2
open PyProof.Rows hiding St
noncomputable def tR:D->D->al D
 | .ai a,.int k=>aY (-(2^63)<=k/\k<2^63/\a.length*k.toNat<=aP) (.ok (.ai (dq k.toNat a).flatten))
 |_,_=> .aj
def jjv {K:aC}:sE K AV tR:=by
 intro A x y H a b d Q i j e q;unfold tR at e
 split at e
 . obtain ⟨⟨n,o,r⟩,e2⟩:=jv e;cases e2;cases j.cL;obtain ⟨l,u,rfl,v,_,h⟩:=i.cK;refine ⟨l,_,u,rfl,rfl,v,n,o,by rw [h.length];exact r,λp g=>q _ _ (ao.aH g) ?_ (qK (ao.refl H) g)⟩;exact .ai ju (.inl g) (((h.low.rep _).laid g).aE λc z=>⟨.inr z.1,z.2⟩)
 . cases e
section
variable {X:Cx}
noncomputable def g3 (t u w:TW):D->Sl->al Sl:=λd e=>match d with
 | .ak [x,y,z]=>t x e>>=λc=>u y c>>=λa=>w z a
 |_=> .aj
def jfs {a b c:Expr} {k:Nat} {j:Pos} {t u w:TW} (L:X.bM=true) (N:DG X a t) (O:DG X b u) (U:DG X c w)
   (Y:(dO [a,b,c] X.env).map (·.2)=lG a X.env::(dO [b,c] X.env).map (·.2):=by rfl) (l:(dO [b,c] X.env).map (·.2)=lG b X.env::(dO [c] X.env).map (·.2):=by rfl)
   (n:(dO [c] X.env).map (·.2)=lG c X.env::(dO [] X.env).map (·.2):=by rfl)
   (hn:(dO [a,b,c] X.env).length=3:=by rfl) (o:(dO [a,b,c] X.env).findIdx? (·.1)=none:=by rfl):DG X (.Tuple [a,b,c] k j) (g3 t u w):=by
 with_unfolding_all exact (
  PG.imp (Ev L (xh N (xh O (xh U Y1 n) l) Y) hn o) λv σ H Q=>by
   rintro ⟨G,p,y,d,i,k,r,e,q⟩;unfold g3 at e
   split at e
   . obtain ⟨g,e1,e2⟩:=jd e;obtain ⟨h,e3,e4⟩:=jd e2;obtain ⟨a,xs,rfl,ha,rs⟩:=r.dH;obtain ⟨v1,I,z,rfl,r1,r2,r3⟩:=rs.three;exact ⟨a,_,rfl,.of ha,rfl,v1,[I,z],rfl,G,p,y,_,g,k,r1,e1,λpN k1 B=>⟨I,[z],rfl,G,p,g,_,h,k1,B.rep k r2,e3,λGR k2 J=>⟨z,[],rfl,G,p,h,_,i,k2,(B.trans J).rep k r3,e4,λE k3 f3=>⟨rfl,q E k3 ((B.trans J).trans f3)⟩⟩⟩⟩
   . cases e)
end
noncomputable def p4 (cs:List Str) (d:Str) (g:TZ):Sl->al aT:=λa=>match g a with
 | .ok o=> .ok o
 | .exc c=>if cs.contains c then .exc d else .aj
 | .aj=> .aj
section
variable {X:Cx} {w:List Stmt} {g:TZ}
def jfi (h:fQ X .s e f):BH X (.Return (some e) n) (retS f):=by
 with_unfolding_all exact (PS.imp (Q0 h) λE y H=>by
  rintro ⟨G,l,i,k,q⟩;rcases q with ⟨o,j,q⟩| ⟨c,j,p⟩
  . obtain ⟨d,e1,e2⟩:=jd j;cases e2;exact ⟨G,l,i,k,.inl ⟨d,e1,λv u s r B=>q v u (k.af.trans s) (r.aE λa z=>z.2) λz=>by cases z⟩⟩
  . rcases zu j with e1| ⟨d,e1,e2⟩
    . exact ⟨G,l,i,k,.inr ⟨c,e1,p⟩⟩
    . cases e2)
def jfj {np tU pos Nu bY tq:Pos} {j:Expr} (cs:List Str) (i: ∀E' ps,oq (Cx.lf X E' ps) w g)
    (hT:X.mg T=some (.ref CT)) (Y: ∀c,cs.contains c=true-> ∀C,eT X.K c C->o7 X.K (.ref C) (.ref CT)=some true) (Nv: ∀c,cs.contains c=true-> ∀C,eT X.K c C->C≠dC)
    (hC:eT X.K c2 C2) (hCd:C2=dC) (hm:X.mg c2=some (.ref C2)) (hq:BG X.K C2 bm newId=true) (FB:ExcBaseFacts Bn newId G6 bm)
    (ha: ∀e,DE (Cx.held X e) l j f) (aV: ∀env,∃d,f env= .ok d) (hg2:Gl X c2:=by rfl) (G7:YU c2:=by decide)
    (he:bb [j] X.env=(false,eval j X.env)::bb [] X.env:=by rfl)
    (L:X.stack=X.env::X.outer:=by rfl) (ly:X.env.frame=some X.env.locals:=by rfl) (hg:Gl X T:=by rfl) (BJ:YU T:=by decide):
    lV X (.Try w [.ExceptHandler (some (.Name T np)) none [.Raise (some (.Call (.Name c2 Nu) [j] [] bY)) none tq] tU] [] [] pos) (p4 cs c2 g):=by
 subst hCd
 with_unfolding_all exact (by
  rintro y s σ H E I ⟨G,H0,env,k,O⟩;refine wpAny_Try_except (ie ((i (BI X y E [.ExceptHandler (some (.Name T np)) none [.Raise (some (.Call (.Name c2 Nu) [j] [] bY)) none tq] tU]) y) [] s σ H E (kF I) ⟨G,H0,env,k,?_⟩) (λf p hq=>?_) λe p h=>h)
  . unfold p4 at O
    cases eg:g env with
    |ok o'=>
     rw [eg] at O;rcases O with ⟨o,e1,q⟩| ⟨c,e1,_⟩
     . cases e1;exact .inl ⟨_,rfl,q⟩
     . cases e1
    |aj=>rw [eg] at O;rcases O with ⟨o,e1,q⟩| ⟨c,e1,_⟩<;>cases e1
    |exc c=>
     rw [eg] at O;dsimp only at O
     by_cases hc:cs.contains c=true
     . rw [if_pos hc] at O;rcases O with ⟨o,e1,q⟩| ⟨c',e1,th⟩
       . cases e1
       cases e1;refine .inr ⟨c,rfl,λBK H1 s2 e s' sm I' cx=>?_⟩;have I1:=yo I';obtain ⟨a,C,H',B,a0,rfl,os,bare,un,Q,Nw,fl,tt,C',eC,Nx,pX⟩:=cx;cases eC;have J:=I1.fZ os un Q bare λb i=>absurd i (by simp)
       have nb:a∉cH X.stack:=λhm=>by
         obtain ⟨_,o',BL,hd⟩:=J.stack.mem hm;obtain ⟨oe,vs,he,_,hv,_⟩:=fl.there;rw [he] at BL;cases BL;exact hd _ hv
       have hn:s2.heap.get? a=none:=by
         cases z:s2.heap.get? a with
         |none=>rfl
         |some o'=>
          obtain ⟨ob,_,Gd,_⟩:=fl.there;have:=tt a nb (.inl ⟨o',z⟩);rw [fl.2.1,Gd] at this;cases this
       refine Kw op.set (by rw [<-L];exact I.ok.frames) ly (by rw [<-L];exact fl) λh2 held BM=>?_
       refine J6 held λh3 tu Ge=>?_
       have BN:h2.UpToSlots h3:=λb o e n=>⟨o.slots,Ge b o e n⟩
       obtain ⟨f1,f2,f3,f4⟩:=tu;obtain ⟨U3,O3⟩:=Xo un Q J.cO tt J.stack f1 (BM.trans BN);have I3:=I1.fZ (s':={s' with heap:=h3}) os U3 O3 bare λb i=>absurd i (by simp)
       refine wpAny_handleBy_cons (codeAny_handlers_test ?_) (by intro q;cases q);refine yO (WK I3) hg hT ?_ BJ;obtain ⟨ob3,_,_,_,_,tw,⟨Gf,_⟩,_⟩:=id f4;refine (PySem.W.exm_one I3.eD (by rw [<-Gf];exact (tx tw).andThen .now) (Y c hc C Nx)).here ?_;refine codeAny_handlers_suite ?_;refine J6 ⟨f1,f2,f3,f4⟩ λh4 Gg ou=>?_
       obtain ⟨Gh,_,FF4,Gi⟩:=Gg;have Gj:=BM.trans (BN.trans λb o e n=>⟨o.slots,ou b o e n⟩);obtain ⟨U4,O4⟩:=Xo un Q J.cO tt J.stack Gh Gj;obtain ⟨oe,va,_,_,_,Gk,⟨MV,hF⟩,hda,_⟩:=id Gi;obtain ⟨U5,O5⟩:=MT U4 O4 hn Nw Gk;have I5:=I1.fZ (s':={s' with heap:=h4}) os U5 O5 bare λb i=>absurd i (by simp)
       have sS:ao H (aH H' a (.bE oe (.aw a))):=(sm.trans pX).trans (ao.aH Nw);have k5:=k.am sS;obtain ⟨d,hd⟩:=aV env;obtain ⟨tl,N,nm,qn,bs,hdct,sn,sub,ab,col,dd,k0,k1,k2,k3,k5',mN,hCo,hN,hni,T'⟩:=MR X.prog I5.ok.mod hC hq;have Ny:=WK (e:=a) I5
       refine wpAny_execs_cons (jee (a:=a) (nm:=nm) (q:=qn) (N:=N) (bs:=bs) (hdct:=hdct) (sn:=sn) (sub:=sub) (ab:=ab) (col:=col) (dd:=dd) (k0:=k0) (k1:=k1) (k2:=k2) (k3:=k3) (k5:=k5')
         FB (T'.hasType FB.hasBase) rfl (by rw [he];rfl) hni (yO Ny hg2 hm ⟨rfl,?_⟩ G7))
       rw [he];refine E1 (EQ (ie ((show PE (Cx.held X a) j (tE X.K l f) from ha a) y _ σ _ (λv H1=>ao (aH H' a (.bE oe (.aw a))) H1) Ny ⟨G,H0,env,d,k5,hd,λv H' s' _ _=>s'⟩) (λu p ⟨v,U,I6,r,Nz⟩=>EO ?_) λ_ _ z=>gO z));refine ⟨rfl,(by decide:1<=aP),I6.bk _ _ hCo,hN.keeps I6.bk,T'.keeps I6.bk,λh' e Y=>?_⟩;have h6:U a=some (.bE oe (.aw a)):=Nz _ _ ju;have NA:p.heap.get? a=some oe:=(show a6 X.prog X.w U p.heap a (.bE oe (.aw a)) from I6.aV a _ h6).1
       have nea:a≠e:=λz=>by
         have:=Y.new;rw [<-z,NA] at this;cases this
       refine ⟨oe,va,nea,Y.keeps _ _ NA,hda,hF (Nv c hc C Nx),?_⟩;have I7:=yp I.ok I6;obtain ⟨t,tm,_,_⟩:=Y.there;have NB:=rk (o:={cls:= .ref dC,data:= .fields #[.ref t,.none,.none,.none,.bool false,.none]}) rfl (·.setIfInBounds 2 (.ref a));have he7:=BA (Bz (·.setIfInBounds 2 (.ref a))) tm (BB NB)
       have G8: ∀b o,p.heap.get? b=some o->(h'.update e (Bz (·.setIfInBounds 2 (.ref a)))).get? b=some o:=λb o i=>by
         rw [nU _ _ λz=>by rw [<-z,Y.new] at i;cases i];exact Y.keeps b o i
       have hen:U e=none:=by
         cases q:U e with
         |none=>rfl
         |some u=>
          obtain ⟨ob,z⟩:=yM (show a6 X.prog X.w U p.heap e u from I7.aV e u q);rw [Y.new] at z;cases z
       have cv: ∀b,b∉cH X.stack->((∃o,p.heap.get? b=some o)\/ ∃u,U b=some u)-> ∃o,p.heap.get? b=some o/\(rR p.heap (cH X.stack)).get? b=some o:=λb i z=>by
         have: ∃o,p.heap.get? b=some o:=by
          rcases z with z| ⟨u,q⟩
          . exact z
          . exact yM (show a6 X.prog X.w U p.heap b u from I7.aV b u q)
         obtain ⟨o,q⟩:=this;exact ⟨o,q,Ef _ q i⟩
       have NC:p.heap.FunFrames (rR p.heap (cH X.stack)) X.stack:=PySem.W.funFrames_hide I7.stack λenv he b i=>Ax.mpr ⟨env,he,i⟩
       rw [L] at NC;refine VZ (F:=op dC) (l:=X.outer) op.set (by show X.A.frames=_;rw [<-L];exact I.ok.frames) (NC.of_keeps λb o i _=>⟨o,G8 b o i,rfl⟩) ly he7 (λb o q=>G8 b o (Ap _ q)) ?_ NB rfl (λq=>absurd rfl q) λh8 x8 u8=>?_
       . cases q:(rR p.heap (cH (X.env::X.outer))).get? e with
         |none=>rfl
         |some o=>
          have:=Ap _ q;rw [Y.new] at this;cases this
       refine je4 ly x8 λh9 x9 k9=>?_
       have up9:p.heap.UpToSlots h9:=(Heap.UpToSlots.of_keeps G8).trans (u8.trans λb o e n=>⟨o.slots,k9 b o e n⟩);rw [<-L] at x9;obtain ⟨U9,O9⟩:=Xo (Un.kept λb o e=>e) I7.aV I7.cO (λb i z=>let ⟨o,q1,q2⟩:=cv b i z;q2.trans q1.symm) I7.stack x9.1 up9;refine th.b σ U (k5.af.trans Nz) y U p (.ref e) _ (ao.refl _) I7 ⟨e,dC,U,_,.none,rfl,rfl,I7.bare,U9,O9,hen,⟨x9.1,x9.2.1,x9.2.2.1,_,.inr ⟨_,_,_,L,ly,rfl⟩,x9.2.2.2⟩,λb i z=>?_,dC,rfl,hC,ao.refl _⟩;obtain ⟨o,q1,q2⟩:=cv b i z;rw [q2];exact (x9.1 b o q2).symm
     . rw [if_neg hc] at O;rcases O with ⟨o,e1,q⟩| ⟨c,e1,_⟩<;>cases e1
  . cases f with
    |next=>exact rV (zC hq)
    |brk=>exact zC hq
    |cont=>exact zC hq
    |ret u=>exact zC hq)
end
def Av.x {P:bB} {w:World} {K:aC} {mg:Vj} {af:Heap} {k:Nat} {x:Str} {ps:List Str} {fr:Bool} {F:TX} (h:Av P w K mg af k x ps fr F):fT P w K mg af k x ps fr (λds=>hI (F ds)):=by
 obtain ⟨f,i,G,b⟩:=h.ex;refine ⟨f,i,⟨λa H Q E ⟨B,ds,hl,_⟩=>hl,λA outer s H args j a Q E hr l n o p=>?_⟩,b⟩;obtain ⟨B,ds,hl,r,⟨d,e,q⟩| ⟨c,e,_⟩⟩:=p
 . refine pB (G.run A outer s H args j a Q (λ_ _ _=>False) hr l n o ⟨B,ds,d,hl,r,Yn e,q⟩) λr v g=>?_
   cases r with
   |error e=>exact gO g
   |ok u=>cases u<;>exact g
 . exact (Xj e).elim
def Zw (F:TX) (c d:T1):Sl->al D:=λa=>match c a with
 | .ok e=>d a>>=λd2=>hI (F [e,d2])
 |_=> .aj
section
variable {X:Cx} {k:Nat} {x:Str} {n o:Str} {F:TX} {e J:Expr} {p B:Pos} {f u:T1}
def Av.tV (hl:(fr=true/\l= .t)\/(fr=false/\l= .s)) (A:Av X.prog X.w X.K X.mg X.af k x [n,o] fr F) (hr:aI k X.A) (ha:DE X .s e f) (hb:fQ X .s J u) (hg:Gl X x) (BJ:YU x)
   (he:bb [e,J] X.env=(false,eval e X.env)::bb [J] X.env) (tm:bb [J] X.env=(false,eval J X.env)::bb [] X.env) (L:(dL B (bb [J] X.env)).any (·.1)=false):fQ X l (.Call (.Name x p) [e,J] [] B) (Zw F f u):=by
 obtain ⟨fa,fd,h1,h2,h3,h4⟩:=A.x.ex
 with_unfolding_all exact (by
 rintro i s O H Q I ⟨G,U,env,N,q⟩;refine wC (yO I hg h2 ?_ BJ);have hA:=qc (show PE X e (tE X.K .s f) from ha) (qc (show PE X J (MO X .s u) from hb) wo tm) he
 have c1: ∃d,f env= .ok d:=by
   cases e1:f env with
   |ok d=>exact ⟨d,rfl⟩
   |_=>
     have z:Zw F f u env= .aj:=by unfold Zw;rw [e1]
     rw [z] at q;rcases q with ⟨d,g,_⟩| ⟨c,g,_⟩<;>cases g
 obtain ⟨j,e1⟩:=c1;have e0:Zw F f u env=(u env>>=λd2=>hI (F [j,d2])):=by unfold Zw;rw [e1]
 rw [e0] at q
 have h:(∃d,u env= .ok d)\/(∃c,u env= .exc c/\lc X c O H):=by
   rcases q with ⟨d,g,_⟩| ⟨c,g,Y⟩
   . obtain ⟨a,e1,_⟩:=jd g;exact .inl ⟨a,e1⟩
   . rcases zu g with e1| ⟨a,e1,_⟩
     . exact .inr ⟨c,e1,Y⟩
     . exact .inl ⟨a,e1⟩
 rcases h with ⟨d,e2⟩| ⟨c,e2,Y⟩
 . rw [show (u env>>=λd2=>hI (F [j,d2]))=hI (F [j,d]) by rw [e2];rfl] at q;refine sd I.ok.mod.oW h3 (bi (hA B i s O H (λvs y=>ao H y/\au X.K (Sf G env O) y vs [j,d]) I ⟨G,U,env,j,N,e1,λv y w r1 _=>⟨G,U,env,N.am w,.inl ⟨d,e2,λv' H' s' r' _=>⟨w.trans s',.cons (r1.am s') (.cons r' .nil)⟩⟩⟩⟩) λus w ⟨vs,y,I1,r,sm,rs⟩=>⟨I1.eD,?_⟩) he L;rcases q with ⟨d',g,q⟩| ⟨c,g,Y⟩
   . refine UR (E:=λ_ _ _=>False) h1 hr h4 I1 r ⟨_,[j,d],by rw [rs.length];rfl,rs,.inl ⟨d',g,λv H2 s2 r2 nt=>?_⟩⟩ λe s' cx=>?_
     . have r3:=r2.aE λc z=>z.elim (λz=>N.new c (ao.free sm z)) λz=>z
       rcases hl with ⟨rfl,rfl⟩| ⟨rfl,rfl⟩
       . exact q v H2 (sm.trans s2) r3 ((nt rfl).am sm)
       . exact q v H2 (sm.trans s2) r3 trivial
     . obtain ⟨_,_,_,_,_,_,_,_,_,_,_,_,_,z⟩:=cx;exact z.elim
   . exact (Xj g).elim
 . exact sd I.ok.mod.oW h3 (bi (hA B i s O H (λ_ _=>False) I ⟨G,U,env,j,N,e1,λv y w r1 _=>⟨G,U,env,N.am w,.inr ⟨c,e2,Y.am w⟩⟩⟩) λus w ⟨vs,y,I1,r,z⟩=>z.elim) he L)
def Av.tW (A:Av X.prog X.w X.K X.mg X.af k x [n,o] true F) (hr:aI k X.A) (g:DE X .s e f) (h:fQ X .s J u) (hg:Gl X x:=by rfl) (a:YU x:=by decide)
 (i:bb [e,J] X.env=(false,eval e X.env)::bb [J] X.env:=by exact jm rfl) (c:bb [J] X.env=(false,eval J X.env)::bb [] X.env:=by exact jm rfl) (d:(dL B (bb [J] X.env)).any (·.1)=false:=by exact jS rfl):fQ X .t (.Call (.Name x p) [e,J] [] B) (Zw F f u):=Av.tV (.inl ⟨rfl,rfl⟩) A hr g h hg a i c d
end
section
variable {f Q U:T1} {fa:TY} {t t1 t2:T0} {g ga Y:TZ} {env env':Sl} {d x y z:D} {ds:List D} {b:Bool} {i:Nat}
def ji2 (h:env[i]?=some (.ah d)):ag i env= .ok d:=by unfold ag;rw [h]
def jkJ (h:env[i]?=some (.ah d)):ge i env= .ok d:=by unfold ge;rw [h]
def jkK (h:env[i]?=some (.aw d)):ge i env= .ok d:=by unfold ge;rw [h]
def jlc {j:Int}:cI j env= .ok (.int j):=rfl
def jlb:cN env= .ok .aU:=rfl
def jjz:ae env= .ok []:=rfl
def jkV:bF env= .ok (.nx env):=rfl
def VP {T:String} (h:f env= .ok x) (a:dW T x= .ok d):bv T f env= .ok d:=by rw [yV,h];exact a
def jk0 {o:aT} (h:t env= .ok b) (a:(if b=true then ga env else Y env)= .ok o):bW t ga Y env= .ok o:=by rw [Yz,h];exact a
def ND (h:env[i]?=some (.aw (.ai ds))):bZ i env= .ok ds:=by unfold bZ;rw [h]
def Yg {o:aT} (h:ga env= .ok (.nx env')) (a:Y env'= .ok o):aq ga Y env= .ok o:=(jl h).trans a
def G9 {a:TW} {c:TY} {o:aT} (h:c env= .ok ds) (e:bh (wx a g) ds env= .ok o):eH c a g env= .ok o:=(XC h).trans e
def NE {a:TW} {o:aT} (h:a d env= .ok env') (c:g env'= .ok o):wx a g d env= .ok o:=(yE h).trans c
def jk6 {j:Nat}:g2 (gN i) (gN j) (.ak [x,y]) env= .ok ((env.set i (.ah x)).set j (.ah y)):=rfl
def NF {a:TW} (h:f env= .ok d) (c:a d env= .ok env'):cw f a env= .ok (.nx env'):=by unfold cw;rw [h,kQ,c];rfl
def jkq (a:env[i]?=some (.aw (.ai ds))) (c:f env= .ok d) (e:ds.length<aP):qH i f env= .ok (.nx (env.set i (.aw (.ai (ds++[d]))))):=Zx (ND a) c e
def jgR {o a:aT} (h:ga env= .ok o) (c:iK Y o= .ok a):aq ga Y env= .ok a:=by rw [yt,h];exact c
def jhd {o:aT} (h:g env= .ok o):iK g (.nx env)= .ok o:=h
def jet {a:Bool}:iK g (.rt a d)= .ok (.rt a d):=rfl
def NG {e:Type} {c:Bool} {a b r:e} (j:c=true) (h:a=r):(if c=true then a else b)=r:=(if_pos j).trans h
def jkZ {e:Type} {c:Bool} {a b r:e} (j:c=false) (h:b=r):(if c=true then a else b)=r:=(if_neg (by rw [j];decide)).trans h
def jk8 {i j:Int} (a:0<j/\j<1073741824):zx [.int i,.int j]= .ok (.ak [.int (i/j),.int (i%j)]):=jn a
def jh8 {i j:Int} (h:0<j/\j<2^200):cA (.int i) (.int j)= .ok (.int (i/j)):=ue (C:=tM) h
def tX (x:D) (r:List D):aX (.ai (x::r)) (.int 0)= .ok x:=by
 simp only [aX];rw [show ((0:Int))=((0:Nat):Int) from rfl,M.cm];rfl
def B1 (x y:D) (r:List D):aX (.ak (x::y::r)) (.int 1)= .ok y:=by
 simp only [aX];rw [show ((1:Int))=((1:Nat):Int) from rfl,M.cm];rfl
def jfa {a b:Int}:eO (.int a) (.int b)= .ok (.bl (a==b)):=gr
def vT {a b:Int}:dA (.int a) (.int b)= .ok (.bl (!(a==b))):=by
 unfold dA;rw [jn (show sV (.int a) (.int b) from .inl ⟨rfl,rfl,by simp [D.dX]⟩)];simp [df]
def B2:20000<=aP:=by decide
def NH {k:Nat} (h:k<=20000):k<=aP:=dG h B2
def Ha {k:Nat} (h:k<20000):k<aP:=fH h B2
def jjZ {c n:Str} {a:T1} (h:a env= .ok x) (e:m8 c n x= .ok d):gk c n a env= .ok d:=by unfold gk;rw [h];exact e
def jhZ (h:f env= .ok (.ai ds)):Uf f env= .ok (jJ 0 ds):=by unfold Uf;rw [h];rfl
def jgD {a:List D} (c:Q env= .ok (.ai ds)) (e:U env= .ok (.ai a)):UE Q U env= .ok (zA ds a):=by unfold UE;rw [c,kQ,e];rfl
def jeE {c m:Str} {n:Nat} {F:TX} {a:T1} {g:TY} {env:Sl} {fs:List Str} {e ds:List D} {d:D} (h:a env= .ok (.obj c fs e)) (j:fs.contains m=false) (l:g env= .ok ds) (o:ds.length+1=n) (p:F (.obj c fs e::ds)= .ok d):X6 c m n F a g env= .ok d:=by
 unfold X6;rw [h];refine (jn (c:=c=c/\fs.contains m=false) ⟨rfl,j⟩).trans ?_;rw [l];exact (jn (c:=ds.length+1=n) o).trans p
def jkS:bS (.int 10) (.int 7)= .ok (.int 10000000):=(Xb (by decide)).trans rfl
def jkR:bS (.int 10) (.int 8)= .ok (.int 100000000):=(Xb (by decide)).trans rfl
def jkQ:bS (.int 10) (.int 9)= .ok (.int 1000000000):=(Xb (by decide)).trans rfl
def jjp:bS (.int 10) (.int 20)= .ok (.int 100000000000000000000):=(Xb (by decide)).trans rfl
def jjo:bS (.int 10) (.int 23)= .ok (.int 100000000000000000000000):=(Xb (by decide)).trans rfl
def ku {c:Str} {n:Nat} {F:FO} {g:TY} (a:g env= .ok ds) (e:ds.length=n) (h:F (.obj c [] []) ds= .ok (.aU,d)):BZ c n F g env= .ok d:=by
 unfold BZ;rw [a];refine (jn (c:=ds.length=n) e).trans ?_;rw [h];rfl
def jbt {a:List aR} {c:List D}:QS (.aQ a c)= .aw (.aQ a c):=rfl
def jbq:QS (.ai ds)= .aw (.ai ds):=rfl
def jbs {a:List (List aR)} {c:List D}:QS (.bP a c)= .aw (.bP a c):=rfl
def jbp:QS .aU= .ah .aU:=rfl
def jd6:QS (.bl b)= .ah (.bl b):=rfl
def jbr {j:Int}:QS (.int j)= .ah (.int j):=rfl
def jbo {j:Str}:QS (.str j)= .ah (.str j):=rfl
def jbn:QS (.ak ds)= .ah (.ak ds):=rfl
end
section
variable {f f1 f2:T1} {N:TY} {t t1 t2:T0} {g ga L:TZ} {env O:Sl} {d x y z:D} {ds:List D} {b:Bool} {i:Nat} {c:Str}
def jfy {o:aT} (h:g env= .ok o):zd g env= .ok o:=by unfold zd;rw [h];rfl
def KP (h:f env= .ok d):Ul f env= .ok d:=by unfold Ul;rw [h];rfl
def Ws {r:al aT} (h:t env= .ok b) (a:(if b=true then ga env else L env)=r):fR t ga L env=r:=by unfold fR;rw [h];exact a
def jjS {o:aT} (h:t env= .ok b) (a:(if b=true then ga env else L env)= .ok o):fR t ga L env= .ok o:=Ws h a
def XD {a:TW} {e:TY} (h:e env= .ok ds):eh e a g env=bh (zT a g) ds env:=by unfold eh;rw [h]
def YM {a:TW} (h:a d env= .ok O):zT a g d env=g O:=by unfold zT;rw [h]
def jdY {a:TW} {o:aT} (h:a d env= .ok O) (e:g O= .ok o):zT a g d env= .ok o:=(YM h).trans e
def y0 {n:Nat} {F:TX} (a:N env= .ok ds) (e:ds.length=n):zt n F N env=F ds:=by unfold zt;rw [a];exact jn e
def jfC {n:Nat} {F:TX} (a:N env= .ok ds) (e:ds.length=n) (h:F ds= .ok d):zt n F N env= .ok d:=(y0 a e).trans h
def Zd {m:Str} {n:Nat} {a:List D} {F:TX} {fs:List Str} {vs:List D} (e:f env= .ok (.obj c fs vs)) (h:fs.contains m=false) (j:N env= .ok ds) (l:ds.length+a.length+1=n):yN c m n a F f N env=F (.obj c fs vs::(ds++a)):=by
 unfold yN;rw [e];refine (if_pos ⟨rfl,h⟩).trans ?_;rw [j];exact jn l
def Qj (h:ga env= .exc c):aq ga L env= .exc c:=by rw [yt,h];rfl
def WU (h:f env= .exc c):jw i f env= .exc c:=by rw [WN,h];rfl
def Zk {a:D->Sl->al aT} (h:a d env= .exc c):bh a (d::ds) env= .exc c:=by
 show (a d env>>=_)=_;rw [h];rfl
def jfw (h:f env= .exc c):jb f N env= .exc c:=by rw [yW,h];rfl
def Ui (h:f env= .ok d) (a:N env= .exc c):jb f N env= .exc c:=by rw [yW,h,xp,a];rfl
def jgJ (h:N env= .exc c):aD N env= .exc c:=by rw [Md,h];rfl
def jit (h:env[i]?=some (.aw (.ai ds))) (a:f env= .exc c):qH i f env= .exc c:=by unfold qH;rw [ND h,kQ,a];rfl
def vz (h:f env= .exc c):retS f env= .exc c:=by rw [Ma,h];rfl
def NI {a:Bool} {n:Nat} {g:TZ} {ds:List D} {d:D} (h:g (qg n ds)= .ok (.rt true d)):bt a n g ds= .ok d:=by unfold bt;rw [h];simp
def Hb {n:Nat} {g:TZ} {ds:List D} {d:D} (h:g (qg n ds)= .ok (.rt false d)):bt false n g ds= .ok d:=by unfold bt;rw [h];simp
def QW {a:Bool} {n:Nat} {g:TZ} {ds:List D} (h:g (qg n ds)= .exc c):bt a n g ds= .exc c:=by unfold bt;rw [h]
end
end M
namespace G
open PySem PySem.Spec L2 M
open PyProof.Rows hiding St
noncomputable def top (i:Nat):Stmt:=PySem.Challenge.pw_endwise_k23_rows_walked.main.body.getD i (.Pass ⟨0,0,0,0⟩)
abbrev yH:Stmt:=top 46
abbrev Jr:Stmt:=top 48
abbrev YV:Stmt:=top 22
abbrev UQ:Stmt:=top 24
abbrev Hc:Stmt:=top 23
abbrev Qo:Stmt:=top 26
abbrev yG:Stmt:=top 21
abbrev ZP:Stmt:=top 20
abbrev ZN:Stmt:=top 15
abbrev ZQ:Stmt:=top 17
abbrev WZ:Stmt:=top 16
abbrev ZO:Stmt:=top 18
abbrev WX:Stmt:=top 19
abbrev YX:Stmt:=top 25
abbrev WY:Stmt:=top 41
abbrev Qn:Stmt:=top 40
abbrev zY:Stmt:=Qy (top 39) 0
abbrev Ju:Stmt:=top 58
abbrev Qp:Stmt:=top 59
abbrev W4:Stmt:=top 28
abbrev W3:Stmt:=top 36
abbrev W0:Stmt:=top 35
abbrev Ql:Stmt:=top 31
abbrev Qm:Stmt:=top 32
abbrev WW:Stmt:=top 42
abbrev wz:Stmt:=Qy (top 39) 6
abbrev yF:Stmt:=top 30
abbrev Jo:Stmt:=top 29
abbrev wy:Stmt:=top 43
abbrev zH:Stmt:=Qy (top 39) 5
abbrev wY:Stmt:=Qy (top 39) 4
abbrev yJ:Stmt:=top 53
abbrev UP:Stmt:=top 27
abbrev xD:Stmt:=Qy (top 39) 3
abbrev yK:Stmt:=Qy (top 39) 7
abbrev wX:Stmt:=top 60
abbrev Jt:Stmt:=top 61
abbrev Js:Stmt:=top 47
abbrev Qq:Stmt:=top 49
abbrev Jp:Stmt:=top 45
abbrev yI:Stmt:=top 50
abbrev Qs:Stmt:=top 52
abbrev Jq:Stmt:=top 55
abbrev Qr:Stmt:=top 54
abbrev ZR:Stmt:=top 56
abbrev yf:Stmt:=Qy (top 39) 1
abbrev He:Stmt:=top 34
abbrev ZS:Stmt:=top 57
abbrev YW:Stmt:=top 62
def xl:Sl->al aT:=
 (aq (jw 2 (ap (ap (cI 10) (cI 40) bS) (cI 121) aK)) (aJ (ap (ap (ap (ap (ag 0) (ag 2) a7) (cI 31415926535897932384626433832795) gD) (ap (ap (ap (ap (ag 1) (ag 1) gD) (ap (cI 3) (ag 1) gD) aK) (cI 7) aK) (cI 2718281828459045235360287471) gD) aK) (ag 2) a7)))
def wl:List D->al D:=aG true 3 (xl)
def xW:Sl->al aT:=
 (aq (jw 1 (cS "abcdefghijklmnopqrstuvwxyz")) (aq (cw (app (jb (ag 0) (jb (cI 8) ae)) zx) (g2 (gN 0) (gN 4))) (aq (cw (app (jb (ag 0) (jb (ap (ag 4) (cI 1) aK) ae)) zx) (g2 (gN 0) (gN 5))) (aq (jw 2 (cS "")) (aq (eH (eG (jb (ap (ag 4) (cI 1) aK) ae)) (gN 3) (aq (cw (app (jb (ag 0) (jb (cI 26) ae)) zx) (g2 (gN 0) (gN 6))) (jw 2 (ap (ag 2) (ap (ag 1) (ag 6) aX) aK)))) (aJ (zN false 1 [2,1,5,0] (eG (jb (cI 5) ae)) (gN 0) qz (ap (ap (qv (ag 1) zZ (zU (ag 3)) e9) (ap (ag 2) (ap (ap (ag 4) (ap (cI 5) (ag 0) gD) aK) (cI 26) a7) aX) aK) (qv (ag 1) (zU (ap (ag 3) (cI 1) aK)) zZ e9) aK))))))))
def ye:List D->al D:=aG true 7 (xW)
def uj:Sl->al aT:=
 (aJ (Fh (aW (bv "tuple" (ag 0))) (qv (ag 0) (zU (cI 1)) zZ e9) (aD ae)))
def jP:List D->al D:=aG true 1 (uj)
def Xw (a:TX) (c:TX):Sl->al aT:=
 (aq (de 1 (aS (jb (ag 0) ae))) (aq (eH (dU (jj 1 a (jb (ag 0) ae))) (gN 2) (zw 1 (jj 1 c (jb (ag 2) ae)))) (aJ (nE 1))))
def qy:Nat->List D->al D
 |0=>λ_=> .aj
 |n+1=>aG true 3 (Xw jP (qy n))
def NJ:Sl->al aT:=
 (aJ (Fh (aW (bv "tuple" (ag 0))) (aD (jb (ap (ag 0) (cI 0) aX) (jb (ap (app (jb (ag 0) ae) bo) (cI 1) eS) ae))) cN))
def xf:List D->al D:=aG true 1 (NJ)
def XB (a:TX) (c:TX):Sl->al aT:=
 (aq (de 1 F6) (aq (eH (dU (ag 0)) (gN 2) (eH (dU (jj 1 a (jb (ag 2) ae))) (gN 3) (bW (aW (bv "tuple" (ag 3))) (zI 1 (jj 1 c (jb (ag 3) ae)) (cB true)) bF))) (gA 1 (aJ (app (jb (ag 1) ae) YO)))))
def Jd:List D->al D:=aG true 4 (XB (qy 64) xf)
def xk (a:TX):Sl->al aT:=
 (aq (de 1 (aS ae)) (aq (eH (dU (ag 0)) (gN 2) (zw 1 (jj 1 a (jb (ag 2) ae)))) (aJ (nE 1))))
def qV:List D->al D:=aG true 3 (xk jP)
def J2 (a:TX):Sl->al aT:=
 (aq (jw 1 (aS (jb (ag 0) ae))) (aq (jw 2 (cI 0)) (aq (jw 3 (cI 0)) (aq (zX 2000 (mR (ag 1)) (aq (jw 2 (ap (ag 2) (cI 1) (mS λi j=>i+j))) (aq (jw 3 (ap (ag 3) (app (jb (ag 1) ae) bo) (mS λi j=>i+j))) (aq (bW (g8 (aW (ap (ag 2) (cI 60) nH)) (aW (ap (ag 3) (cI 1000) nH))) (aJ (cB true)) bF) (jw 1 (jj 1 a (jb (ag 1) ae))))))) (aJ (cB false))))))
def xu:List D->al D:=aG true 4 (J2 qV)
def Yy:Sl->al aT:=
 (aJ (nY (bv "int" (ag 0)) (pM (bv "bool" (ag 0))) true))
def qd:List D->al D:=aG true 1 (Yy)
def J3 (a:TX):Sl->al aT:=
 (aJ (nY (jj 1 a (jb (ag 0) ae)) (Zv (cI 0) (ag 0) (cI 999) mW mW) true))
def xv:List D->al D:=aG true 1 (J3 qd)
def JC:Sl->al aT:=
 (aq (bW (g8 (bx (aW (bv "str" (ag 0)))) (bx (aW (Zv (cI 1) (app (jb (ag 0) ae) bo) (cI 8) mW mW)))) (aJ (cB false)) bF) (aJ (app (jb (zN false 1 [] (dU (ag 0)) (gN 0) qz (ap (ag 0) (cS "abcdefghijklmnopqrstuvwxyz") inD)) ae) k4)))
def JV:List D->al D:=aG true 1 (JC)
def yq (a:TX) (c:TX):Sl->al aT:=
 (aq (bW (aW (bv "tuple" (ag 0))) (aJ (nY (Zv (cI 1) (app (jb (ag 0) ae) bo) (ap (cI 9) (cI 1) aK) mW mW) (jj 1 c (jb (ap (ag 0) (cI 0) aX) ae)) true)) bF) (aJ (jj 1 a (jb (ag 0) ae))))
def yA:List D->al D:=aG true 1 (yq xv JV)
def Xx (a:TX) (c:TX) (d:TX):Sl->al aT:=
 (aJ (nY (pM (jj 1 a (jb (ag 0) ae))) (app (jb (zN false 1 [] (dU (jj 1 d (jb (ag 0) ae))) (gN 0) qz (jj 1 c (jb (ag 0) ae))) ae) k4) true))
def ZD:List D->al D:=aG true 1 (Xx xu yA (qy 64))
def Kt (a:TX):Sl->al aT:=
 (aq (de 1 cD) (aq (eH (dU (jj 1 a (jb (ag 0) ae))) (gN 2) (bW (bx (aW (bv "tuple" (ag 2)))) (Bx 1 (ag 2) (cB true)) bF)) (gA 1 (aJ (app (jb (ag 1) ae) C7)))))
def K1:List D->al D:=aG true 3 (Kt (qy 64))
def Xy (a:TX) (c:TX):Sl->al aT:=
 (aq (bW (g8 (bx (aW (bv "tuple" (ag 0)))) (aW (ap (app (jb (ag 0) ae) bo) (cI 2) dA))) (aJ (cB false)) bF) (aq (bW (g8 (bx (aW (jj 1 a (jb (ap (ag 0) (cI 0) aX) ae)))) (g8 (bx (aW (jj 1 a (jb (ap (ag 0) (cI 1) aX) ae)))) (bx (aW (bv "tuple" (ap (ag 0) (cI 0) aX)))))) (aJ (cB false)) bF) (aJ (ap (ap (jj 1 c (jb (ap (ag 0) (cI 1) aX) ae)) (jj 1 c (jb (ap (ag 0) (cI 0) aX) ae)) nc) (cI 0) eO))))
def ZE:List D->al D:=aG true 1 (Xy ZD K1)
def XA (a:TX):Sl->al aT:=
 (aq (bW (g8 (bx (aW (bv "list" (ag 0)))) (aW (ap (app (jb (ag 0) ae) bo) (cI 40) nH))) (aJ (cB false)) bF) (aJ (app (jb (zN false 1 [] (dU (ag 0)) (gN 0) qz (jj 1 a (jb (ag 0) ae))) ae) k4)))
def xR:List D->al D:=aG true 1 (XA ZE)
def q9 (a:TX) (c:TX):Sl->al eK:=
 (pZ (GZ (bx (aW (jj 1 c (jb (ag 1) ae)))) Ni Nh) (pZ (Dw 0 "Rules" "listed" (app (jb (ag 1) ae) VL)) (Dw 0 "Rules" "named" (jj 1 a (jb (ap (zN false 2 [] (dU (ag 1)) (g2 (gN 0) (gN 1)) qz (ag 0)) (zN false 2 [] (dU (ag 1)) (g2 (gN 0) (gN 1)) qz (ag 1)) aK) ae)))))
def j8:FO:=oz 2 1 (q9 Jd xR)
def xZ:Sl->al aT:=
 (aq (jw 2 (aD (jb (ap (ag 0) (cI 1) aX) ae))) (aq (eH (eG (jb (ap (ag 1) (cI 1) eS) ae)) (gN 3) (jw 2 (aD (jb (ap (ag 0) (cI 0) aX) (jb (ag 2) ae))))) (retS (ag 2))))
def zS:List D->al D:=aG false 4 (xZ)
def yR (a:TX):Sl->al aT:=
 (aq (jw 3 (aD (jb (ap (ag 0) (cI 1) aX) ae))) (aq (jw 4 (ag 3)) (aq (jw 5 (ag 3)) (aq (eH (eG (jb (cI 3) ae)) (gN 6) (aq (jw 4 (ag 5)) (aq (jw 5 (app (jb (ap (aS (jb (ap (ag 0) (cI 2) aX) ae)) (ap (aS (jb (ag 5) ae)) (cI 9) tR) aK) ae) Ye)) (bW (aW (ap (ag 6) (cI 0) eO)) (jw 3 (ag 5)) bF)))) (aJ (aD (jb (ap (ag 0) (cI 3) aX) (jb (jj 2 a (jb (ag 0) (jb (ag 1) ae))) (jb (ag 5) (jb (ag 4) (jb (jj 2 a (jb (ag 0) (jb (ag 2) ae))) (jb (ag 3) (jb (ag 3) (jb (ag 3) (jb (ag 3) (jb (ag 3) ae))))))))))))))))
def zP:List D->al D:=aG true 7 (yR zS)
def Zj (a:TX):Sl->al aT:=
 (aq (fR (aW (jj 1 a (jb (ag 0) ae))) (QZ "TooGreat") (zd bF)) (zd (retS (ag 0))))
def jY:List D->al D:=bt false 1 (Zj xu)
def yr (a:TX) (c:TX) (d:FI):Sl->al b8:=
 (m5 (BP (bx (aW (bv "tuple" (ag 0)))) (Do 2 (ag 0) (ag 1) (ag 1)) BO) (m5 (BP (aW (ap (jj 1 a (jb (ag 0) ae)) (jj 1 a (jb (ag 1) ae)) dA)) (ox (cB false)) BO) (m5 (tF (lX (jj 1 c (jb (ag 0) ae)) (jj 1 c (jb (ag 1) ae))) (g2 (gN 3) (gN 4)) (tH (WC d 2 (ag 3) (ag 4)) (ox (cB false)) BO)) (ox (cB true)))))
def jT:Nat->FI
 |0=>λ_ _ _=> .aj
 |n+1=>lg 5 2 (yr xf jP (jT n))
def Xz (a:FI):Sl->al aT:=
 (aq (de 2 cD) (M3 2 (WC a 2 (ag 0) (ag 1))))
def qp:List D->al D:=aG true 3 (Xz (jT 64))
def Xv (a:TX):Sl->al aT:=
 (aq (bW (aW (ap (ag 1) (aD ae) eO)) (retS (ag 2)) bF) (aq (jw 3 (ap (ap (ag 1) (cI 0) aX) (cI 1) aK)) (aJ (ap (ap (qv (ag 0) zZ (zU (ag 3)) e9) (aD (jb (jj 3 a (jb (ap (ag 0) (ag 3) aX) (jb (qv (ag 1) (zU (cI 1)) zZ e9) (jb (ag 2) ae)))) ae)) aK) (qv (ag 0) (zU (ap (ag 3) (cI 1) aK)) zZ e9) aK))))
def wL:Nat->List D->al D
 |0=>λ_=> .aj
 |n+1=>aG false 4 (Xv (wL n))
def Qz (a:TX) (c:TX):Sl->al aT:=
 (aq (bW (bx (aW (bv "tuple" (ag 0)))) (retS (Ml (ag 1) (ag 0) (ag 0))) bF) (aJ (ap (qv (ag 0) zZ (zU (cI 1)) e9) (app (jb (zN false 1 [1] (dU (jj 1 c (jb (ag 0) ae))) (gN 0) qz (jj 2 a (jb (ag 0) (jb (ag 1) ae)))) ae) Ye) aK)))
def zO:Nat->List D->al D
 |0=>λ_=> .aj
 |n+1=>aG false 2 (Qz (zO n) jP)
def VY (a:TX) (c:TX) (d:TX):Sl->al aT:=
 (retS (zt 1 a (jb (jj 3 c (jb (ag 0) (jb (ag 1) (jb (jj 2 d (jb (ap (ag 2) (cI 1) aX) (jb (ag 3) ae))) ae)))) ae)))
def qZ:List D->al D:=bt false 4 (VY jY (wL 64) (zO 64))
def j0 (a:TX):Sl->al aT:=
 (aq (bW (g8 (bx (aW (bv "tuple" (ag 1)))) (aW (ap (app (jb (ag 1) ae) bo) (cI 2) dA))) (aJ (cB false)) bF) (aJ (nY (jj 1 a (jb (ap (ag 1) (cI 1) aX) ae)) (Zv (cI 0) (ap (ag 1) (cI 1) aX) (app (jb (gk "Rules" "listed" (ge 0)) ae) bo) mW ltI) true)))
def j3:List D->al D:=aG true 2 (j0 qd)
def wa (a:TX) (c:TX):Sl->al aT:=
 (aq (zd (jw 2 (jj 1 a (jb (ag 0) ae)))) (aq (fR (g8 (bx (aW (jj 1 c (jb (ag 1) ae)))) (bx (aW (Zv (cI 0) (ag 1) (app (jb (ag 2) ae) bo) mW ltI)))) (QZ "NoPath") (zd bF)) (zd (retS (ap (ag 2) (ag 1) aX)))))
def qu:List D->al D:=bt false 3 (wa jP qd)
def zg (a:TX):Sl->al aT:=
 (aq (fR (bx (aW (bv "tuple" (ag 1)))) (QZ "NoPath") (zd bF)) (aq (zd (jw 2 (ag 0))) (aq (eh (dU (ag 1)) (gN 3) (jw 2 (zt 2 a (jb (ag 2) (jb (ag 3) ae))))) (zd (retS (ag 2))))))
def qj:List D->al D:=bt false 4 (zg qu)
def qM (a:TX):Sl->al aT:=
 (p4 ["NoPath"] "NoStep" (retS (zt 2 a (jb (ag 0) (jb (ag 1) ae)))))
def jM:List D->al D:=bt false 2 (qM qj)
def qR (a:TX) (c:TX) (d:TX) (e:TX):Sl->al aT:=
 (aq (fR (bx (aW (X6 "Rules" "is_step" 2 d (ag 0) (jb (ag 2) ae)))) (QZ "NoStep") (zd bF)) (aq (zd (jw 3 (ap (ag 2) (cI 0) aX))) (aq (zd (jw 4 (ap (gk "Rules" "listed" (ge 0)) (ap (ag 2) (cI 1) aX) aX))) (aq (jw 5 (Zw a (ap (ag 4) (cI 0) aX) (zt 2 e (jb (ag 1) (jb (ag 3) ae))))) (aq (fR (aW (ap (ag 5) cN ri)) (QZ "NoStep") (zd bF)) (retS (zt 4 c (jb (ag 1) (jb (ag 3) (jb (ag 4) (jb (ag 5) ae)))))))))))
def jh:List D->al D:=bt false 6 (qR qp qZ j3 jM)
def qB (a:TX) (c:TX):Sl->al aT:=
 (aq (zd (de 3 (aS (jb (ag 1) ae)))) (aq (eh (dU (ag 2)) (gN 4) (qH 3 (yN "Rules" "walked_on" 3 [] c (ag 0) (jb (ap (ge 3) (fx (cI 1)) aX) (jb (ag 4) ae))))) (aq (KJ (zt 1 a (jb (ag 1) ae))) (zd (aJ (nE 3))))))
def jL:List D->al D:=bt true 5 (qB jY jh)
def zo (a:TX):Sl->al aT:=
 (aq (jw 3 cN) (aq (jw 4 (aS ae)) (aq (hJ ["TooGreat", "NoPath", "NoRule", "NoStep", "TooLong"] (jw 3 (yN "Rules" "walked" 3 [] a (ag 0) (jb (ag 1) (jb (ag 2) ae)))) 5 (jw 4 (aS (jb (fU [("TooGreat",false),("NoPath",false),("NoRule",false),("NoStep",true),("TooLong",false)] (ag 5)) (jb (fU [("TooGreat",true),("NoPath",false),("NoRule",false),("NoStep",false),("TooLong",false)] (ag 5)) (jb (fU [("TooGreat",false),("NoPath",true),("NoRule",false),("NoStep",false),("TooLong",false)] (ag 5)) ae)))))) (aJ (aS (jb (ag 3) (jb (ag 4) ae)))))))
def jE:List D->al D:=aG true 6 (zo jL)
def NK (a:TX) (c:TX):Sl->al aT:=
 (aq (de 1 (aS (jb (aD ae) ae))) (aq (eH (Dl (jj 1 a (jb (ag 0) ae))) (g2 (gN 2) (gN 3)) (zw 1 (zN false 1 [2] (dU (jj 1 c (jb (ag 3) ae))) (gN 0) qz (ap (aD (jb (ag 1) ae)) (ag 0) aK)))) (aJ (nE 1))))
def w6:Nat->List D->al D
 |0=>λ_=> .aj
 |n+1=>aG true 4 (NK jP (w6 n))
def wb (a:TX) (c:TX) (d:TX) (e:TX):Sl->al aT:=
 (aq (zd (de 2 (aS ae))) (aq (eh (UE (jj 1 a (jb (ag 1) ae)) (jj 1 c (jb (ag 1) ae))) (g2 (gN 3) (gN 4)) (eh (Uf (gk "Rules" "listed" (ge 0))) (g2 (gN 5) (gN 6)) (aq (zd (jw 7 (jj 2 d (jb (ap (ag 6) (cI 0) aX) (jb (ag 4) ae))))) (fR (aW (ap (ag 7) cN m3)) (qH 2 (aD (jb (Ul (ag 3)) (jb (Ul (ag 5)) (jb (zt 4 e (jb (ag 1) (jb (ag 3) (jb (ag 6) (jb (ag 7) ae))))) ae))))) (zd bF))))) (zd (aJ (nE 2)))))
def jt:List D->al D:=bt true 8 (wb (w6 64) (qy 64) qp qZ)
def xm (a:TX) (c:TX):Sl->al aT:=
 (aq (zd (de 3 (aS ae))) (aq (zd (jw 4 (ag 1))) (aq (jw 5 (yN "Rules" "steps" 2 [] a (ag 0) (jb (ag 4) ae))) (aq (Jl 1100 (mR (ag 5)) (aq (fR (aW (ap (app (jb (ge 3) ae) bo) (ag 2) Ti)) (QZ "TooLong") (zd bF)) (aq (zd (qH 3 (qv (ap (ag 5) (cI 0) aX) zZ (zU (cI 2)) e9))) (aq (zd (jw 4 (ap (ap (ag 5) (cI 0) aX) (cI 2) aX))) (jw 5 (yN "Rules" "steps" 2 [] a (ag 0) (jb (ag 4) ae))))))) (gA 3 (aJ (aD (jb (Ul (ag 3)) (jb (zt 1 c (jb (ag 4) ae)) ae)))))))))
def qX:List D->al D:=bt true 6 (xm jt jY)
def zD (a:TX) (c:TX):Sl->al aT:=
 (aq (jw 3 (aS ae)) (aq (hJ ["TooGreat", "NoPath", "NoRule", "NoStep", "TooLong"] (fR (aW (ap (ag 2) (cI 0) eO)) (KJ (yN "Rules" "steps" 2 [] a (ag 0) (jb (ag 1) ae))) (KJ (yN "Rules" "end" 3 [] c (ag 0) (jb (ag 1) (jb (cI 3) ae))))) 4 (jw 3 (aS (jb (fU [("TooGreat",false),("NoPath",false),("NoRule",false),("NoStep",true),("TooLong",false)] (ag 4)) (jb (fU [("TooGreat",true),("NoPath",false),("NoRule",false),("NoStep",false),("TooLong",false)] (ag 4)) (jb (fU [("TooGreat",false),("NoPath",true),("NoRule",false),("NoStep",false),("TooLong",false)] (ag 4)) ae)))))) (aJ (ap (ag 3) (aS (jb (cB false) (jb (cB true) (jb (cB false) ae)))) eO))))
def q8:List D->al D:=aG true 5 (zD jt qX)
def xY (e:FO) (c:TX) (a:TX) (d:TX):Sl->al aT:=
 (aq (jw 2 (BZ "Rules" 1 e (jb (aS (jb (aD (jb (aD (jb (ap (ag 0) (cI 0) aX) (jb (cI 1) ae))) (jb (cI 1) ae))) (jb (aD (jb (aD (jb (ap (ag 0) (cI 1) aX) ae)) (jb (aD (jb (ap (ag 0) (cI 0) aX) (jb (aD (jb (ap (ag 0) (cI 1) aX) ae)) ae))) ae))) ae))) ae))) (aq (jw 3 (ap (ag 1) (cI 3) a7)) (aq (jw 4 (jj 3 c (jb (ag 0) (jb (cI 10) (jb (ap (cI 28) (ag 3) eS) ae))))) (aq (jw 5 (zN false 1 [] (eG (jb (ap (ag 3) (cI 1) aK) ae)) (gN 0) qz (aD (jb (ap (aD (jb (cI 0) ae)) (ap (aD (jb (cI 0) ae)) (ap (cI 9) (ag 0) aK) zK) aK) (jb (cI 1) ae))))) (aq (jw 6 (zN false 1 [0,3] (eG (jb (ap (ag 3) (cI 1) aK) ae)) (gN 0) qz (jj 3 c (jb (ag 1) (jb (ap (cI 10) (ag 0) aK) (jb (ap (cI 28) (ag 2) eS) ae)))))) (aq (bW (aW (ap (jj 3 a (jb (ag 2) (jb (ag 4) (jb (qv (ag 5) zZ (zU (fx (cI 1))) e9) ae)))) (aS (jb (ag 6) (jb (aS ae) ae))) dA)) (aJ (cB false)) bF) (aq (bW (g8 (bx (aW (jj 3 d (jb (ag 2) (jb (ap (ag 6) (fx (cI 1)) aX) (jb (cI 0) ae)))))) (bx (aW (jj 3 d (jb (ag 2) (jb (ap (ag 6) (fx (cI 1)) aX) (jb (cI 1) ae))))))) (aJ (cB false)) bF) (aq (jw 7 (aD (jb (aD (jb (cI 0) ae)) (jb (cI 0) ae)))) (aq (jw 8 (jj 3 c (jb (ag 0) (jb (ap (cI 9) (ag 3) aK) (jb (ap (cI 28) (ag 3) eS) ae))))) (aq (bW (aW (ap (jj 3 a (jb (ag 2) (jb (ag 4) (jb (ap (qv (ag 5) zZ (zU (fx (cI 1))) e9) (aS (jb (ag 7) ae)) aK) ae)))) (aS (jb (ap (ag 6) (aS (jb (ag 8) ae)) aK) (jb (aS ae) ae))) dA)) (aJ (cB false)) bF) (aq (bW (aW (ap (jj 3 a (jb (ag 2) (jb (ag 4) (jb (ap (ag 5) (aS (jb cN (jb (ag 7) ae))) aK) ae)))) (aS (jb cN (jb (aS (jb (cB false) (jb (cB true) (jb (cB false) ae)))) ae))) dA)) (aJ (cB false)) bF) (aJ (ap (jj 3 a (jb (ag 2) (jb (ag 4) (jb (ap (ap (qv (ag 5) zZ (zU (fx (cI 1))) e9) (aS (jb (aD (jb (aD (jb (cI 0) (jb (cI 9) ae))) (jb (cI 1) ae))) ae)) aK) (qv (ag 5) (zU (fx (cI 1))) zZ e9) aK) ae)))) (aS (jb cN (jb (aS (jb (cB true) (jb (cB false) (jb (cB false) ae)))) ae))) eO)))))))))))))
def zR:List D->al D:=aG true 9 (xY j8 zP jE q8)
def xX:Sl->al aT:=
 (aq (jw 2 (ap (ap (ap (ag 0) (cI 69621) gD) (ap (ap (ag 1) (cI 1) aK) (cI 1000003) gD) aK) (ap (ap (cI 10) (cI 30) bS) (cI 57) aK) a7)) (aJ (ap (ap (ag 2) (ag 2) gD) (ap (ap (cI 10) (cI 30) bS) (cI 57) aK) a7)))
def jB:List D->al D:=aG true 3 (xX)
def wA (a:TX) (c:TX):Sl->al aT:=
 (aq (cw (app (jb (ag 0) (jb (cI 5) ae)) zx) (g2 (gN 0) (gN 4))) (aq (bW (iE (aW (ap (ag 3) (aS ae) dA)) (g8 (aW (ap (ag 4) (cI 0) eO)) (iE (aW (ap (ag 2) (cI 0) eO)) (aW (ap (ag 4) (cI 3) ltI))))) (retS (ap (ag 3) (ap (ag 0) (app (jb (ag 3) ae) bo) a7) aX)) bF) (aq (cw (app (jb (ag 0) (jb (cI 5) ae)) zx) (g2 (gN 0) (gN 5))) (aq (cw (app (jb (ag 0) (jb (cI 4) ae)) zx) (g2 (gN 0) (gN 6))) (aq (bW (aW (ap (ag 2) (cI 0) eO)) (jw 6 (cI 0)) bF) (aJ (app (jb (ap (aS (jb (ap (ag 1) (ag 5) aX) ae)) (zN false 1 [1,3,0,2] (eG (jb (ag 6) ae)) (gN 0) qz (jj 4 a (jb (jj 2 c (jb (ag 3) (jb (ag 0) ae))) (jb (ag 1) (jb (ap (ag 4) (cI 1) eS) (jb (ag 2) ae)))))) aK) ae) Ye)))))))
def jW:Nat->List D->al D
 |0=>λ_=> .aj
 |n+1=>aG false 7 (wA (jW n) jB)
def Wt:Sl->al aT:=
 (aJ (nY (bv "int" (ag 0)) (pM (bv "bool" (ag 0))) true))
def jX:List D->al D:=aG true 1 (Wt)
def zn (a:TX) (c:TX):Sl->al aT:=
 (aq (bW (aW (jj 1 a (jb (ag 0) ae))) (aJ (aS (jb (ag 0) ae))) bF) (aq (de 1 (aS ae)) (aq (eH (dU (qv (ag 0) (zU (cI 1)) zZ e9)) (gN 2) (zw 1 (jj 1 c (jb (ag 2) ae)))) (aJ (nE 1)))))
def jU:Nat->List D->al D
 |0=>λ_=> .aj
 |n+1=>aG true 3 (zn jX (jU n))
def yS (a:TX) (d:TX) (c:TX) (e:TX):Sl->al aT:=
 (aq (jw 2 (aS (jb (ap (ag 0) (cI 1000) a7) (jb (ap (ap (ap (ag 0) (cI 1) aK) (ap (ap (ag 0) (cI 1000) cA) (cI 999) a7) aK) (cI 1000) a7) ae)))) (aq (jw 3 (jj 4 a (jb (jj 2 c (jb (ag 0) (jb (cI 1) ae))) (jb (ag 1) (jb (cI 2) (jb (ag 2) ae)))))) (aq (bW (aW (jj 1 d (jb (ag 3) ae))) (jw 3 (aD (jb (ap (ag 1) (ap (ap (ag 0) (ap (cI 10) (cI 7) bS) cA) (cI 5) a7) aX) (jb (ag 3) ae)))) bF) (aq (bW (iE (aW (ap (ap (ap (ag 0) (ap (cI 10) (cI 8) bS) cA) (cI 2) a7) (cI 0) eO)) (aW (ap (app (jb (ag 3) ae) bo) (cI 1) nH))) (aJ (aD (jb (ag 3) (jb (ap (ag 3) (ap (cI 1) (ap (ap (ag 0) (ap (cI 10) (cI 9) bS) cA) (ap (app (jb (ag 3) ae) bo) (cI 1) eS) a7) aK) aX) ae)))) bF) (aJ (aD (jb (ag 3) (jb (jj 4 a (jb (jj 2 c (jb (ag 0) (jb (cI 2) ae))) (jb (ag 1) (jb (cI 1) (jb (jj 1 e (jb (ag 3) ae)) ae))))) ae))))))))
def wM:List D->al D:=aG true 4 (yS (jW 6) jX jB (jU 64))
def xV (a:TX):Sl->al aT:=
 (aq (de 2 (aS ae)) (aq (de 2 (X6 "Rules" "steps" 2 (λc=>hI (a c)) (ag 0) (jb (ag 1) ae))) (aJ (nE 2))))
def wT:List D->al D:=aG true 3 (xV jt)
def wB (a:TX) (c:TX):Sl->al aT:=
 (aq (bW (aW (jj 1 a (jb (ag 0) ae))) (aJ (cI 1)) bF) (aJ (ap (cI 1) (app (jb (zN false 1 [] (dU (qv (ag 0) (zU (cI 1)) zZ e9)) (gN 0) qz (jj 1 c (jb (ag 0) ae))) ae) Dh) aK)))
def qW:Nat->List D->al D
 |0=>λ_=> .aj
 |n+1=>aG true 1 (wB jX (qW n))
def J4 (a:TX) (c:TX) (d:TX):Sl->al aT:=
 (aq (de 3 (aS ae)) (aq (de 4 (aS (jb (ag 1) ae))) (aq (cw (app (jb (ag 2) (jb (cI 8) ae)) zx) (g2 (gN 2) (gN 6))) (aq (jw 5 (jj 2 a (jb (ag 0) (jb (ag 1) ae)))) (aq (zX 20 (iE (aW (ap (ag 5) (aS ae) dA)) (aW (ap (app (jb (ge 3) ae) bo) (ag 6) ltI))) (aq (jw 2 (jj 2 c (jb (ag 2) (jb (cI 3) ae)))) (aq (cw (ap (ag 5) (ap (ag 2) (app (jb (ag 5) ae) bo) a7) aX) (g3 (gN 7) (gN 8) (gN 9))) (aq (bW (aW (ap (jj 1 d (jb (ag 9) ae)) (cI 60) nH)) (gA 4 (gA 3 (aJ (aS (jb (ag 3) (jb (ag 4) ae)))))) bF) (aq (qH 3 (aD (jb (ag 7) (jb (ag 8) ae)))) (aq (qH 4 (ag 9)) (jw 5 (jj 2 a (jb (ag 0) (jb (ag 9) ae)))))))))) (gA 4 (gA 3 (aJ (aS (jb (ag 3) (jb (ag 4) ae)))))))))))
def yB:List D->al D:=aG true 10 (J4 wT jB (qW 64))
def Qg:Sl->al aT:=
 (aJ (app (jb (gk "Rules" "listed" (ge 0)) ae) VL))
def zB:List D->al D:=aG true 1 (Qg)
def DF (a:TX) (c:TX):Sl->al aT:=
 (aq (de 2 (jj 2 a (jb (ag 0) (jb (ag 1) ae)))) (aq (bW (aW (ap (ge 2) cN m3)) (BW 2 3 (Dv (jj 1 (λd=>hI (c d)) (jb (ap (ag 2) (ag 3) oy) ae)))) bF) (aJ (nE 2))))
def Ag:List D->al D:=aG true 4 (DF qp jY)
def J5 (c:TX) (a:TX):Sl->al aT:=
 (aq (jw 3 (X6 "Rules" "told" 1 c (ag 1) pC)) (aq (cw (app (jb (ag 0) (jb (cI 14) ae)) zx) (g2 (gN 0) (gN 4))) (aq (cw (app (jb (ag 0) (jb (app (jb (ag 3) ae) bo) ae)) zx) (g2 (gN 0) (gN 5))) (aq (bW (aW (ap (ag 4) (cI 3) ltI)) (aq (bW (aW (ap (jj 2 a (jb (ap (ap (ag 3) (ag 5) aX) (cI 0) aX) (jb (ag 2) ae))) cN ri)) (aJ (aD (jb (aD ae) (jb (ag 5) ae)))) bF) (aJ (aD (jb (ap (aD (jb (cI 0) ae)) (cI 61) zK) (jb (ag 5) ae))))) bF) (aq (bW (aW (ap (ag 4) (cI 3) eO)) (aJ (aD (jb (aD (jb (ap (cI 9) (ap (ag 0) (cI 9) a7) aK) ae)) (jb (ag 5) ae)))) bF) (aq (bW (aW (ap (ag 4) (cI 4) eO)) (aJ (aD (jb (aD (jb (ap (fx (cI 1)) (ap (ag 0) (cI 9) a7) eS) ae)) (jb (ag 5) ae)))) bF) (aq (bW (aW (ap (ag 4) (cI 5) eO)) (aJ (aD (jb (aD ae) (jb (ap (app (jb (ag 3) ae) bo) (ap (ag 0) (ap (cI 10) (cI 30) bS) a7) aK) ae)))) bF) (aq (bW (aW (ap (ag 4) (cI 6) eO)) (aJ (aD (jb (aD ae) (jb (ap (fx (cI 1)) (ap (ag 0) (ap (cI 10) (cI 30) bS) a7) eS) ae)))) bF) (aq (bW (aW (ap (ag 4) (cI 7) eO)) (retS (ap (aS (jb (aD (jb (aD ae) (jb (cB false) ae))) (jb (aD (jb (aD (jb (cB false) ae)) (jb (ag 5) ae))) (jb (aD (jb (aD (jb (cB true) ae)) (jb (ag 5) ae))) (jb (aD (jb (aD (jb cN ae)) (jb (ag 5) ae))) ae))))) (ap (ag 0) (cI 4) a7) aX)) bF) (retS (ap (aS (jb (aD (jb (aD ae) ae)) (jb (aD (jb (aD ae) (jb (ag 5) (jb (ag 2) ae)))) (jb (aS (jb (aD ae) (jb (ag 5) ae))) (jb (cS "0") (jb cN (jb (ag 5) (jb (aD (jb (aS ae) (jb (ag 5) ae))) (jb (aD (jb cN (jb (ag 5) ae))) (jb (aD (jb (cS "") (jb (ag 5) ae))) ae)))))))))) (ap (ag 0) (cI 9) a7) aX)))))))))))
def yC:List D->al D:=aG false 6 (J5 zB Ag)
def DH (d:TX) (e:TX) (g:FO) (h:TX) (i:TX) (j:TX) (c:TX) (a:TX) (l:TX) (n:TX):Sl->al aT:=
 (aq (jw 1 (jj 2 d (jb (ap (ap (ag 0) (aS (jb (cI 0) ae)) pY) (cI 0) aX) (jb (cI 0) ae)))) (aq (jw 2 (jj 1 e (jb (ag 1) ae))) (aq (jw 3 (zN false 1 [2,1] (eG (jb (ap (cI 1) (ap (ap (ag 1) (ap (cI 10) (cI 20) bS) cA) (cI 4) a7) aK) ae)) (gN 0) qz (jj 2 i (jb (jj 2 a (jb (ag 2) (jb (ag 0) ae))) (jb (ag 1) ae))))) (aq (jw 4 (BZ "Rules" 1 g (jb (app (jb (ag 3) ae) VL) ae))) (aq (eH (Uf (qv (ag 0) zZ (zU (cI 10)) GW)) (g2 (gN 5) (gN 6)) (aq (jw 7 (jj 2 d (jb (ag 6) (jb (ap (ag 5) (cI 1) aK) ae)))) (aq (jw 8 (ap (ap (ag 3) (ap (ag 7) (app (jb (ag 3) ae) bo) a7) aX) (cI 0) aX)) (aq (jw 9 (aS (jb (ap (ap (ag 7) (cI 8) cA) (cI 1000) a7) (jb (ap (ap (ap (ag 7) (cI 8) cA) (cI 500) aK) (cI 1000) a7) ae)))) (aq (jw 10 (aD (jb (ap (ag 2) (ap (ap (ag 7) (cI 8000) cA) (cI 5) a7) aX) (jb (jj 4 l (jb (jj 2 a (jb (ag 7) (jb (cI 1) ae))) (jb (ag 2) (jb (cI 2) (jb (ag 9) ae))))) (jb (ag 8) ae))))) (aq (cw (jj 3 j (jb (ag 4) (jb (ag 10) (jb (jj 2 a (jb (ag 7) (jb (cI 2) ae))) ae)))) (tN (gN 14) (gN 15))) (aq (jw 11 (app (jb (ag 14) ae) VL)) (aq (cw (jj 3 c (jb (ag 4) (jb (ag 10) (jb (ag 11) ae)))) (tN (gN 16) (gN 17))) (aq (bW (g8 (aW (ap (ag 17) (aS ae) dA)) (g8 (bx (aW (bv "list" (ag 16)))) (g8 (aW (ap (ag 16) (ag 15) dA)) (aW (ap (ag 11) (ag 14) dA))))) (aJ (cB false)) bF) (aq (jw 12 (ap (ap (ag 7) (cI 40000) cA) (ap (app (jb (ag 14) ae) bo) (cI 1) aK) a7)) (aq (jw 13 (ap (ap (qv (ag 14) zZ (zU (ag 12)) e9) (aS (jb (jj 3 n (jb (jj 2 a (jb (ag 7) (jb (cI 4) ae))) (jb (ag 4) (jb (ap (ag 15) (ag 12) aX) ae)))) ae)) aK) (qv (ag 14) (zU (ap (ag 12) (cI 1) aK)) zZ e9) aK)) (aq (bW (aW (ap (ap (jj 3 c (jb (ag 4) (jb (ag 10) (jb (ag 13) ae)))) (cI 1) aX) (aS (jb (cB true) (jb (cB false) (jb (cB false) ae)))) dA)) (aJ (cB false)) bF) (bW (aW (ap (ap (jj 3 c (jb (ag 4) (jb (ag 10) (jb (ag 14) ae)))) (cI 0) aX) (ag 15) dA)) (aJ (cB false)) bF))))))))))))) (aJ (jj 2 h (jb (ag 2) (jb (ap (ag 1) (ap (cI 10) (cI 23) bS) cA) ae)))))))))
def oB:List D->al D:=aG true 18 (DH wl ye j8 zR wM yB jE jB (jW 6) yC)
abbrev o8 (K:aC) (a:Addr):Prop:=BG K a [.type "ValueError",.type "Exception",.type "BaseException",.type "object"] "ValueError.__new__" =true
structure Gm (K:aC) (T8 T5 T3 T4 T6 T7:Addr) (mg:Vj):Prop where
 az:mg "isinstance" =none
 oC:mg "bool" =none
 rE:mg "int" =none
 oD:mg "all" =none
 bK:mg "len" =none
 bz:mg "tuple" =none
 eV:mg "list" =none
 oE:mg "sorted" =none
 B3:mg "set" =none
 cQ:mg "range" =none
 B4:mg "sum" =none
 bV:mg "divmod" =none
 B5:mg "str" =none
 rF:mg "zip" =none
 ej:mg "enumerate" =none
 ng: ∃t,mg "LETTERS" =some (.str "abcdefghijklmnopqrstuvwxyz" t)
 gG: ∃t,mg "MOST_LETTERS" =some (.int 8 t)
 hL: ∃t,mg "MOST_PLACES" =some (.int 9 t)
 iO: ∃t,mg "MOST_BLANK" =some (.int 999 t)
 hU: ∃t,mg "MOST_LEVELS" =some (.int 60 t)
 iP: ∃t,mg "MOST_PARTS" =some (.int 1000 t)
 iQ: ∃t,mg "MOST_RULES" =some (.int 40 t)
 bD:m7 K "Rules" "listed"
 hX:m7 K "Rules" "named"
 eW:mg "TooGreat" =some (.ref T8)
 ek:mg "NoPath" =some (.ref T5)
 B6:mg "NoRule" =some (.ref T3)
 eq:mg "NoStep" =some (.ref T4)
 nh:mg "TooLong" =some (.ref T6)
 gH:mg "EndError" =some (.ref T7)
 l0:eT K "TooGreat" T8
 cC:o8 K T8
 ll:eT K "NoPath" T5
 dh:o8 K T5
 B7:eT K "NoRule" T3
 fB:o8 K T3
 gI:eT K "NoStep" T4
 cE:o8 K T4
 ni:eT K "TooLong" T6
 di:o8 K T6
 oF: ∀c,[("NoPath" :Str)].contains c=true-> ∀C,eT K c C->o7 K (.ref C) (.ref T5)=some true
 gJ: ∀c,[("TooGreat" :Str),("NoPath" :Str),("NoRule" :Str),("NoStep" :Str),("TooLong" :Str)].contains c=true-> ∀C,eT K c C->o7 K (.ref C) (.ref T7)=some true
 nj: ∀c,[("NoPath" :Str)].contains c=true-> ∀C,eT K c C->C≠dC
 dj:T4=dC
 lm: ∀c b,f6 c [(("TooGreat" :Str),false),(("NoPath" :Str),true),(("NoRule" :Str),false),(("NoStep" :Str),false),(("TooLong" :Str),false)]=some b-> ∀C,eT K c C->gj K C/\lJ K (.ref C) (.ref T5)=some b
 gK: ∀c b,f6 c [(("TooGreat" :Str),true),(("NoPath" :Str),false),(("NoRule" :Str),false),(("NoStep" :Str),false),(("TooLong" :Str),false)]=some b-> ∀C,eT K c C->gj K C/\lJ K (.ref C) (.ref T8)=some b
 lp: ∀c b,f6 c [(("TooGreat" :Str),false),(("NoPath" :Str),false),(("NoRule" :Str),false),(("NoStep" :Str),true),(("TooLong" :Str),false)]=some b-> ∀C,eT K c C->gj K C/\lJ K (.ref C) (.ref T4)=some b
def NL:ar ["_law_cell", "_law_k", "_law_big"] ["_law_cell", "_law_k"] (jf yH):=cn
def oG:ar ["_law_number", "_law_letters", "_law_base", "_law_k", "_law_size_here", "_law_at", "_law_sign"] ["_law_number"] (jf Jr):=cn
def jl4:ar ["term"] ["term"] (jf YV):=cn
def Hf:ar ["term", "found", "place"] ["term"] (jf UQ):=cn
def jlN:ar ["term"] ["term"] (jf Hc):=cn
def DJ:ar ["terms", "met", "term", "found"] ["terms"] (jf Qo):=cn
def Hg:ar ["row", "below", "thing"] ["row"] (jf yG):=cn
def tY:ar ["thing", "row", "depth", "counted"] ["thing"] (jf ZP):=cn
def jlV:ar ["thing"] ["thing"] (jf ZN):=cn
def jlP:ar ["thing"] ["thing"] (jf ZQ):=cn
def jlR:ar ["thing"] ["thing"] (jf WZ):=cn
def jlS:ar ["thing"] ["thing"] (jf ZO):=cn
def jlU:ar ["thing"] ["thing"] (jf WX):=cn
def Hh:ar ["term", "met", "found"] ["term"] (jf YX):=cn
def jlT:ar ["thing"] ["thing"] (jf WY):=cn
def jlF:ar ["thing"] ["thing"] (jf Qn):=cn
def jlh:ar ["self", "rules"] ["self", "rules"] (jf zY):=cn
def DK:ar ["_law_names_here", "_law_size_here", "_law_term_here", "_law_k"] ["_law_names_here", "_law_size_here"] (jf Ju):=cn
def rG:ar ["_law_names_here", "_law_size_here", "_law_rest", "_law_ten", "_law_few", "_law_many", "_law_k"] ["_law_names_here", "_law_size_here", "_law_rest"] (jf Qp):=cn
def jlI:ar ["term"] ["term"] (jf W4):=cn
def Hi:ar ["pattern", "term", "filling", "place", "there"] ["pattern", "term", "filling"] (jf W3):=cn
def NM:ar ["pattern", "term", "filling"] ["pattern", "term"] (jf W0):=cn
def NN:ar ["term", "path", "other", "at"] ["term", "path", "other"] (jf Ql):=cn
def jlJ:ar ["term", "filling"] ["term", "filling"] (jf Qm):=cn
def jl6:ar ["term", "path", "rule", "filling"] ["term", "path", "rule", "filling"] (jf WW):=cn
def jlj:ar ["self", "thing"] ["self", "thing"] (jf wz):=cn
def NO:ar ["term", "number", "below"] ["term", "number"] (jf yF):=cn
def DL:ar ["term", "path", "found", "number"] ["term", "path"] (jf Jo):=cn
def jlZ:ar ["term", "path"] ["term", "path"] (jf wy):=cn
def DM:ar ["self", "term", "step", "path", "rule", "filling"] ["self", "term", "step"] (jf zH):=cn
def Hj:ar ["self", "term", "row", "reached", "step"] ["self", "term", "row"] (jf wY):=cn
def Ah:ar ["_law_rules", "_law_term_here", "_law_row_here", "_law_found", "_law_kinds", "e"] ["_law_rules", "_law_term_here", "_law_row_here"] (jf yJ):=cn
def DN:ar ["term", "found", "number", "place"] ["term"] (jf UP):=cn
def tZ:ar ["self", "term", "found", "path", "there", "number", "rule", "filling"] ["self", "term"] (jf xD):=cn
def Ai:ar ["self", "term", "most", "row", "last", "found"] ["self", "term", "most"] (jf yK):=cn
def DP:ar ["_law_rules", "_law_term_here", "_law_deed", "_law_kinds", "e"] ["_law_rules", "_law_term_here", "_law_deed"] (jf wX):=cn
def rH:ar ["_law_names_here", "_law_number", "_law_rules", "_law_room", "_law_begin", "_law_row_here", "_law_due", "_law_down", "_law_last"] ["_law_names_here", "_law_number"] (jf Jt):=cn
def NP:ar ["_law_number", "_law_k", "_law_mixed_here"] ["_law_number", "_law_k"] (jf Js):=cn
def rJ:ar ["_law_number", "_law_names_here", "_law_deep", "_law_free", "_law_kind", "_law_which", "_law_count"] ["_law_number", "_law_names_here", "_law_deep", "_law_free"] (jf Qq):=cn
def jlC:ar ["_law_found"] ["_law_found"] (jf Jp):=cn
def Hk:ar ["_law_term_here", "_law_found", "_law_place"] ["_law_term_here"] (jf yI):=cn
def DQ:ar ["_law_number", "_law_names_here", "_law_free", "_law_left"] ["_law_number", "_law_names_here"] (jf Qs):=cn
def Hl:ar ["_law_rules", "_law_term_here", "_law_found"] ["_law_rules", "_law_term_here"] (jf Jq):=cn
def jlx:ar ["_law_term_here"] ["_law_term_here"] (jf Qr):=cn
def oH:ar ["_law_rules", "_law_term_here", "_law_number", "_law_row_here", "_law_terms", "_law_steps_here", "_law_count", "_law_path", "_law_rule_here", "_law_behind"] ["_law_rules", "_law_term_here", "_law_number"] (jf ZR):=cn
def jll:ar ["self"] ["self"] (jf yf):=cn
def Hm:ar ["pattern", "term", "filling", "blank"] ["pattern", "term"] (jf He):=cn
def Aj:ar ["_law_number", "_law_rules", "_law_term_here", "_law_some", "_law_way", "_law_rule_here"] ["_law_number", "_law_rules", "_law_term_here"] (jf ZS):=cn
def i4:ar ["_law_script", "_law_lead", "_law_names_here", "_law_some", "_law_rules", "_law_k", "_law_cell", "_law_number", "_law_left", "_law_free", "_law_term_here", "_law_handed", "_law_at", "_law_bad_here", "_law_row_here", "_law_terms", "_law_found", "_law_kinds"] ["_law_script"] (jf YW):=cn
section
variable (P:bB) (w:World) (K:aC) (mg:Vj) (af:Heap) (k:Nat)
abbrev Jb (f:TX):Prop:=Av P w K mg af k "_law_spread" ["_law_cell", "_law_k"] true f
abbrev JS (f:TX):Prop:=Av P w K mg af k "_law_names" ["_law_number"] true f
abbrev yd (f:TX):Prop:=Av P w K mg af k "places" ["term"] true f
abbrev QH (f:TX):Prop:=Av P w K mg af k "parts" ["term"] true f
abbrev uP (f:TX):Prop:=Av P w K mg af k "head" ["term"] true f
abbrev QJ (f:TX):Prop:=Av P w K mg af k "all_heads" ["terms"] true f
abbrev y9 (f:TX):Prop:=Av P w K mg af k "level_below" ["row"] true f
abbrev Qa (f:TX):Prop:=Av P w K mg af k "is_great" ["thing"] true f
abbrev yy (f:TX):Prop:=Av P w K mg af k "is_whole" ["thing"] true f
abbrev Wi (f:TX):Prop:=Av P w K mg af k "is_blank" ["thing"] true f
abbrev XY (f:TX):Prop:=Av P w K mg af k "is_name" ["thing"] true f
abbrev Wh (f:TX):Prop:=Av P w K mg af k "is_piece" ["thing"] true f
abbrev XW (f:TX):Prop:=Av P w K mg af k "is_term" ["thing"] true f
abbrev K0 (f:TX):Prop:=Av P w K mg af k "blanks" ["term"] true f
abbrev XX (f:TX):Prop:=Av P w K mg af k "is_rule" ["thing"] true f
abbrev QI (f:TX):Prop:=Av P w K mg af k "are_rules" ["thing"] true f
abbrev zc (f:FO):Prop:=tQ P w K mg af k "Rules" 1 f
abbrev JU (f:TX):Prop:=Av P w K mg af k "_law_chain" ["_law_names_here", "_law_size_here"] false f
abbrev QK (f:TX):Prop:=Av P w K mg af k "_law_wide" ["_law_names_here", "_law_size_here", "_law_rest"] true f
abbrev yz (f:TX):Prop:=fT P w K mg af k "bounded" ["term"] false f
abbrev ZB (f:FI):Prop:=nI P w K mg af k "fits_on" ["pattern", "term", "filling"] 2 f
abbrev JQ (f:TX):Prop:=Av P w K mg af k "fitting" ["pattern", "term"] true f
abbrev y7 (f:TX):Prop:=Av P w K mg af k "put_there" ["term", "path", "other"] false f
abbrev Ja (f:TX):Prop:=Av P w K mg af k "exchanged" ["term", "filling"] false f
abbrev ZA (f:TX):Prop:=fT P w K mg af k "stepped" ["term", "path", "rule", "filling"] false f
abbrev wK (f:TX):Prop:=lY P w K mg af k "Rules" "is_step" ["self", "thing"] true f
abbrev y8 (f:TX):Prop:=fT P w K mg af k "place_there" ["term", "number"] false f
abbrev JP (f:TX):Prop:=fT P w K mg af k "part_there" ["term", "path"] false f
abbrev wJ (f:TX):Prop:=fT P w K mg af k "part_stepped_on" ["term", "path"] false f
abbrev xQ (f:TX):Prop:=cq P w K mg af k "Rules" "walked_on" ["self", "term", "step"] [] false f
abbrev Jj (f:TX):Prop:=cq P w K mg af k "Rules" "walked" ["self", "term", "row"] [] true f
abbrev xt (f:TX):Prop:=Av P w K mg af k "_law_answer" ["_law_rules", "_law_term_here", "_law_row_here"] true f
abbrev KZ (f:TX):Prop:=Av P w K mg af k "paths" ["term"] true f
abbrev wj (f:TX):Prop:=cq P w K mg af k "Rules" "steps" ["self", "term"] [] true f
abbrev ZC (f:TX):Prop:=cq P w K mg af k "Rules" "end" ["self", "term", "most"] [] true f
abbrev Qi (f:TX):Prop:=cq P w K mg af k "Rules" "end" ["self", "term", "most"] [.int 200] true f
abbrev w5 (f:TX):Prop:=Av P w K mg af k "_law_too_great" ["_law_rules", "_law_term_here", "_law_deed"] true f
abbrev JT (f:TX):Prop:=Av P w K mg af k "_law_great" ["_law_names_here", "_law_number"] true f
abbrev zQ (f:TX):Prop:=Av P w K mg af k "_law_mixed" ["_law_number", "_law_k"] true f
abbrev xP (f:TX):Prop:=Av P w K mg af k "_law_term" ["_law_number", "_law_names_here", "_law_deep", "_law_free"] false f
abbrev wS (f:TX):Prop:=Av P w K mg af k "_law_whole" ["_law_found"] true f
abbrev xr (f:TX):Prop:=Av P w K mg af k "_law_blanks" ["_law_term_here"] true f
abbrev QL (f:TX):Prop:=Av P w K mg af k "_law_rule" ["_law_number", "_law_names_here"] true f
abbrev JR (f:TX):Prop:=Av P w K mg af k "_law_steps" ["_law_rules", "_law_term_here"] true f
abbrev Jc (f:TX):Prop:=Av P w K mg af k "_law_size" ["_law_term_here"] true f
abbrev Wj (f:TX):Prop:=Av P w K mg af k "_law_row" ["_law_rules", "_law_term_here", "_law_number"] true f
abbrev yj (f:TX):Prop:=lY P w K mg af k "Rules" "told" ["self"] true f
abbrev Ho (f:TX):Prop:=Av P w K mg af k "fit" ["pattern", "term"] true f
abbrev Wl (f:TX):Prop:=Av P w K mg af k "_law_bad" ["_law_number", "_law_rules", "_law_term_here"] false f
end
section
variable {P:bB} {w:World} {K:aC} {mg:Vj} {af:Heap} {k:Nat} {C:Addr} {N O U Y L Q:Addr}
variable (T:Gm K N O U Y L Q mg)
include T
theorem X3 (d:Dx K mg "_law_spread" yH ["_law_cell", "_law_k"]):
  Jb P w K mg af (k+1) (aG true 3 (xl)):=
 zm true d NL λf c A a s H E e=>
  (je (jr 2 NL.nd (DE.s (jI jx jN (eU vO vQ ib ib) bJ))) (ji (jH (kM (l:= .t) xG xH (DE.b (jI jx jN (eU Jy Wq (WB (vb 0) (vb 2)) ib) (eU Jy Wq (DE.b (jI jx jN (DE.s (jI jx jN (eU Jy Wq (vb 1) (vb 1)) (eU Jy Wq ib (vb 1)))) bJ)) ib))) (vb 2)))))
theorem Y7 (d:Dx K mg "_law_names" Jr ["_law_number"]):
  JS P w K mg af (k+1) (aG true 7 (xW)):=
 zm true d oG λf h A c s H E i=>
  (je (jr 1 oG.nd (JM (l:= .s))) (je (Jh (DE.s (wO qU wg rfl T.bV qC (ja (dv 0) (ja bJ jc)))) (xO rfl (jp 0 oG.nd) (jp 4 oG.nd))) (je (Jh (DE.s (wO qU wg rfl T.bV qC (ja (dv 0) (ja (DE.s (jI jx jN (dv 4) bJ)) jc)))) (xO rfl (jp 0 oG.nd) (jp 5 oG.nd))) (je (jr 2 oG.nd (JM (l:= .s))) (je (JL l5 rfl (wQ rfl T.cQ (ja (DE.b (jI jx jN (dv 4) bJ)) jc)) (jp 3 oG.nd) (je (Jh (DE.s (wO qU wg rfl T.bV qC (ja (dv 0) (ja bJ jc)))) (xO rfl (jp 0 oG.nd) (jp 6 oG.nd))) (ji (jr 2 oG.nd (DE.s (jI jx jN (dv 2) (qo (dv 1) (vb 6)))))))) (ji (jH (yi false ["_law_k", "_law_base", "_law_letters", "_law_at", "_law_number", "."] 1 [2,1,5,0] (wH none rfl rfl (by decide+kernel) ⟨rfl,rfl,rfl,rfl,trivial⟩ rfl) rfl (wQ rfl T.cQ (ja ib jc)) (λC e g j a=>⟨(jp 0 a),wF,(DE.s (jI jx jN (DE.s (jI jx jN (DE.s (qJ (dv 1) zj (zi (vb 3)))) (qo (dv 2) (WB (DE.b (jI jx jN (dv 4) (eU Jy Wq ib (vb 0)))) ib)))) (DE.s (qJ (dv 1) (zi (DE.b (jI jx jN (dv 3) bJ))) zj))))⟩)))))))))
theorem jb5 (d:Dx K mg "places" YV ["term"]):
  yd P w K mg af (k+1) (aG true 1 (uj)):=
 zm true d jl4 λf c A a s H E e=>
  (ji (jH (LF (qY (wp (l':= .b) "tuple" "tuple" qL (vb 0) rfl T.az rfl T.bz mv)) (qJ (dv 0) (zi ib) zj) (jC jc))))
theorem jey (d:Dx K mg "parts" UQ ["term"]) (e:yd P w K mg af k g) (h:QH P w K mg af k i):
  QH P w K mg af (k+1) (aG true 3 (Xw g i)):=
 zm true d Hf λf j A a s H E c=>
  (je (xN 1 Hf.nd (jQ (ja (dv 0) jc))) (je (JL l5 rfl (xc (DE.s (Av.aB e c (ja (dv 0) jc)))) (jp 2 Hf.nd) (ji (Zq 1 (DE.s (Av.aB h c (ja (dv 2) jc)))))) (ji (JK 1))))
theorem jhj (d:Dx K mg "head" Hc ["term"]):
  uP P w K mg af (k+1) (aG true 1 (NJ)):=
 zm true d jlN λf c A a s H E e=>
  (ji (jH (LF (qY (wp (l':= .b) "tuple" "tuple" qL (vb 0) rfl T.az rfl T.bz mv)) (jC (ja (qo (dv 0) ib) (ja (eU Q7 Za (j6 (l':= .b) j7 wf rfl T.bK iS (ja (vb 0) jc)) ib) jc))) (Ji (l:= .t)))))
theorem Vx (d:Dx K mg "all_heads" Qo ["terms"]) (e:QH P w K mg af k g) (h:uP P w K mg af k i):
  QJ P w K mg af (k+1) (aG true 4 (XB g i)):=
 zm true d DJ λf j A a s H E c=>
  (je (xN 1 DJ.nd jdo) (je (JL l5 rfl (xc (dv 0)) (jp 2 DJ.nd) (ji (JL l5 rfl (xc (DE.s (Av.aB e c (ja (dv 2) jc)))) (jp 3 DJ.nd) (ji (zp (qY (wp (l':= .b) "tuple" "tuple" qL (vb 3) rfl T.az rfl T.bz mv)) (ji (jfm 1 (CS c) (DE.b (Av.aB h c (ja (dv 3) jc))) (zq (l:= .s)))) jR))))) (ji (YC 1 (jH (wO (Um rfl) jaP rfl T.oE Us (ja (dv 1) jc)))))))
theorem X2 (d:Dx K mg "level_below" yG ["row"]) (c:yd P w K mg af k e):
  y9 P w K mg af (k+1) (aG true 3 (xk e)):=
 zm true d Hg λf g A a s H E h=>
  (je (xN 1 Hg.nd (jQ jc)) (je (JL l5 rfl (xc (dv 0)) (jp 2 Hg.nd) (ji (Zq 1 (DE.s (Av.aB c h (ja (dv 2) jc)))))) (ji (JK 1))))
theorem kf (d:Dx K mg "is_great" ZP ["thing"]) (c:y9 P w K mg af k e):
  Qa P w K mg af (k+1) (aG true 4 (J2 e)):=
 zm true d tY λf g A a s H E h=>
  (je (jr 1 tY.nd (DE.s (jQ (ja (dv 0) jc)))) (je (jr 2 tY.nd bJ) (je (jr 3 tY.nd bJ) (je (uB 2000 l5 (LD (vb 1)) (je (LJ 2 tY.nd ib Ld) (je (LJ 3 tY.nd (j6 (l':= .b) j7 wf rfl T.bK iS (ja (vb 1) jc)) Ld) (je (zp (DW.dt (We (j9 AD Bl (vb 2) (gi rfl T.hU)) (Qh (j9 AD Bl (vb 3) (gi rfl T.iP))))) (ji (jH (zq (l:= .t)))) jR) (ji (jr 1 tY.nd (DE.s (Av.aB c h (ja (dv 1) jc))))))))) (ji (jH (zq (l:= .t))))))))
theorem ka (d:Dx K mg "is_whole" ZN ["thing"]):
  yy P w K mg af (k+1) (aG true 1 (Yy)):=
 zm true d jlV λf c A a s H E e=>
  (ji (jH (YF (wp (l':= .b) "int" "int" ub (vb 0) rfl T.az rfl T.rE NQ) (YD (Fg (l:= .t) (wp (l':= .b) "bool" "bool" VR (vb 0) rfl T.az rfl T.oC NR))))))
theorem kg (d:Dx K mg "is_blank" ZQ ["thing"]) (c:yy P w K mg af k e):
  Wi P w K mg af (k+1) (aG true 1 (J3 e)):=
 zm true d jlP λf g A a s H E h=>
  (ji (jH (YF (DE.b (Av.aB c h (ja (dv 0) jc))) (YD (KM (l:= .t) Vt VC Vt VC ib (vb 0) (gi rfl T.iO))))))
theorem jat (d:Dx K mg "is_name" WZ ["thing"]):
  XY P w K mg af (k+1) (aG true 1 (JC)):=
 zm true d jlR λf h A c s H E i=>
  (je (zp (DW.dt (We (we (qY (wp (l':= .b) "str" "str" S4 (vb 0) rfl T.az rfl T.B5 PyProof.Rows.boot_str))) (Qh (we (uw Vt VC Vt VC ib (j6 (l':= .b) j7 wf rfl T.bK iS (ja (vb 0) jc)) (gi rfl T.gG)))))) (ji (jH (zq (l:= .t)))) jR) (ji (jH (j6 (l':= .t) (XU rfl) FD rfl T.oD Hq (ja (DE.b (yi false ["sign", "."] 1 [] (wH none rfl rfl (by decide+kernel) trivial rfl) rfl (xc (dv 0)) (λC e g j a=>⟨(jp 0 a),wF,(uF (l:= .s) QB SY (vb 0) (gst rfl T.ng))⟩))) jc)))))
theorem ke (d:Dx K mg "is_piece" ZO ["thing"]) (a:Wi P w K mg af k h) (c:XY P w K mg af k i):
  Wh P w K mg af (k+1) (aG true 1 (yq h i)):=
 zm true d jlS λf j A e s H E g=>
  (je (zp (qY (wp (l':= .b) "tuple" "tuple" qL (vb 0) rfl T.az rfl T.bz mv)) (ji (jH (YF (KM (l:= .b) Vt VC Vt VC ib (j6 (l':= .b) j7 wf rfl T.bK iS (ja (vb 0) jc)) (DE.b (jI jx jN (gis rfl T.hL) bJ))) (YD (Av.aB c g (ja (qo (dv 0) ib) jc)))))) jR) (ji (jH (Av.aB a g (ja (dv 0) jc)))))
theorem jar (d:Dx K mg "is_term" WX ["thing"]) (j:Qa P w K mg af k n) (c:Wh P w K mg af k o) (p:QH P w K mg af k q):
  XW P w K mg af (k+1) (aG true 1 (Xx n o q)):=
 zm true d jlU λf r A e s H E g=>
  (ji (jH (YF (Fg (l:= .b) (DE.b (Av.aB j g (ja (dv 0) jc)))) (YD (j6 (l':= .t) (XU rfl) FD rfl T.oD Hq (ja (DE.b (yi false ["found", "."] 1 [] (wH none rfl rfl (by decide+kernel) trivial rfl) rfl (xc (DE.s (Av.aB p g (ja (dv 0) jc)))) (λC h i u a=>⟨(jp 0 a),wF,(DE.s (Av.aB c g (ja (dv 0) jc)))⟩))) jc))))))
theorem jb6 (d:Dx K mg "blanks" YX ["term"]) (e:QH P w K mg af k g):
  K0 P w K mg af (k+1) (aG true 3 (Kt g)):=
 zm true d Hh λf h A a s H E c=>
  (je (xN 1 Hh.nd uE) (je (JL l5 rfl (xc (DE.s (Av.aB e c (ja (dv 0) jc)))) (jp 2 Hh.nd) (ji (zp (we (qY (wp (l':= .b) "tuple" "tuple" qL (vb 2) rfl T.az rfl T.bz mv))) (ji (TQ 1 (CS c) (vb 2) (zq (l:= .s)))) jR))) (ji (YC 1 (jH (wR (TV rfl) UA rfl T.eV wI (ja (dv 1) jc)))))))
theorem jas (d:Dx K mg "is_rule" WY ["thing"]) (e:XW P w K mg af k h) (g:K0 P w K mg af k i):
  XX P w K mg af (k+1) (aG true 1 (Xy h i)):=
 zm true d jlT λf j A c s H E a=>
  (je (zp (DW.dt (We (we (qY (wp (l':= .b) "tuple" "tuple" qL (vb 0) rfl T.az rfl T.bz mv))) (Qh (j9 (yl (aI.bR a)) Z5 (j6 (l':= .b) j7 wf rfl T.bK iS (ja (vb 0) jc)) ib)))) (ji (jH (zq (l:= .t)))) jR) (je (zp (DW.dt (We (we (qY (DE.b (Av.aB e a (ja (qo (dv 0) ib) jc))))) (We (we (qY (DE.b (Av.aB e a (ja (qo (dv 0) ib) jc))))) (Qh (we (qY (wp (l':= .b) "tuple" "tuple" qL (DE.b (qo (dv 0) ib)) rfl T.az rfl T.bz mv))))))) (ji (jH (zq (l:= .t)))) jR) (ji (jH (uF (l:= .t) (xb (aI.bR a)) Qw (jdj rfl (DE.b (Av.aB g a (ja (qo (dv 0) ib) jc))) (DE.b (Av.aB g a (ja (qo (dv 0) ib) jc))) rfl T.bK rfl T.B3) ib)))))
theorem Vw (d:Dx K mg "are_rules" Qn ["thing"]) (c:XX P w K mg af k i):
  QI P w K mg af (k+1) (aG true 1 (XA i)):=
 zm true d jlF λf j A e s H E n=>
  (je (zp (DW.dt (We (we (qY (wp (l':= .b) "list" "list" VQ (vb 0) rfl T.az rfl T.eV wI))) (Qh (j9 AD Bl (j6 (l':= .b) j7 wf rfl T.bK iS (ja (vb 0) jc)) (gi rfl T.iQ))))) (ji (jH (zq (l:= .t)))) jR) (ji (jH (j6 (l':= .t) (XU rfl) FD rfl T.oD Hq (ja (DE.b (yi false ["rule", "."] 1 [] (wH none rfl rfl (by decide+kernel) trivial rfl) rfl (xc (dv 0)) (λC g h o a=>⟨(jp 0 a),wF,(DE.s (Av.aB c n (ja (dv 0) jc)))⟩))) jc)))))
theorem Qv (d:Dm K C "__init__" "Rules.__init__" zY ["self", "rules"]) (l:cT K cc "Rules" =some (some (.ref C))/\f7 K C) (g:mg "Rules" =some (.ref C)) (mk:AH K C=true/\iZ K (.ref C)=true) (n:QJ P w K mg af k o) (p:QI P w K mg af k q):
  zc P w K mg af (k+1) (oz 2 1 (q9 o q)):=
 jkk d l g mk jlh rfl (by decide) λf r A h s H E j=>
  (Ug (jj9 (we (qY (DE.b (Av.aB p j (ja (dv 1) jc))))) (uz jc8) jfl) (Ug (uA (i:=0) T.bD (DE.s (wR yc KO rfl T.eV wI (ja (dv 1) jc)))) (uz (uA (i:=0) T.hX (DE.s (Av.aB n j (ja (DE.s (jI jx jN (DE.s (yi false ["left", "right", "."] 2 [] (wH none rfl rfl (by decide+kernel) trivial rfl) rfl (xc (dv 1)) (λC c e u a=>⟨(xO rfl (jp 0 a) (jp 1 a)),wF,(dv 0)⟩))) (DE.s (yi false ["left", "right", "."] 2 [] (wH none rfl rfl (by decide+kernel) trivial rfl) rfl (xc (dv 1)) (λC c e u a=>⟨(xO rfl (jp 0 a) (jp 1 a)),wF,(dv 1)⟩))))) jc)))))))
theorem Ka (d:Dx K mg "_law_chain" Ju ["_law_names_here", "_law_size_here"]):
  JU P w K mg af (k+1) (aG false 4 (xZ)):=
 zm false d DK λf c A a s H E e=>
  (je (jr 2 DK.nd (DE.s (jC (ja (qo (dv 0) ib) jc)))) (je (JL l5 rfl (wQ rfl T.cQ (ja (ob Q7 Za (vb 1) ib) jc)) (jp 3 DK.nd) (ji (jr 2 DK.nd (DE.s (jC (ja (qo (dv 0) ib) (ja (dv 2) jc))))))) (ji (yY (dv 2)))))
theorem Vy (d:Dx K mg "_law_wide" Qp ["_law_names_here", "_law_size_here", "_law_rest"]) (e:JU P w K mg af k g):
  QK P w K mg af (k+1) (aG true 7 (yR g)):=
 zm true d rG λf h A a s H E c=>
  (je (jr 3 rG.nd (DE.s (jC (ja (qo (dv 0) ib) jc)))) (je (jr 4 rG.nd (dv 3)) (je (jr 5 rG.nd (dv 3)) (je (JL l5 rfl (wQ rfl T.cQ (ja ib jc)) (jp 6 rG.nd) (je (jr 4 rG.nd (dv 5)) (je (jr 5 rG.nd (DE.s (wR yZ KN rfl T.bz mv (ja (DE.s (jI jx jN (DE.s (jQ (ja (qo (dv 0) ib) jc))) (DE.s (jI RO jjv (DE.s (jQ (ja (dv 5) jc))) bJ)))) jc)))) (ji (zp (j9 (xb (aI.bR c)) Qw (vb 6) ib) (ji (jr 3 rG.nd (dv 5))) jR))))) (ji (jH (jC (ja (qo (dv 0) ib) (ja (Av.call e c (ja (dv 0) (ja (dv 1) jc))) (ja (dv 5) (ja (dv 4) (ja (Av.call e c (ja (dv 0) (ja (dv 2) jc))) (ja (dv 3) (ja (dv 3) (ja (dv 3) (ja (dv 3) (ja (dv 3) jc)))))))))))))))))
theorem jaw (d:Dx K mg "bounded" W4 ["term"]) (c:Qa P w K mg af k e):
  yz P w K mg af (k+1) (bt false 1 (Zj e)):=
 Uy false d jlI λf g A a s H E h=>
  (jO (XM (qY (DE.b (Av.aB c h (ja (dv 0) jc)))) (qf (yu T.l0 T.eW T.cC t3 (JM (l:= .b)) (λ_=>⟨_,rfl⟩))) yX) (qf (DS.x (yY (dv 0)))))
theorem jav (d:Dx K mg "fits_on" W3 ["pattern", "term", "filling"]) (e:uP P w K mg af k h) (g:yd P w K mg af k i) (j:ZB P w K mg af k n):
  ZB P w K mg af (k+1) (lg 5 2 (yr h i n)):=
 jkm d Hi rfl (by decide) λf o A c s H E a=>
  (XN (MY (we (qY (wp (l':= .b) "tuple" "tuple" qL (vb 0) rfl T.az rfl T.bz mv))) (Zp (jc9 (aI.bR a) 2 (vb 0) (dv 1) (vb 1))) KH) (XN (MY (j9 (yl (aI.bR a)) Z5 (DE.b (Av.aB e a (ja (dv 0) jc))) (DE.b (Av.aB e a (ja (dv 1) jc)))) (Zp (kK (zq (l:= .b)))) KH) (XN (jh3 l5 rfl (jkb rfl T.rF (DE.s (Av.aB g a (ja (dv 0) jc))) (DE.s (Av.aB g a (ja (dv 1) jc)))) (jib rfl (uD 3 (by decide) Hi.nd) (uD 4 (by decide) Hi.nd)) (Zp (jh2 (nI.call 2 j a (dv 3) (dv 4)) (Zp (kK (zq (l:= .b)))) KH))) (Zp (kK (zq (l:= .b)))))))
theorem jau (d:Dx K mg "fitting" W0 ["pattern", "term"]) (c:ZB P w K mg af k e):
  JQ P w K mg af (k+1) (aG true 3 (Xz e)):=
 zm true d NM λf g A a s H E h=>
  (je (xN 2 NM.nd uE) (ji (jda (nI.call 2 c h (dv 0) (dv 1)) (hn:=K4))))
theorem Vu (d:Dx K mg "put_there" Ql ["term", "path", "other"]) (e:y7 P w K mg af k g):
  y7 P w K mg af (k+1) (aG false 4 (Xv g)):=
 zm false d NN λf h A a s H E c=>
  (je (zp (j9 (xb (aI.bR c)) Qw (vb 1) (DE.b (jC jc))) (ji (yY (dv 2))) jR) (je (jr 3 NN.nd (DE.s (jI jx jN (qo (dv 1) ib) bJ))) (ji (jH (jI jx jN (DE.s (jI jx jN (DE.s (qJ (dv 0) zj (zi (vb 3)))) (DE.s (jC (ja (Av.call e c (ja (qo (dv 0) (vb 3)) (ja (DE.s (qJ (dv 1) (zi ib) zj)) (ja (dv 2) jc)))) jc))))) (DE.s (qJ (dv 0) (zi (DE.b (jI jx jN (dv 3) bJ))) zj)))))))
theorem Vv (d:Dx K mg "exchanged" Qm ["term", "filling"]) (i:Ja P w K mg af k j) (l:yd P w K mg af k n):
  Ja P w K mg af (k+1) (aG false 2 (Qz j n)):=
 zm false d jlJ λf o A c s H E e=>
  (je (zp (we (qY (wp (l':= .b) "tuple" "tuple" qL (vb 0) rfl T.az rfl T.bz mv))) (ji (yY (TM (CS e) (dv 1) (vb 0) (dv 0)))) jR) (ji (jH (jI jx jN (DE.s (qJ (dv 0) zj (zi ib))) (DE.s (wR yZ KN rfl T.bz mv (ja (DE.s (yi false ["place", "filling", "."] 1 [1] (wH none rfl rfl (by decide+kernel) ⟨rfl,trivial⟩ rfl) rfl (xc (DE.s (Av.aB l e (ja (dv 0) jc)))) (λC g h p a=>⟨(jp 0 a),wF,(Av.call i e (ja (dv 0) (ja (dv 1) jc)))⟩))) jc)))))))
theorem jaq (d:Dx K mg "stepped" WW ["term", "path", "rule", "filling"]) (e:yz P w K mg af k g) (h:y7 P w K mg af k i) (j:Ja P w K mg af k l):
  ZA P w K mg af (k+1) (bt false 4 (VY g i l)):=
 Uy false d jl6 λf n A a s H E c=>
  (qf (uy (fT.f9 e c (ja (Av.call h c (ja (dv 0) (ja (dv 1) (ja (Av.call j c (ja (qo (dv 2) ib) (ja (dv 3) jc))) jc)))) jc))))
theorem Q9 (d:Dm K C "is_step" "Rules.is_step" wz ["self", "thing"]) (e:cT K cc "Rules" =some (some (.ref C))/\f7 K C) (g:yy P w K mg af k h):
  wK P w K mg af (k+1) (aG true 2 (j0 h)):=
 Nn true d e jlj λf i A a s H E c=>
  (je (zp (DW.dt (We (we (qY (wp (l':= .b) "tuple" "tuple" qL (vb 1) rfl T.az rfl T.bz mv))) (Qh (j9 (yl (aI.bR c)) Z5 (j6 (l':= .b) j7 wf rfl T.bK iS (ja (vb 1) jc)) ib)))) (ji (jH (zq (l:= .t)))) jR) (ji (jH (YF (DE.b (Av.aB g c (ja (qo (dv 1) ib) jc))) (YD (KM (l:= .t) Vt VC AC Bk ib (DE.b (qo (dv 1) ib)) (j6 (l':= .b) j7 wf rfl T.bK iS (ja (DE.b (KL 0 T.bD)) jc))))))))
theorem X1 (d:Dx K mg "place_there" yF ["term", "number"]) (e:yd P w K mg af k g) (h:yy P w K mg af k i):
  y8 P w K mg af (k+1) (bt false 3 (wa g i)):=
 Uy false d NO λf j A a s H E c=>
  (jO (DS.x (jr 2 NO.nd (DE.s (Av.aB e c (ja (dv 0) jc))))) (jO (XM (DW.dt (We (we (qY (DE.b (Av.aB h c (ja (dv 1) jc))))) (Qh (we (uw Vt VC AC Bk ib (vb 1) (j6 (l':= .b) j7 wf rfl T.bK iS (ja (vb 2) jc))))))) (qf (yu T.ll T.ek T.dh t3 (JM (l:= .b)) (λ_=>⟨_,rfl⟩))) yX) (qf (DS.x (yY (qo (dv 2) (vb 1)))))))
theorem Y4 (d:Dx K mg "part_there" Jo ["term", "path"]) (c:y8 P w K mg af k e):
  JP P w K mg af (k+1) (bt false 4 (zg e)):=
 Uy false d DL λf g A a s H E h=>
  (jO (XM (we (qY (wp (l':= .b) "tuple" "tuple" qL (vb 1) rfl T.az rfl T.bz mv))) (qf (yu T.ll T.ek T.dh t3 (JM (l:= .b)) (λ_=>⟨_,rfl⟩))) yX) (jO (DS.x (jr 2 DL.nd (dv 0))) (jO (KG B8 rfl (xc (dv 1)) (jp 3 DL.nd) (qf (WP 2 DL.nd (fT.f9 c h (ja (dv 2) (ja (dv 3) jc)))))) (qf (DS.x (yY (dv 2)))))))
theorem Q8 (d:Dx K mg "part_stepped_on" wy ["term", "path"]) (c:JP P w K mg af k e):
  wJ P w K mg af (k+1) (bt false 2 (qM e)):=
 Uy false d jlZ λf g A a s H E h=>
  (qf (jfj ["NoPath"] (λi j=>by exact (Zo (jfi (fT.f9 c h (ja (dv 0) (ja (dv 1) jc)))))) T.ek T.oF T.nj T.gI T.dj T.eq T.cE t3 (λ_=>by exact (JM (l:= .b))) (λ_=>⟨_,rfl⟩)))
theorem Qc {a:List D} (d:rD K C "walked_on" "Rules.walked_on" zH ["self", "term", "step"] a) (g:cT K cc "Rules" =some (some (.ref C))/\f7 K C) (h:JQ P w K mg af k i) (j:ZA P w K mg af k n) (o:wK P w K mg af k p) (q:wJ P w K mg af k r):
  cq P w K mg af (k+1) "Rules" "walked_on" ["self", "term", "step"] a false (bt false 6 (qR i n p r)):=
 KQ false d g DM λf u A e s H E c=>
  (jO (XM (we (qY (DE.b (lY.aB o c (dv 0) (ja (dv 2) jc))))) (qf (yu T.gI T.eq T.cE t3 (JM (l:= .b)) (λ_=>⟨_,rfl⟩))) yX) (jO (DS.x (jr 3 DM.nd (qo (dv 2) ib))) (jO (DS.x (jr 4 DM.nd (qo (KL 0 T.bD) (DE.b (qo (dv 2) ib))))) (jO (WP 5 DM.nd (fQ.s (Av.tW h c (qo (dv 4) ib) (fT.f9 q c (ja (dv 1) (ja (dv 3) jc)))))) (jO (XM (j9 Lh L4 (vb 5) (Ji (l:= .b))) (qf (yu T.gI T.eq T.cE t3 (JM (l:= .b)) (λ_=>⟨_,rfl⟩))) yX) (qf (uy (fT.f9 j c (ja (dv 1) (ja (dv 3) (ja (dv 4) (ja (dv 5) jc))))))))))))
theorem Z4 {a:List D} (d:rD K C "walked" "Rules.walked" wY ["self", "term", "row"] a) (g:cT K cc "Rules" =some (some (.ref C))/\f7 K C) (h:yz P w K mg af k i) (j:xQ P w K mg af k n):
  cq P w K mg af (k+1) "Rules" "walked" ["self", "term", "row"] a true (bt true 5 (qB i n)):=
 KQ true d g Hj λf o A c s H E e=>
  (jO (DS.x (xN 3 Hj.nd (jQ (ja (dv 1) jc)))) (jO (KG B8 rfl (xc (dv 2)) (jp 4 Hj.nd) (qf (YB 3 (cq.io (l:= .s) (λ_=>trivial) j e (dv 0) (ja (To 3 (Zs (l':= .b) ib)) (ja (dv 4) jc)))))) (jO (jfk (fT.f9 h e (ja (dv 1) jc))) (qf (DS.x (JK 3))))))
theorem X5 (d:Dx K mg "_law_answer" yJ ["_law_rules", "_law_term_here", "_law_row_here"]) (c:Jj P w K mg af k g):
  xt P w K mg af (k+1) (aG true 6 (zo g)):=
 zm true d Ah λf i A a s H E j=>
  (je (jr 3 Ah.nd (Ji (l:= .s))) (je (jr 4 Ah.nd (DE.s (jQ jc))) (je (MU ["TooGreat", "NoPath", "NoRule", "NoStep", "TooLong"] 5 Ah.nd (λn o=>by exact (Zo (jfh 3 Ah.nd (fQ.s (cq.io (l:= .t) (λh=>h rfl) c j (dv 0) (ja (dv 1) (ja (dv 2) jc))))))) (λe=>by exact (ji (jr 4 Ah.nd (DE.s (jQ (ja (YE (l':= .s) [("TooGreat",false),("NoPath",false),("NoRule",false),("NoStep",true),("TooLong",false)] "NoStep" T.lp (vb 5) rfl T.az rfl T.eq) (ja (YE (l':= .s) [("TooGreat",true),("NoPath",false),("NoRule",false),("NoStep",false),("TooLong",false)] "TooGreat" T.gK (vb 5) rfl T.az rfl T.eW) (ja (YE (l':= .s) [("TooGreat",false),("NoPath",true),("NoRule",false),("NoStep",false),("TooLong",false)] "NoPath" T.lm (vb 5) rfl T.az rfl T.ek) jc)))))))) T.gH T.gJ) (ji (jH (jQ (ja (dv 3) (ja (dv 4) jc))))))))
theorem jex (d:Dx K mg "paths" UP ["term"]) (i:yd P w K mg af k j) (l:KZ P w K mg af k n):
  KZ P w K mg af (k+1) (aG true 4 (NK j n)):=
 zm true d DN λf o A c s H E e=>
  (je (xN 1 DN.nd (jQ (ja (DE.s (jC jc)) jc))) (je (JL l5 rfl (jfr rfl T.ej (DE.s (Av.aB i e (ja (dv 0) jc)))) (xO rfl (jp 2 DN.nd) (jp 3 DN.nd)) (ji (Zq 1 (DE.s (yi false ["rest", "number", "."] 1 [2] (wH none rfl rfl (by decide+kernel) ⟨rfl,trivial⟩ rfl) rfl (xc (DE.s (Av.aB l e (ja (dv 3) jc)))) (λC g h p a=>⟨(jp 0 a),wF,(DE.s (jI jx jN (DE.s (jC (ja (dv 1) jc))) (dv 0)))⟩)))))) (ji (JK 1))))
theorem WA {a:List D} (d:rD K C "steps" "Rules.steps" xD ["self", "term"] a) (g:cT K cc "Rules" =some (some (.ref C))/\f7 K C) (h:KZ P w K mg af k i) (j:QH P w K mg af k n) (o:JQ P w K mg af k p) (q:ZA P w K mg af k r):
  cq P w K mg af (k+1) "Rules" "steps" ["self", "term"] a true (bt true 8 (wb i n p r)):=
 KQ true d g tZ λf u A e s H E c=>
  (jO (DS.x (xN 2 tZ.nd (jQ jc))) (jO (KG B8 rfl (jia rfl T.rF (DE.s (Av.aB h c (ja (dv 1) jc))) (DE.s (Av.aB j c (ja (dv 1) jc)))) (xO rfl (jp 3 tZ.nd) (jp 4 tZ.nd)) (qf (KG B8 rfl (MH rfl T.ej (KL 0 T.bD)) (xO rfl (jp 5 tZ.nd) (jp 6 tZ.nd)) (jO (DS.x (jr 7 tZ.nd (DE.s (Av.aB o c (ja (qo (dv 6) ib) (ja (dv 4) jc)))))) (qf (XM (j9 Li MW (vb 7) (Ji (l:= .b))) (qf (YB 2 (fQ.s (Np (Zt (DE.x (dv 3)) (Zt (DE.x (dv 5)) (Zt (fT.f9 q c (ja (dv 1) (ja (dv 3) (ja (dv 6) (ja (dv 7) jc))))) No))))))) yX)))))) (qf (DS.x (JK 2)))))
theorem Qf {a:List D} (d:rD K C "end" "Rules.end" yK ["self", "term", "most"] a) (i:cT K cc "Rules" =some (some (.ref C))/\f7 K C) (g:wj P w K mg af k j) (n:yz P w K mg af k o):
  cq P w K mg af (k+1) "Rules" "end" ["self", "term", "most"] a true (bt true 6 (xm j o)):=
 KQ true d i Ai λf p A c s H E e=>
  (jO (DS.x (xN 3 Ai.nd (jQ jc))) (jO (DS.x (jr 4 Ai.nd (dv 1))) (jO (WP 5 Ai.nd (fQ.s (cq.io (l:= .t) (λh=>h rfl) g e (dv 0) (ja (dv 4) jc)))) (jO (jc7 1100 B8 (LD (vb 5)) (jO (XM (j9 QA SX (j6 (l':= .b) j7 wf rfl T.bK iS (ja (db 3) jc)) (vb 2)) (qf (yu T.ni T.nh T.di t3 (JM (l:= .b)) (λ_=>⟨_,rfl⟩))) yX) (jO (DS.x (XQ 3 (DE.s (qJ (qo (dv 5) ib) zj (zi ib))))) (jO (DS.x (jr 4 Ai.nd (qo (qo (dv 5) ib) ib))) (qf (WP 5 Ai.nd (fQ.s (cq.io (l:= .t) (λh=>h rfl) g e (dv 0) (ja (dv 4) jc))))))))) (qf (jh1 3 (jh0 (Np (Zt (DE.x (dv 3)) (Zt (fT.f9 n e (ja (dv 4) jc)) No))))))))))
theorem Z3 (d:Dx K mg "_law_too_great" wX ["_law_rules", "_law_term_here", "_law_deed"]) (j:wj P w K mg af k n) (o:ZC P w K mg af k i) (a:Qi P w K mg af k i):
  w5 P w K mg af (k+1) (aG true 5 (zD n i)):=
 zm true d DP λf p A g s H E c=>
  (je (jr 3 DP.nd (DE.s (jQ jc))) (je (MU ["TooGreat", "NoPath", "NoRule", "NoStep", "TooLong"] 4 DP.nd (λq r=>by exact (Zo (jj8 (j9 (xb (aI.bR c)) Qw (vb 2) ib) (Zo (ux (cq.io (l:= .t) (λh=>h rfl) j c (dv 0) (ja (dv 1) jc)))) (Zo (ux (cq.io (l:= .t) (λh=>h rfl) o c (dv 0) (ja (dv 1) (ja bJ jc)))))))) (λe=>by exact (ji (jr 3 DP.nd (DE.s (jQ (ja (YE (l':= .s) [("TooGreat",false),("NoPath",false),("NoRule",false),("NoStep",true),("TooLong",false)] "NoStep" T.lp (vb 4) rfl T.az rfl T.eq) (ja (YE (l':= .s) [("TooGreat",true),("NoPath",false),("NoRule",false),("NoStep",false),("TooLong",false)] "TooGreat" T.gK (vb 4) rfl T.az rfl T.eW) (ja (YE (l':= .s) [("TooGreat",false),("NoPath",true),("NoRule",false),("NoStep",false),("TooLong",false)] "NoPath" T.lm (vb 4) rfl T.az rfl T.ek) jc)))))))) T.gH T.gJ) (ji (jH (uF (l:= .t) (xb (aI.bR c)) Qw (vb 3) (DE.b (jQ (ja (zq (l:= .s)) (ja (zq (l:= .s)) (ja (zq (l:= .s)) jc))))))))))
theorem Y9 (d:Dx K mg "_law_great" Jt ["_law_names_here", "_law_number"]) {n:Nat} (p:zc P w K mg af n q) (r:n+1<=k) (i:QK P w K mg af k u) (h:xt P w K mg af k v) (o:w5 P w K mg af k y):
  JT P w K mg af (k+1) (aG true 9 (xY q u v y)):=
 zm true d rH λf z A j s H E c=>
  (je (jr 2 rH.nd (DE.s (tQ.make p (c.mono r) (ja (DE.s (jQ (ja (DE.s (jC (ja (DE.s (jC (ja (qo (dv 0) ib) (ja bJ jc)))) (ja bJ jc)))) (ja (DE.s (jC (ja (DE.s (jC (ja (qo (dv 0) ib) jc))) (ja (DE.s (jC (ja (qo (dv 0) ib) (ja (DE.s (jC (ja (qo (dv 0) ib) jc))) jc)))) jc)))) jc)))) jc)))) (je (jr 3 rH.nd (eU xG xH (vb 1) ib)) (je (jr 4 rH.nd (DE.s (Av.aB i c (ja (dv 0) (ja bJ (ja (eU Q7 Za ib (vb 3)) jc)))))) (je (KI 5 rH.nd false ["_law_k", "."] 1 [] (wH none rfl rfl (by decide+kernel) trivial rfl) rfl (wQ rfl T.cQ (ja (DE.b (jI jx jN (dv 3) bJ)) jc)) (λC e g B a=>⟨(jp 0 a),wF,(DE.s (jC (ja (DE.s (jI jx jN (DE.s (jC (ja bJ jc))) (DE.s (jI vN vP (DE.s (jC (ja bJ jc))) (DE.s (jI jx jN bJ (dv 0))))))) (ja bJ jc))))⟩)) (je (KI 6 rH.nd false ["_law_k", "_law_names_here", "_law_room", "."] 1 [0,3] (wH none rfl rfl (by decide+kernel) ⟨rfl,rfl,trivial⟩ rfl) rfl (wQ rfl T.cQ (ja (DE.b (jI jx jN (dv 3) bJ)) jc)) (λC e g B a=>⟨(jp 0 a),wF,(DE.s (Av.aB i c (ja (dv 1) (ja (DE.s (jI jx jN bJ (dv 0))) (ja (eU Q7 Za ib (vb 2)) jc)))))⟩)) (je (zp (j9 (yl (aI.bR c)) Z5 (DE.b (Av.aB h c (ja (dv 2) (ja (dv 4) (ja (DE.s (qJ (dv 5) zj (zi (Zs (l':= .b) ib)))) jc))))) (DE.b (jQ (ja (dv 6) (ja (DE.s (jQ jc)) jc))))) (ji (jH (zq (l:= .t)))) jR) (je (zp (DW.dt (We (we (qY (DE.b (Av.aB o c (ja (dv 2) (ja (qo (dv 6) (Zs (l':= .b) ib)) (ja bJ jc))))))) (Qh (we (qY (DE.b (Av.aB o c (ja (dv 2) (ja (qo (dv 6) (Zs (l':= .b) ib)) (ja bJ jc)))))))))) (ji (jH (zq (l:= .t)))) jR) (je (jr 7 rH.nd (DE.s (jC (ja (DE.s (jC (ja bJ jc))) (ja bJ jc))))) (je (jr 8 rH.nd (DE.s (Av.aB i c (ja (dv 0) (ja (DE.s (jI jx jN bJ (dv 3))) (ja (eU Q7 Za ib (vb 3)) jc)))))) (je (zp (j9 (yl (aI.bR c)) Z5 (DE.b (Av.aB h c (ja (dv 2) (ja (dv 4) (ja (DE.s (jI jx jN (DE.s (qJ (dv 5) zj (zi (Zs (l':= .b) ib)))) (DE.s (jQ (ja (dv 7) jc))))) jc))))) (DE.b (jQ (ja (DE.s (jI jx jN (dv 6) (DE.s (jQ (ja (dv 8) jc))))) (ja (DE.s (jQ jc)) jc))))) (ji (jH (zq (l:= .t)))) jR) (je (zp (j9 (yl (aI.bR c)) Z5 (DE.b (Av.aB h c (ja (dv 2) (ja (dv 4) (ja (DE.s (jI jx jN (dv 5) (DE.s (jQ (ja (Ji (l:= .s)) (ja (dv 7) jc)))))) jc))))) (DE.b (jQ (ja (Ji (l:= .s)) (ja (DE.s (jQ (ja (zq (l:= .s)) (ja (zq (l:= .s)) (ja (zq (l:= .s)) jc))))) jc))))) (ji (jH (zq (l:= .t)))) jR) (ji (jH (uF (l:= .t) (xb (aI.bR c)) Qw (DE.b (Av.aB h c (ja (dv 2) (ja (dv 4) (ja (DE.s (jI jx jN (DE.s (jI jx jN (DE.s (qJ (dv 5) zj (zi (Zs (l':= .b) ib)))) (DE.s (jQ (ja (DE.s (jC (ja (DE.s (jC (ja bJ (ja bJ jc)))) (ja bJ jc)))) jc))))) (DE.s (qJ (dv 5) (zi (Zs (l':= .b) ib)) zj)))) jc))))) (DE.b (jQ (ja (Ji (l:= .s)) (ja (DE.s (jQ (ja (zq (l:= .s)) (ja (zq (l:= .s)) (ja (zq (l:= .s)) jc))))) jc))))))))))))))))))
theorem Y8 (d:Dx K mg "_law_mixed" Js ["_law_number", "_law_k"]):
  zQ P w K mg af (k+1) (aG true 3 (xX)):=
 zm true d NP λf c A a s H E e=>
  (je (jr 2 NP.nd (eU xG xH (DE.b (jI jx jN (eU Jy Wq (vb 0) ib) (eU Jy Wq (DE.b (jI jx jN (dv 1) bJ)) ib))) (DE.b (jI jx jN (eU vO vQ ib ib) bJ)))) (ji (jH (kM (l:= .t) xG xH (ob Jy Wq (vb 2) (vb 2)) (DE.b (jI jx jN (eU vO vQ ib ib) bJ))))))
theorem Vz (d:Dx K mg "_law_term" Qq ["_law_number", "_law_names_here", "_law_deep", "_law_free"]) (i:xP P w K mg af k j) (l:zQ P w K mg af k n):
  xP P w K mg af (k+1) (aG false 7 (wA j n)):=
 zm false d rJ λf o A e s H E c=>
  (je (Jh (DE.s (wO qU wg rfl T.bV qC (ja (dv 0) (ja bJ jc)))) (xO rfl (jp 0 rJ.nd) (jp 4 rJ.nd))) (je (zp (DW.dt (uv (j9 (yl (aI.bR c)) Z5 (vb 3) (DE.b (jQ jc))) (KC (DW.dt (We (j9 (xb (aI.bR c)) Qw (vb 4) ib) (Qh (DW.dt (uv (j9 (xb (aI.bR c)) Qw (vb 2) ib) (KC (j9 AC Bk (vb 4) ib)))))))))) (ji (yY (qo (dv 3) (WB (vb 0) (j6 (l':= .b) j7 wf rfl T.bK iS (ja (vb 3) jc)))))) jR) (je (Jh (DE.s (wO qU wg rfl T.bV qC (ja (dv 0) (ja bJ jc)))) (xO rfl (jp 0 rJ.nd) (jp 5 rJ.nd))) (je (Jh (DE.s (wO qU wg rfl T.bV qC (ja (dv 0) (ja bJ jc)))) (xO rfl (jp 0 rJ.nd) (jp 6 rJ.nd))) (je (zp (j9 (xb (aI.bR c)) Qw (vb 2) ib) (ji (jr 6 rJ.nd bJ)) jR) (ji (jH (wR yZ KN rfl T.bz mv (ja (DE.s (jI jx jN (DE.s (jQ (ja (qo (dv 1) (vb 5)) jc))) (DE.s (yi false ["_law_k", "_law_names_here", "_law_free", "_law_number", "_law_deep", "."] 1 [1,3,0,2] (wH none rfl rfl (by decide+kernel) ⟨rfl,rfl,rfl,rfl,trivial⟩ rfl) rfl (wQ rfl T.cQ (ja (vb 6) jc)) (λC g h p a=>⟨(jp 0 a),wF,(Av.call i c (ja (DE.s (Av.aB l c (ja (dv 3) (ja (dv 0) jc)))) (ja (dv 1) (ja (eU Q7 Za (vb 4) ib) (ja (dv 2) jc)))))⟩))))) jc)))))))))
theorem Y5 (d:Dx K mg "_law_whole" Jp ["_law_found"]):
  wS P w K mg af (k+1) (aG true 1 (Wt)):=
 zm true d jlC λf c A a s H E e=>
  (ji (jH (YF (wp (l':= .b) "int" "int" ub (vb 0) rfl T.az rfl T.rE NQ) (YD (Fg (l:= .t) (wp (l':= .b) "bool" "bool" VR (vb 0) rfl T.az rfl T.oC NR))))))
theorem X4 (d:Dx K mg "_law_blanks" yI ["_law_term_here"]) (e:wS P w K mg af k g) (h:xr P w K mg af k i):
  xr P w K mg af (k+1) (aG true 3 (zn g i)):=
 zm true d Hk λf j A a s H E c=>
  (je (zp (qY (DE.b (Av.aB e c (ja (dv 0) jc)))) (ji (jH (jQ (ja (dv 0) jc)))) jR) (je (xN 1 Hk.nd (jQ jc)) (je (JL l5 rfl (xc (DE.s (qJ (dv 0) (zi ib) zj))) (jp 2 Hk.nd) (ji (Zq 1 (DE.s (Av.aB h c (ja (dv 2) jc)))))) (ji (JK 1)))))
theorem VB (d:Dx K mg "_law_rule" Qs ["_law_number", "_law_names_here"]) (e:xP P w K mg af k h) (i:wS P w K mg af k j) (g:zQ P w K mg af k l) (n:xr P w K mg af k o):
  QL P w K mg af (k+1) (aG true 4 (yS h j l o)):=
 zm true d DQ λf p A c s H E a=>
  (je (jr 2 DQ.nd (DE.s (jQ (ja (eU xG xH (vb 0) ib) (ja (eU xG xH (DE.b (jI jx jN (DE.s (jI jx jN (dv 0) bJ)) (eU xG xH (VD (vb 0) ib) ib))) ib) jc))))) (je (jr 3 DQ.nd (Av.call e a (ja (DE.s (Av.aB g a (ja (dv 0) (ja bJ jc)))) (ja (dv 1) (ja bJ (ja (dv 2) jc)))))) (je (zp (qY (DE.b (Av.aB i a (ja (dv 3) jc)))) (ji (jr 3 DQ.nd (DE.s (jC (ja (qo (dv 1) (WB (VD (vb 0) (kj ib ib)) ib)) (ja (dv 3) jc)))))) jR) (je (zp (DW.dt (uv (j9 (xb (aI.bR a)) Qw (WB (VD (vb 0) (kj ib ib)) ib) ib) (KC (j9 AD Bl (j6 (l':= .b) j7 wf rfl T.bK iS (ja (vb 3) jc)) ib)))) (ji (jH (jC (ja (dv 3) (ja (qo (dv 3) (DE.b (jI jx jN bJ (eU xG xH (VD (vb 0) (kj ib ib)) (ob Q7 Za (j6 (l':= .b) j7 wf rfl T.bK iS (ja (vb 3) jc)) ib))))) jc))))) jR) (ji (jH (jC (ja (dv 3) (ja (Av.call e a (ja (DE.s (Av.aB g a (ja (dv 0) (ja bJ jc)))) (ja (dv 1) (ja bJ (ja (DE.s (Av.aB n a (ja (dv 3) jc))) jc))))) jc)))))))))
theorem Y6 (d:Dx K mg "_law_steps" Jq ["_law_rules", "_law_term_here"]) (c:wj P w K mg af k e):
  JR P w K mg af (k+1) (aG true 3 (xV e)):=
 zm true d Hl λf g A a s H E h=>
  (je (xN 2 Hl.nd (jQ jc)) (je (jh4 (λi j=>by exact (ji (xN 2 Hl.nd (lY.aB (cq.av c) h (dv 0) (ja (dv 1) jc)))))) (ji (JK 2))))
theorem VA (d:Dx K mg "_law_size" Qr ["_law_term_here"]) (i:wS P w K mg af k j) (n:Jc P w K mg af k o):
  Jc P w K mg af (k+1) (aG true 1 (wB j o)):=
 zm true d jlx λf p A c s H E e=>
  (je (zp (qY (DE.b (Av.aB i e (ja (dv 0) jc)))) (ji (jH (Fe (l:= .t)))) jR) (ji (jH (jI jx jN bJ (j6 (l':= .s) (jdA rfl) jim rfl T.B4 jdD (ja (DE.b (yi false ["_law_place", "."] 1 [] (wH none rfl rfl (by decide+kernel) trivial rfl) rfl (xc (DE.s (qJ (dv 0) (zi ib) zj))) (λC g h q a=>⟨(jp 0 a),wF,(DE.s (Av.aB n e (ja (dv 0) jc)))⟩))) jc))))))
theorem kh (d:Dx K mg "_law_row" ZR ["_law_rules", "_law_term_here", "_law_number"]) (e:JR P w K mg af k g) (h:zQ P w K mg af k i) (j:Jc P w K mg af k l):
  Wj P w K mg af (k+1) (aG true 10 (J4 g i l)):=
 zm true d oH λf n A c s H E a=>
  (je (xN 3 oH.nd (jQ jc)) (je (xN 4 oH.nd (jQ (ja (dv 1) jc))) (je (Jh (DE.s (wO qU wg rfl T.bV qC (ja (dv 2) (ja bJ jc)))) (xO rfl (jp 2 oH.nd) (jp 6 oH.nd))) (je (jr 5 oH.nd (DE.s (Av.aB e a (ja (dv 0) (ja (dv 1) jc))))) (je (uB 20 l5 (DW.dt (uv (j9 (yl (aI.bR a)) Z5 (vb 5) (DE.b (jQ jc))) (KC (j9 AC Bk (j6 (l':= .b) j7 wf rfl T.bK iS (ja (db 3) jc)) (vb 6))))) (je (jr 2 oH.nd (DE.s (Av.aB h a (ja (dv 2) (ja bJ jc))))) (je (Jh (qo (dv 5) (WB (vb 2) (j6 (l':= .b) j7 wf rfl T.bK iS (ja (vb 5) jc)))) (jfs rfl (jp 7 oH.nd) (jp 8 oH.nd) (jp 9 oH.nd))) (je (zp (j9 AD Bl (DE.b (Av.aB j a (ja (dv 9) jc))) ib) (ji (YC 4 (YC 3 (jH (jQ (ja (dv 3) (ja (dv 4) jc))))))) jR) (je (XQ 3 (DE.s (jC (ja (dv 7) (ja (dv 8) jc))))) (je (XQ 4 (dv 9)) (ji (jr 5 oH.nd (DE.s (Av.aB e a (ja (dv 0) (ja (dv 9) jc)))))))))))) (ji (YC 4 (YC 3 (jH (jQ (ja (dv 3) (ja (dv 4) jc))))))))))))
theorem Xi (d:Dm K C "told" "Rules.told" yf ["self"]) (c:cT K cc "Rules" =some (some (.ref C))/\f7 K C):
  yj P w K mg af (k+1) (aG true 1 (Qg)):=
 Nn true d c jll λf e A a s H E g=>
  (ji (jH (wR yc KO rfl T.eV wI (ja (KL 0 T.bD) jc))))
theorem jjt (d:Dx K mg "fit" He ["pattern", "term"]) (e:JQ P w K mg af k g) (h:yz P w K mg af k i):
  Ho P w K mg af (k+1) (aG true 4 (DF g i)):=
 zm true d Hm λf j A a s H E c=>
  (je (xN 2 Hm.nd (Av.aB e c (ja (dv 0) (ja (dv 1) jc)))) (je (zp (j9 Li MW (db 2) (Ji (l:= .b))) (ji (jh5 2 3 l5 rfl Hm.nd (jig (Av.call (fT.av h) c (ja (jid (CS c) (dv 2) (vb 3)) jc))))) jR) (ji (JK 2))))
theorem ki (d:Dx K mg "_law_bad" ZS ["_law_number", "_law_rules", "_law_term_here"]) (h:yj P w K mg af k i) (c:Ho P w K mg af k e):
  Wl P w K mg af (k+1) (aG false 6 (J5 i e)):=
 zm false d Aj λf j A g s H E a=>
  (je (jr 3 Aj.nd (DE.s (lY.tP h a (dv 1)))) (je (Jh (DE.s (wO qU wg rfl T.bV qC (ja (dv 0) (ja bJ jc)))) (xO rfl (jp 0 Aj.nd) (jp 4 Aj.nd))) (je (Jh (DE.s (wO qU wg rfl T.bV qC (ja (dv 0) (ja (j6 (l':= .s) j7 wf rfl T.bK iS (ja (vb 3) jc)) jc)))) (xO rfl (jp 0 Aj.nd) (jp 5 Aj.nd))) (je (zp (j9 AC Bk (vb 4) ib) (je (zp (j9 Lh L4 (DE.b (Av.aB c a (ja (qo (qo (dv 3) (vb 5)) ib) (ja (dv 2) jc)))) (Ji (l:= .b))) (ji (jH (jC (ja (DE.s (jC jc)) (ja (dv 5) jc))))) jR) (ji (jH (jC (ja (DE.s (jI vN vP (DE.s (jC (ja bJ jc))) bJ)) (ja (dv 5) jc)))))) jR) (je (zp (j9 (xb (aI.bR a)) Qw (vb 4) ib) (ji (jH (jC (ja (DE.s (jC (ja (DE.s (jI jx jN bJ (eU xG xH (vb 0) ib))) jc))) (ja (dv 5) jc))))) jR) (je (zp (j9 (xb (aI.bR a)) Qw (vb 4) ib) (ji (jH (jC (ja (DE.s (jC (ja (eU Q7 Za (Zs (l':= .b) ib) (WB (vb 0) ib)) jc))) (ja (dv 5) jc))))) jR) (je (zp (j9 (xb (aI.bR a)) Qw (vb 4) ib) (ji (jH (jC (ja (DE.s (jC jc)) (ja (DE.s (jI jx jN (j6 (l':= .s) j7 wf rfl T.bK iS (ja (vb 3) jc)) (eU xG xH (vb 0) (kj ib ib)))) jc))))) jR) (je (zp (j9 (xb (aI.bR a)) Qw (vb 4) ib) (ji (jH (jC (ja (DE.s (jC jc)) (ja (eU Q7 Za (Zs (l':= .b) ib) (WB (vb 0) (kj ib ib))) jc))))) jR) (je (zp (j9 (xb (aI.bR a)) Qw (vb 4) ib) (ji (yY (qo (DE.s (jQ (ja (DE.s (jC (ja (DE.s (jC jc)) (ja (zq (l:= .s)) jc)))) (ja (DE.s (jC (ja (DE.s (jC (ja (zq (l:= .s)) jc))) (ja (dv 5) jc)))) (ja (DE.s (jC (ja (DE.s (jC (ja (zq (l:= .s)) jc))) (ja (dv 5) jc)))) (ja (DE.s (jC (ja (DE.s (jC (ja (Ji (l:= .s)) jc))) (ja (dv 5) jc)))) jc)))))) (WB (vb 0) ib)))) jR) (ji (yY (qo (DE.s (jQ (ja (DE.s (jC (ja (DE.s (jC jc)) jc))) (ja (DE.s (jC (ja (DE.s (jC jc)) (ja (dv 5) (ja (dv 2) jc))))) (ja (DE.s (jQ (ja (DE.s (jC jc)) (ja (dv 5) jc)))) (ja (JM (l:= .s)) (ja (Ji (l:= .s)) (ja (dv 5) (ja (DE.s (jC (ja (DE.s (jQ jc)) (ja (dv 5) jc)))) (ja (DE.s (jC (ja (Ji (l:= .s)) (ja (dv 5) jc)))) (ja (DE.s (jC (ja (JM (l:= .s)) (ja (dv 5) jc)))) jc))))))))))) (WB (vb 0) ib)))))))))))))
theorem jjs {f:Addr} {j:mH} (r:iB K "law" "law" YW f j) (n:Jb P w K mg af k u) (v:JS P w K mg af k y) {o:Nat} (z:zc P w K mg af o B) (I:o+1<=k) (J:JT P w K mg af k JH) (vf:QL P w K mg af k QD) (e:Wj P w K mg af k Wc) (g:xt P w K mg af k jZ) (d:zQ P w K mg af k jA) (wN:xP P w K mg af k qm) (h:Wl P w K mg af k Wd):
  bX P w K mg af gq (k+1) f j ["_law_script"] (nD K true 1 (aG true 18 (DH u y B JH QD Wc jZ jA qm Wd))):=
 Tn true r i4 λA0 A i s H E a=>
  (je (jr 1 i4.nd (DE.s (Av.aB n a (ja (qo (DE.s (jI jhg jhn (dv 0) (DE.s (jQ (ja bJ jc))))) ib) (ja bJ jc))))) (je (jr 2 i4.nd (DE.s (Av.aB v a (ja (dv 1) jc)))) (je (KI 3 i4.nd false ["_law_k", "_law_names_here", "_law_lead", "."] 1 [2,1] (wH none rfl rfl (by decide+kernel) ⟨rfl,rfl,trivial⟩ rfl) rfl (wQ rfl T.cQ (ja (DE.b (jI jx jN bJ (eU xG xH (VD (vb 1) (kj ib ib)) ib))) jc)) (λC p q fp c=>⟨(jp 0 c),wF,(DE.s (Av.aB vf a (ja (DE.s (Av.aB d a (ja (dv 2) (ja (dv 0) jc)))) (ja (dv 1) jc))))⟩)) (je (jr 4 i4.nd (DE.s (tQ.make z (a.mono I) (ja (DE.s (wR yc KO rfl T.eV wI (ja (dv 3) jc))) jc)))) (je (JL l5 rfl (MH rfl T.ej (DE.s (jdk (dv 0) zj (zi ib)))) (xO rfl (jp 5 i4.nd) (jp 6 i4.nd)) (je (jr 7 i4.nd (DE.s (Av.aB n a (ja (dv 6) (ja (DE.s (jI jx jN (dv 5) bJ)) jc))))) (je (jr 8 i4.nd (qo (qo (dv 3) (WB (vb 7) (j6 (l':= .b) j7 wf rfl T.bK iS (ja (vb 3) jc)))) ib)) (je (jr 9 i4.nd (DE.s (jQ (ja (eU xG xH (VD (vb 7) ib) ib) (ja (eU xG xH (DE.b (jI jx jN (eU Y3 Kb (vb 7) ib) bJ)) ib) jc))))) (je (jr 10 i4.nd (DE.s (jC (ja (qo (dv 2) (WB (VD (vb 7) ib) ib)) (ja (Av.call wN a (ja (DE.s (Av.aB d a (ja (dv 7) (ja bJ jc)))) (ja (dv 2) (ja bJ (ja (dv 9) jc))))) (ja (dv 8) jc)))))) (je (Jh (DE.s (Av.aB e a (ja (dv 4) (ja (dv 10) (ja (DE.s (Av.aB d a (ja (dv 7) (ja bJ jc)))) jc))))) (Nd rfl (jp 14 i4.nd) (jp 15 i4.nd))) (je (jr 11 i4.nd (DE.s (wR yc KO rfl T.eV wI (ja (dv 14) jc)))) (je (Jh (DE.s (Av.aB g a (ja (dv 4) (ja (dv 10) (ja (dv 11) jc))))) (Nd rfl (jp 16 i4.nd) (jp 17 i4.nd))) (je (zp (DW.dt (We (j9 (yl (aI.bR a)) Z5 (vb 17) (DE.b (jQ jc))) (We (we (qY (wp (l':= .b) "list" "list" VQ (vb 16) rfl T.az rfl T.eV wI))) (We (j9 (yl (aI.bR a)) Z5 (vb 16) (vb 15)) (Qh (j9 (yl (aI.bR a)) Z5 (vb 11) (vb 14))))))) (ji (jH (zq (l:= .t)))) jR) (je (jr 12 i4.nd (eU xG xH (VD (vb 7) ib) (DE.b (jI jx jN (j6 (l':= .s) j7 wf rfl T.bK iS (ja (vb 14) jc)) bJ)))) (je (jr 13 i4.nd (DE.s (jI jx jN (DE.s (jI jx jN (DE.s (qJ (dv 14) zj (zi (vb 12)))) (DE.s (jQ (ja (Av.call h a (ja (DE.s (Av.aB d a (ja (dv 7) (ja bJ jc)))) (ja (dv 4) (ja (qo (dv 15) (vb 12)) jc)))) jc))))) (DE.s (qJ (dv 14) (zi (DE.b (jI jx jN (dv 12) bJ))) zj))))) (je (zp (j9 (yl (aI.bR a)) Z5 (DE.b (qo (DE.s (Av.aB g a (ja (dv 4) (ja (dv 10) (ja (dv 13) jc))))) ib)) (DE.b (jQ (ja (zq (l:= .s)) (ja (zq (l:= .s)) (ja (zq (l:= .s)) jc)))))) (ji (jH (zq (l:= .t)))) jR) (ji (zp (j9 (yl (aI.bR a)) Z5 (DE.b (qo (DE.s (Av.aB g a (ja (dv 4) (ja (dv 10) (ja (dv 14) jc))))) ib)) (vb 15)) (ji (jH (zq (l:= .t)))) jR)))))))))))))) (ji (jH (Av.aB J a (ja (dv 2) (ja (eU Y3 Kb (vb 1) (kj ib ib)) jc))))))))))
end
section
variable {K:aC} {n:Str} {A:Addr}
def Hr {P:Vi}: ∀c:Str,([]:List Str).contains c=true-> ∀C,eT K c C->P C:=λ_ h=>nomatch h
def t4 {l:List Str} {P:Vi} (e:eT K n A) (p:P A) (r: ∀c,l.contains c=true-> ∀C,eT K c C->P C): ∀c,(n::l).contains c=true-> ∀C,eT K c C->P C:=λc a C d=>by
 rw [F9,Bool.or_eq_true,beq_iff_eq] at a;rcases a with rfl|h
 . cases d.symm.trans e;exact p
 . exact r c h C d
def Hs {P:Addr->Bool->Prop}: ∀(c:Str) b,f6 c []=some b-> ∀C,eT K c C->P C b:=λ_ _ h=>nomatch h
def l6 {v:Bool} {l:List (Str×Bool)} {P:Addr->Bool->Prop} (e:eT K n A) (p:P A v) (r: ∀c b,f6 c l=some b-> ∀C,eT K c C->P C b): ∀c b,f6 c ((n,v)::l)=some b-> ∀C,eT K c C->P C b:=λc b a C d=>by
 by_cases h:c=n
 . subst h;rw [jcp] at a;cases a;cases d.symm.trans e;exact p
 . rw [jco h] at a;exact r c b a C d
end
abbrev l8 (K:aC) (x:Str):Prop:=cT K cc x=some none
abbrev l9 (K:aC) (a b:Addr) (c:Bool):Prop:=lJ K (.ref a) (.ref b)=some c
def all_mk {l:AZ} {w:World} {K:aC} {h:Heap} {j:Vj} {fa Ht:Addr} (c:K.In h) (G:h.Ns cc j) (hfa:j "law" =some (.ref fa))
  {Hu B9:Option Addr} {Hv:Array (Option Value)} {Hw Ca Cb Cc t5 Cd:Value} {T8 T5 T3 T4 T6 T7:Addr} {T2:Addr}
  (d0:bp K "_law_spread" yH)
  (d1:bp K "_law_names" Jr)
  (d2:bp K "places" YV)
  (d3:bp K "parts" UQ)
  (d4:bp K "head" Hc)
  (d5:bp K "all_heads" Qo)
  (d6:bp K "level_below" yG)
  (d7:bp K "is_great" ZP)
  (d8:bp K "is_whole" ZN)
  (d9:bp K "is_blank" ZQ)
  (Hx:bp K "is_name" WZ)
  (Hy:bp K "is_piece" ZO)
  (Hz:bp K "is_term" WX)
  (HA:bp K "blanks" YX)
  (HB:bp K "is_rule" WY)
  (HC:bp K "are_rules" Qn)
  (HD:li K T2 "__init__" "Rules.__init__" zY)
  (HE:bp K "_law_chain" Ju)
  (HF:bp K "_law_wide" Qp)
  (HG:bp K "bounded" W4)
  (DR:bp K "fits_on" W3)
  (HH:bp K "fitting" W0)
  (DU:bp K "put_there" Ql)
  (DV:bp K "exchanged" Qm)
  (HI:bp K "stepped" WW)
  (HJ:li K T2 "is_step" "Rules.is_step" wz)
  (HK:bp K "place_there" yF)
  (HL:bp K "part_there" Jo)
  (HM:bp K "part_stepped_on" wy)
  (HN:li K T2 "walked_on" "Rules.walked_on" zH)
  (HP:li K T2 "walked" "Rules.walked" wY)
  (HQ:bp K "_law_answer" yJ)
  (DX:bp K "paths" UP)
  (HR:li K T2 "steps" "Rules.steps" xD)
  (DY:lj K T2 "end" "Rules.end" yK 200)
  (HS:bp K "_law_too_great" wX)
  (HU:bp K "_law_great" Jt)
  (HV:bp K "_law_mixed" Js)
  (DZ:bp K "_law_term" Qq)
  (HW:bp K "_law_whole" Jp)
  (D0:bp K "_law_blanks" yI)
  (HX:bp K "_law_rule" Qs)
  (HY:bp K "_law_steps" Jq)
  (D1:bp K "_law_size" Qr)
  (HZ:bp K "_law_row" ZR)
  (Ia:li K T2 "told" "Rules.told" yf)
  (Ib:bp K "fit" He)
  (Ie:bp K "_law_bad" ZS)
  (Ig:cT K cc "law" =some (some (.ref Ht))) (Ih:K.lookup Ht=some ⟨Hw,Hu,.func (lM "law" "law" (wG YW) (qa YW) (jf YW) .none Ca Cb Cc B9 t5 Cd),Hv⟩) (Ii:ra K t5 "law" =true) (Ij:iZ K (.ref Ht)=true)
  (z0:l8 K "isinstance")
  (z1:l8 K "bool")
  (z2:l8 K "int")
  (z3:l8 K "all")
  (z4:l8 K "len")
  (z5:l8 K "tuple")
  (z6:l8 K "list")
  (z7:l8 K "sorted")
  (z8:l8 K "set")
  (z9:l8 K "range")
  (Ik:l8 K "sum")
  (Il:l8 K "divmod")
  (Im:l8 K "str")
  (Io:l8 K "zip")
  (Ip:l8 K "enumerate")
  (fV: ∃t,cT K cc "LETTERS" =some (some (.str "abcdefghijklmnopqrstuvwxyz" t)))
  (J: ∃t,cT K cc "MOST_LETTERS" =some (some (.int 8 t)))
  (L: ∃t,cT K cc "MOST_PLACES" =some (some (.int 9 t)))
  (O: ∃t,cT K cc "MOST_BLANK" =some (some (.int 999 t)))
  (N: ∃t,cT K cc "MOST_LEVELS" =some (some (.int 60 t)))
  (Q: ∃t,cT K cc "MOST_PARTS" =some (some (.int 1000 t)))
  (Y: ∃t,cT K cc "MOST_RULES" =some (some (.int 40 t)))
  (J8:cT K cc "Rules" =some (some (.ref T2))) (Q3:AF K T2 Str.empty=true) (Zi:CG K T2=true) (Q2:EK K T2=true) (QV:gW K (.ref T2) "__setattr__" =some (some (.builtin "object.__setattr__")))
  (xI:gW K (.ref T2) "listed" =some none)
  (yg:gW K (.ref T2) "named" =some none)
  (Kh:AH K T2=true) (Kk:iZ K (.ref T2)=true)
  (d:cT K cc "TooGreat" =some (some (.ref T8)))
  (g:cT K cc "NoPath" =some (some (.ref T5)))
  (o:cT K cc "NoRule" =some (some (.ref T3)))
  (p:cT K cc "NoStep" =some (some (.ref T4)))
  (i:cT K cc "TooLong" =some (some (.ref T6)))
  (eX:cT K cc "EndError" =some (some (.ref T7)))
  (cC:o8 K T8)
  (dh:o8 K T5)
  (fB:o8 K T3)
  (cE:o8 K T4)
  (di:o8 K T6)
  (ci:o7 K (.ref T5) (.ref T5)=some true)
  (q:o7 K (.ref T8) (.ref T7)=some true)
  (u:o7 K (.ref T5) (.ref T7)=some true)
  (y:o7 K (.ref T3) (.ref T7)=some true)
  (z:o7 K (.ref T4) (.ref T7)=some true)
  (r:o7 K (.ref T6) (.ref T7)=some true)
  (b9:T5≠dC)
  (dj:T4=dC)
  (cF:gj K T8)
  (E:gj K T5)
  (H:gj K T3)
  (I:gj K T4)
  (B:gj K T6)
  (wv:l9 K T8 T5 false)
  (xB:l9 K T5 T5 true)
  (xA:l9 K T3 T5 false)
  (xz:l9 K T4 T5 false)
  (wW:l9 K T6 T5 false)
  (zG:l9 K T8 T8 true)
  (wt:l9 K T5 T8 false)
  (wr:l9 K T3 T8 false)
  (wq:l9 K T4 T8 false)
  (zW:l9 K T6 T8 false)
  (wu:l9 K T8 T4 false)
  (xy:l9 K T5 T4 false)
  (xx:l9 K T3 T4 false)
  (xw:l9 K T4 T4 true)
  (wV:l9 K T6 T4 false)
  : ∃fd:mH,(∀(s:aM) (v:Value),BindsTo s fd ⟨[v],[]⟩ [("_law_script",v)])/\ ∀a:Heap,K.In a->a.Ns cc j->bX l.prog w K j a gq 72 fa fd ["_law_script"] (nD K true 1 oB):=by
 have e:=hfa.symm.trans (j1 c G Ig);cases e;have T:Gm K T8 T5 T3 T4 T6 T7 j:=⟨ma c G z0,ma c G z1,ma c G z2,ma c G z3,ma c G z4,ma c G z5,ma c G z6,ma c G z7,ma c G z8,ma c G z9,ma c G Ik,ma c G Il,ma c G Im,ma c G Io,ma c G Ip,fV.imp λ_ h=>j1 c G h,J.imp λ_ h=>j1 c G h,L.imp λ_ h=>j1 c G h,O.imp λ_ h=>j1 c G h,N.imp λ_ h=>j1 c G h,Q.imp λ_ h=>j1 c G h,Y.imp λ_ h=>j1 c G h,⟨T2,J8,⟨Q3,Zi,Q2,QV⟩,xI⟩,⟨T2,J8,⟨Q3,Zi,Q2,QV⟩,yg⟩,j1 c G d,j1 c G g,j1 c G o,j1 c G p,j1 c G i,j1 c G eX,d,cC,g,dh,o,fB,p,cE,i,di,(t4 g ci Hr),(t4 d q (t4 g u (t4 o y (t4 p z (t4 i r Hr))))),(t4 g b9 Hr),dj,(l6 d ⟨cF,wv⟩ (l6 g ⟨E,xB⟩ (l6 o ⟨H,xA⟩ (l6 p ⟨I,xz⟩ (l6 i ⟨B,wW⟩ Hs))))),(l6 d ⟨cF,zG⟩ (l6 g ⟨E,wt⟩ (l6 o ⟨H,wr⟩ (l6 p ⟨I,wq⟩ (l6 i ⟨B,zW⟩ Hs))))),(l6 d ⟨cF,wu⟩ (l6 g ⟨E,xy⟩ (l6 o ⟨H,xx⟩ (l6 p ⟨I,xw⟩ (l6 i ⟨B,wV⟩ Hs)))))⟩
 have U:=Lz (st:=YW) Ih Ii Ij;have yb:cT K cc "Rules" =some (some (.ref T2))/\f7 K T2:=⟨J8,Q3,Zi,Q2,QV⟩
 refine ⟨lM "law" "law" (wG YW) (qa YW) (jf YW) .none Ca Cb Cc B9 t5 Cd,λs v=> .of_eq rfl,λa _ _=>?_⟩;have V0:Jb l.prog w K j a 1 wl:=X3 (k:=0) T (d0.dx c G lz);have V1:JS l.prog w K j a 1 ye:=Y7 (k:=0) T (d1.dx c G gl);have V2:yd l.prog w K j a 1 jP:=jb5 (k:=0) T (d2.dx c G gl)
 have V3: ∀n,QH l.prog w K j a (1+n) (qy n):=by
  intro n
  induction n with
  |zero=>exact kR true (d3.dx c G gl)
  |succ n ih=>exact jey (k:=1+n) T (d3.dx c G gl) (V2.mono (by omega)) ih
 have V4:uP l.prog w K j a 1 xf:=jhj (k:=0) T (d4.dx c G gl);have V5:QJ l.prog w K j a 66 Jd:=Vx (k:=65) T (d5.dx c G gl) ((V3 64).mono (by decide)) (V4.mono (by decide));have V6:y9 l.prog w K j a 2 qV:=X2 (k:=1) T (d6.dx c G gl) (V2.mono (by decide));have V7:Qa l.prog w K j a 3 xu:=kf (k:=2) T (d7.dx c G gl) (V6.mono (by decide));have V8:yy l.prog w K j a 1 qd:=ka (k:=0) T (d8.dx c G gl);have V9:Wi l.prog w K j a 2 xv:=kg (k:=1) T (d9.dx c G gl) (V8.mono (by decide));have V10:XY l.prog w K j a 1 JV:=jat (k:=0) T (Hx.dx c G gl);have V11:Wh l.prog w K j a 3 yA:=ke (k:=2) T (Hy.dx c G gl) (V9.mono (by decide)) (V10.mono (by decide));have V12:XW l.prog w K j a 66 ZD:=jar (k:=65) T (Hz.dx c G gl) (V7.mono (by decide)) (V11.mono (by decide)) ((V3 64).mono (by decide));have V13:K0 l.prog w K j a 66 K1:=jb6 (k:=65) T (HA.dx c G gl) ((V3 64).mono (by decide));have V14:XX l.prog w K j a 67 ZE:=jas (k:=66) T (HB.dx c G gl) (V12.mono (by decide)) (V13.mono (by decide));have V15:QI l.prog w K j a 68 xR:=Vw (k:=67) T (HC.dx c G gl) (V14.mono (by decide));have NS:zc l.prog w K j a 69 j8:=Qv (k:=68) T (HD.dm lz) yb (j1 c G J8) ⟨Kh,Kk⟩ (V5.mono (by decide)) (V15.mono (by decide));have V17:JU l.prog w K j a 1 zS:=Ka (k:=0) T (HE.dx c G lz);have V18:QK l.prog w K j a 2 zP:=Vy (k:=1) T (HF.dx c G oA) (V17.mono (by decide));have Ce:yz l.prog w K j a 4 jY:=jaw (k:=3) T (HG.dx c G gl) (V7.mono (by decide))
 have V20: ∀n,ZB l.prog w K j a (1+n) (jT n):=by
  intro n
  induction n with
  |zero=>exact jko (DR.dx c G oA) rfl
  |succ n ih=>exact jav (k:=1+n) T (DR.dx c G oA) (V4.mono (by omega)) (V2.mono (by omega)) ih
 have Iq:JQ l.prog w K j a 66 qp:=jau (k:=65) T (HH.dx c G lz) ((V20 64).mono (by decide))
 have V22: ∀n,y7 l.prog w K j a (0+n) (wL n):=by
  intro n
  induction n with
  |zero=>exact kR false (DU.dx c G oA)
  |succ n ih=>exact Vu (k:=0+n) T (DU.dx c G oA) ih
 have V23: ∀n,Ja l.prog w K j a (1+n) (zO n):=by
  intro n
  induction n with
  |zero=>exact kR false (DV.dx c G lz)
  |succ n ih=>exact Vv (k:=1+n) T (DV.dx c G lz) ih (V2.mono (by omega))
 have NT:ZA l.prog w K j a 66 qZ:=jaq (k:=65) T (HI.dx c G G4) (Ce.mono (by decide)) ((V22 64).mono (by decide)) ((V23 64).mono (by decide));have V25:wK l.prog w K j a 2 j3:=Q9 (k:=1) T (HJ.dm lz) yb (V8.mono (by decide));have V26:y8 l.prog w K j a 2 qu:=X1 (k:=1) T (HK.dx c G lz) (V2.mono (by decide)) (V8.mono (by decide));have V27:JP l.prog w K j a 3 qj:=Y4 (k:=2) T (HL.dx c G lz) (V26.mono (by decide));have V28:wJ l.prog w K j a 4 jM:=Q8 (k:=3) T (HM.dx c G lz) (V27.mono (by decide));have V29:xQ l.prog w K j a 67 jh:=Qc (k:=66) T (HN.dm oA).x yb (Iq.mono (by decide)) (NT.mono (by decide)) (V25.mono (by decide)) (V28.mono (by decide));have V30:Jj l.prog w K j a 68 jL:=Z4 (k:=67) T (HP.dm oA).x yb (Ce.mono (by decide)) (V29.mono (by decide));have NU:xt l.prog w K j a 69 jE:=X5 (k:=68) T (HQ.dx c G oA) (V30.mono (by decide))
 have V32: ∀n,KZ l.prog w K j a (1+n) (w6 n):=by
  intro n
  induction n with
  |zero=>exact kR true (DX.dx c G gl)
  |succ n ih=>exact jex (k:=1+n) T (DX.dx c G gl) (V2.mono (by omega)) ih
 have D2:wj l.prog w K j a 67 jt:=WA (k:=66) T (HR.dm lz).x yb ((V32 64).mono (by decide)) ((V3 64).mono (by decide)) (Iq.mono (by decide)) (NT.mono (by decide));have V34:ZC l.prog w K j a 68 qX:=Qf (k:=67) T DY.d3 yb (D2.mono (by decide)) (Ce.mono (by decide));have W34:Qi l.prog w K j a 68 qX:=Qf (k:=67) T DY.d2 yb (D2.mono (by decide)) (Ce.mono (by decide));have V35:w5 l.prog w K j a 69 q8:=Z3 (k:=68) T (HS.dx c G oA) (D2.mono (by decide)) (V34.mono (by decide)) (W34.mono (by decide));have V36:JT l.prog w K j a 71 zR:=Y9 (k:=70) T (HU.dx c G lz) NS (by decide) (V18.mono (by decide)) (NU.mono (by decide)) (V35.mono (by decide));have D3:zQ l.prog w K j a 1 jB:=Y8 (k:=0) T (HV.dx c G lz)
 have NV: ∀n,xP l.prog w K j a (1+n) (jW n):=by
  intro n
  induction n with
  |zero=>exact kR false (DZ.dx c G G4)
  |succ n ih=>exact Vz (k:=1+n) T (DZ.dx c G G4) ih (D3.mono (by omega))
 have Ir:wS l.prog w K j a 1 jX:=Y5 (k:=0) T (HW.dx c G gl)
 have V40: ∀n,xr l.prog w K j a (1+n) (jU n):=by
  intro n
  induction n with
  |zero=>exact kR true (D0.dx c G gl)
  |succ n ih=>exact X4 (k:=1+n) T (D0.dx c G gl) (Ir.mono (by omega)) ih
 have V41:QL l.prog w K j a 66 wM:=VB (k:=65) T (HX.dx c G lz) ((NV 6).mono (by decide)) (Ir.mono (by decide)) (D3.mono (by decide)) ((V40 64).mono (by decide));have V42:JR l.prog w K j a 68 wT:=Y6 (k:=67) T (HY.dx c G lz) (D2.mono (by decide))
 have V43: ∀n,Jc l.prog w K j a (1+n) (qW n):=by
  intro n
  induction n with
  |zero=>exact kR true (D1.dx c G gl)
  |succ n ih=>exact VA (k:=1+n) T (D1.dx c G gl) (Ir.mono (by omega)) ih
 have V44:Wj l.prog w K j a 69 yB:=kh (k:=68) T (HZ.dx c G oA) (V42.mono (by decide)) (D3.mono (by decide)) ((V43 64).mono (by decide));have V45:yj l.prog w K j a 1 zB:=Xi (k:=0) T (Ia.dm gl) yb;have V46:Ho l.prog w K j a 67 Ag:=jjt (k:=66) T (Ib.dx c G lz) (Iq.mono (by decide)) (Ce.mono (by decide));have V47:Wl l.prog w K j a 68 yC:=ki (k:=67) T (Ie.dx c G oA) (V45.mono (by decide)) (V46.mono (by decide));exact jjs (k:=71) T U (V0.mono (by decide)) (V1.mono (by decide)) NS (by decide) (V36.mono (by decide)) (V41.mono (by decide)) (V44.mono (by decide)) (NU.mono (by decide)) (D3.mono (by decide)) ((NV 6).mono (by decide)) (V47.mono (by decide))
end G
namespace G
open PySem PySem.Spec L2 M
open Builtin.Int (intBits)
local macro_rules | `(tactic| decreasing_trivial) => `(tactic| first
  | (dsimp only [List.set, jbt, jbq, jbs, jbp, jd6, jbr, jbo, jbn])
  | (with_reducible (show _ = _; assumption))
  | (with_reducible first | apply jD | apply YT | apply NF | apply jk6 | apply qA | apply Jv | apply jkV | apply jk | apply jg | apply jjz | apply jlc | apply jlb | apply jo | apply JO | apply xa | apply VJ | apply VP | apply jG | apply qQ | apply FS | apply Wz | apply qP | apply xg | apply Xr | apply NE | apply G9 | apply jkq | apply ji2 | apply yn | apply jh8 | apply jfa | apply vT | apply om | apply tX | apply ku | apply jeE | apply jgR | apply jhd | apply jet | apply jk0 | apply jk8 | apply B1 | apply jjZ | apply jhZ | apply jgD | apply NH | apply Ha | apply Mh | apply jfy | apply KP | apply jjS | apply jdY | apply jfC)
  | ((with_reducible apply jkJ); exact rfl) | ((with_reducible apply jkK); exact rfl)
  | ((with_reducible show bS _ _ = _); first | exact jkS | exact jkR | exact jkQ | exact jjp | exact jjo)
  | ((with_reducible show cD _ = _); exact rfl)
  | ((with_reducible show F6 _ = _); exact rfl)
  | ((with_reducible show dW _ _ = _); exact rfl)
  | ((with_reducible show bo _ = _); exact rfl)
  | ((with_reducible show List.contains _ _ = _); exact rfl)
  | ((with_reducible show m8 _ _ _ = _); exact rfl)
  | ((with_reducible show getElem? _ _ = _); exact rfl)
  | ((with_reducible show List.length _ = _); exact rfl)
  | ((with_reducible show zZ _ = _); exact rfl)
  | ((with_reducible show A5 _ = _); exact rfl)
  | ((with_reducible show ri _ _ = _); exact rfl)
  | ((with_reducible show m3 _ _ = _); exact rfl)
  | ((with_reducible show e9 _ _ _ = _); exact rfl)
  | ((with_reducible show Ye _ = _); exact rfl)
  | ((with_reducible show VL _ = _); exact rfl)
  | ((with_reducible show aK _ _ = _); exact rfl)
  | ((with_reducible show mS _ _ _ = _); exact rfl)
  | ((with_reducible show gf _ _ _ _ = _); exact rfl)
  | ((with_reducible show ite _ _ _ = _); first | refine NG (by first | rfl | assumption) ?_ | refine jkZ (by first | rfl | assumption) ?_)
  | ((with_reducible show _ < _); first | omega | (simp only [bN, eM, dr, dQ]; omega)) | ((with_reducible show _ <= _); first | omega | (simp only [bN, eM, dr, dQ]; omega)) | ((with_reducible show _ /\ _); omega))
local macro_rules | `(tactic| decreasing_with $t) => `(tactic| (apply Eq.trans (b := al.ok _); (repeat' decreasing_trivial); all_goals (try ($t))))
def gR:Str:= "abcdefghijklmnopqrstuvwxyz"
def p5 (x:D) (r:List D):cutD (x::r) (some 1) none=r:=by
 have a:HT.bG (x::r).length 0 (some 1)=1:=by
  have:=HT.gp (x::r).length 0 1;simp only [bN] at this ⊢;exact this.trans (by omega)
 unfold cutD;rw [a,HT.fj];simp
def Qt {d:D} (h:Zb d=true):jP [d]= .ok (.ak (bc d)):=by
 cases d with
 |ak a=>
  cases a with
  |nil=>rfl
  |cons x r=>
   show al.ok (D.ak (cutD (x::r) (some 1) none))=_;rw [p5];rfl
 |_=>first|rfl|cases h
def VN {c:List D} (h:br c=true) (p:c.length<=1000):qV [.ai c]= .ok (.ai (xq c)):=by
 have l:=XF (body:=wx (gN 2) (zw 1 (jj 1 jP (jb (ag 2) ae)))) (λ(a:List D×Slot)=>[.ah (.ai c),.aw (.ai a.1),a.2]) (λa d=>(a.1++bc d,.ah d)) (λg a=>br g=true/\a.1.length+(xq g).length<=10000) (λd g a ⟨j,n⟩=>by
  simp only [br,dR] at j;have e:xq (d::g)=bc d++xq g:=rfl;rw [e,dr] at n;refine ⟨?_,j.2,by simp only [dr];omega⟩;show zw 1 (jj 1 jP (jb (ag 2) ae)) [.ah (.ai c),.aw (.ai a.1),.ah d]=_;show (al.ok a.1>>=λg=>jP [d]>>=_)=_;rw [Qt (Zl j.1)]
  exact jn (dG (by omega:_<=10000) (by decide))) c ([],.un) ⟨h,by have:=TD h;simp only [eM];omega⟩
 have i: ∀(g:List D) (a:List D×Slot),(g.foldl (λ(a:List D×Slot) d=>(a.1++bc d,Slot.ah d)) a).1=a.1++xq g:=by
  intro g
  induction g with
  |nil=>intro a;simp [xq]
  |cons d g o=>intro a;rw [List.foldl_cons,o];simp [xq]
 have e1:xk jP (qg 3 [.ai c])= .ok (.rt true (.ai (xq c))):=by
  unfold xk;have j:qg 3 [.ai c]=[.ah (.ai c),.un,.un]:=rfl;rw [j];show (bh (wx (gN 2) (zw 1 (jj 1 jP (jb (ag 2) ae)))) c [.ah (.ai c),.aw (.ai []),.un]>>=_)=_;rw [l];show al.ok (aT.rt true (D.ai (c.foldl (λ(a:List D×Slot) d=>(a.1++bc d,Slot.ah d)) ([],.un)).1))=_;rw [i];simp
 exact JI e1
def Yx:Sl->al aT:=(aq (jw 2 (ap (ag 2) (cI 1) (mS λi j=>i+j)))
 (aq (jw 3 (ap (ag 3) (app (jb (ag 1) ae) bo) (mS λi j=>i+j)))
 (aq (bW (g8 (aW (ap (ag 2) (cI 60) nH)) (aW (ap (ag 3) (cI 1000) nH))) (aJ (cB true)) bF)
 (jw 1 (jj 1 qV (jb (ag 1) ae))))))
def jaG {d:D} {a:List D} {dp ct:Nat} (h:br a=true):Yx [.ah d,.ah (.ai a),.ah (.int dp),.ah (.int ct)]=if 60<dp+1\/1000<ct+a.length then .ok (.rt true (.bl true)) else .ok (.nx [.ah d,.ah (.ai (xq a)),.ah (.int ((dp+1:Nat):Int)),.ah (.int ((ct+a.length:Nat):Int))]):=by
 have c:Yx [.ah d,.ah (.ai a),.ah (.int dp),.ah (.int ct)]=((if decide ((60:Int)< (dp:Int)+1)=true then al.ok true else al.ok (decide ((1000:Int)< (ct:Int)+a.length)))>>=λb=>(if b=true then al.ok (aT.rt true (.bl true)) else al.ok (.nx [.ah d,.ah (.ai a),.ah (.int ((dp:Int)+1)),.ah (.int ((ct:Int)+a.length))])))>>=iK (jw 1 (jj 1 qV (jb (ag 1) ae))):=by
   unfold Yx;rw [yt,WN];show (aq _ _) _=_;rw [yt];rfl
 rw [c]
 by_cases e:60<dp+1
 . rw [if_pos (by simp;omega),if_pos (.inl e)];rfl
 . rw [if_neg (by simp;omega)]
   by_cases g:1000<ct+a.length
   . rw [if_pos (.inr g)];have:decide ((1000:Int)< (ct:Int)+a.length)=true:=by simp;omega
     rw [this];rfl
   . rw [if_neg (by omega)];have:decide ((1000:Int)< (ct:Int)+a.length)=false:=by simp;omega
     rw [this];show (qV [.ai a]>>=_)=_;rw [VN h (by omega)];show al.ok (aT.nx [.ah d,.ah (.ai (xq a)),.ah (.int ((dp:Int)+1)),.ah (.int ((ct:Int)+a.length))])=_;simp
theorem Yw (d:D): ∀(n:Nat) (a:List D) (c e:Nat),br a=true->c<=60->e<=1000->62<=c+n->
  ((60<c+bj a\/1000<e+nums a)->zX n (mR (ag 1)) Yx [.ah d,.ah (.ai a),.ah (.int c),.ah (.int e)]= .ok (.rt true (.bl true)))/\
  (¬(60<c+bj a\/1000<e+nums a)-> ∃env,zX n (mR (ag 1)) Yx [.ah d,.ah (.ai a),.ah (.int c),.ah (.int e)]= .ok (.nx env))
 |0,_,c,e,_,o,_,p=>by omega
 |n+1,a,c,e,i,o,p,v=>by
  cases a with
  |nil=>
   simp only [bj,nums];exact ⟨λh=>by omega,λ_=>⟨_,Ya rfl⟩⟩
  |cons x r=>
   have g:=jaG (d:=d) (dp:=c) (ct:=e) i;have q:=TC (x::r) (by simp);have u:=TB (x::r)
   by_cases j:60<c+1\/1000<e+(x::r).length
   . rw [if_pos j] at g;exact ⟨λ_=>K5 rfl g,λh=>absurd (show 60<c+bj (x::r)\/1000<e+nums (x::r) by omega) h⟩
   . rw [if_neg j] at g;have l:=Yw d n (xq (x::r)) (c+1) (e+(x::r).length) (kG i) (by omega) (by omega) (by omega);rw [K6 rfl g,q,u]
     constructor
     . intro h;exact l.1 (by omega)
     . intro h;exact l.2 (by omega)
def bw (d:D):Bool:=decide (60<ba d\/1000<num d)
def NW {d:D} (h:bT d=true):xu [d]= .ok (.bl (bw d)):=by
 have a:=Yw d 2000 [d] 0 0 (by simp [br,h]) (by omega) (by omega) (by omega);have e1:bj [d]=ba d:=by simp [bj]
 have e2:nums [d]=num d:=by simp [nums]
 rw [e1,e2] at a;simp only [yD] at a
 have e:J2 qV (qg 4 [d])=(zX 2000 (mR (ag 1)) Yx [.ah d,.ah (.ai [d]),.ah (.int ((0:Nat):Int)),.ah (.int ((0:Nat):Int))]>>=iK (aJ (cB false))):=by
   unfold J2;rw [yt];show (aq _ _) _=_;rw [yt];rfl
 by_cases c:60<ba d\/1000<num d
 . have:bw d=true:=by simp [bw,c]
   rw [this];refine JI (o:= .rt true (.bl true)) ?_;rw [e,a.1 c];rfl
 . have:bw d=false:=by simp [bw];omega
   rw [this];obtain ⟨g,i⟩:=a.2 c;refine JI (o:= .rt true (.bl false)) ?_;rw [e,i];rfl
theorem uK {cs:List Slot} {g:T1} (R:D->Prop) (P:D->Prop) (j: ∀d a,P d-> ∃t,g (.ah d::(cs++[.aw (.ai a)]))= .ok t/\R t):
  ∀(ds:List D) (x:Slot) (a:List D),(∀d∈ds,P d)->a.length+ds.length<=aP->(∀t∈a,R t)->
   ∃(y:Slot) (c:List D),wn (1+cs.length) (gN 0) qz g ds (x::(cs++[.aw (.ai a)]))= .ok (y::(cs++[.aw (.ai c)]))/\c.length=a.length+ds.length/\ ∀t∈c,R t
 | [],x,a,_,_,i=>⟨x,a,rfl,by simp,i⟩
 |d::ds,x,a,l,n,i=>by
  simp only [bN] at n;obtain ⟨t,o,p⟩:=j d a (l d (by simp))
  obtain ⟨y,c,q,r,v⟩:=uK R P j ds (.ah d) (a++[t]) (λe w=>l e (by simp [w])) (by simp only [dr,bN,eM];omega) (λu z=>by
   rcases mD.mp z with h|h
   . exact i u h
   . simp only [bA,ei,or_false] at h
     rw [h];exact p)
  refine ⟨y,c,?_,by rw [r];simp only [dr,bN,eM];omega,v⟩
  have e1:bZ (1+cs.length) (.ah d::(cs++[.aw (.ai a)]))= .ok a:=by
   unfold bZ;rw [show (1+cs.length)=cs.length+1 by omega,o6,gP (bg _)];simp
  have e2:(Slot.ah d::(cs++[Slot.aw (.ai a)])).set (1+cs.length) (.aw (.ai (a++[t])))= .ah d::(cs++[.aw (.ai (a++[t]))]):=by
   rw [show (1+cs.length)=cs.length+1 by omega,Cf,List.set_append_right _ _ (bg _)];simp
  show (g (.ah d::(cs++[.aw (.ai a)]))>>=_)=_;rw [o];show (bZ (1+cs.length) (.ah d::(cs++[.aw (.ai a)]))>>=_)=_;rw [e1];show aY _ _=_;rw [jn (by omega)];show wn _ _ _ _ ds ((Slot.ah d::(cs++[Slot.aw (.ai a)])).set (1+cs.length) (.aw (.ai (a++[t]))))=_;rw [e2,q]
def NX {js:List Nat} {fi:TY} {fe:T1} {env:Sl} {ds:List D} {cs:List Slot} (R:D->Prop) (P:D->Prop) (i:js.map (kv false env)=cs) (j:fi env= .ok ds) (l: ∀d∈ds,P d) (n:ds.length<=aP)
  (o: ∀d g,P d-> ∃t,fe (.ah d::(cs++[.aw (.ai g)]))= .ok t/\R t): ∃a,zN false 1 js fi (gN 0) qz fe env= .ok (.ai a)/\a.length=ds.length/\ ∀t∈a,R t:=by
 obtain ⟨y,a,p,q,r⟩:=uK R P o ds .un [] l (by simpa using n) (λ_ h=>by cases h);refine ⟨a,?_,by simpa using q,r⟩;have e:js.length=cs.length:=by rw [<-i];simp
 show (fi env>>=_)=_;rw [j];show (wn (1+js.length) (gN 0) qz fe ds (yx false 1 js env)>>=_)=_
 have u:yx false 1 js env= .un::(cs++[.aw (.ai [])]):=by
  unfold yx;rw [i];rfl
 rw [u,e,p];show (bZ (1+cs.length) (y::(cs++[.aw (.ai a)]))>>=_)=_
 have e1:bZ (1+cs.length) (y::(cs++[.aw (.ai a)]))= .ok a:=by
  unfold bZ;rw [show (1+cs.length)=cs.length+1 by omega,o6,gP (bg _)];simp
 rw [e1];exact jn (c:=false=true->D.dS a=true) (λh=>by cases h)
def Ak {a c:T1} {env:Sl} {i j:Int} (d:a env= .ok (.int i)) (e:c env= .ok (.int j)) (g:0<j/\j<1073741824):app (jb a (jb c ae)) zx env= .ok (.ak [.int (i/j),.int (i%j)]):=
 JO (jg d (jg e rfl)) (jn g)
def Wg {f:T1} {env:Sl} {a b:Nat} {x y:D} (h:f env= .ok (.ak [x,y])):cw f (g2 (gN a) (gN b)) env= .ok (.nx ((env.set a (.ah x)).set b (.ah y))):=by
 show (f env>>=_)=_;rw [h];rfl
def Xl {a c:T1} {env:Sl} {i j:Int} (d:a env= .ok (.int i)) (e:c env= .ok (.int j)) (g:0<j):ap a c a7 env= .ok (.int (i%j)):=jk d e (yn g)
def Jz {c d:T1} {env:Sl} {i j:Int} {a b:Nat} (e:c env= .ok (.int i)) (g:d env= .ok (.int j)) (h:i.natAbs<2^a) (l:j.natAbs<2^b) (n:a+b<=134217728):ap c d gD env= .ok (.int (i*j)):=
 jk e g (TF (show intBits i+intBits j<=134217728 from dG (Nat.add_le_add (PySem.intBits_le_iff.mpr h) (PySem.intBits_le_iff.mpr l)) n))
def y6 {a c:T1} {env:Sl} {i j:Int} (d:a env= .ok (.int i)) (e:c env= .ok (.int j)):ap a c aK env= .ok (.int (i+j)):=jk d e rfl
def Wp (c k:Int) (g:0<=k/\k<=1000): ∃m:Int,wl [.int c,.int k]= .ok (.int m)/\0<=m/\m<2^140:=by
 have d:ap (cI 10) (cI 40) bS [.ah (.int c),.ah (.int k),.un]= .ok (.int (10^40)):=jk rfl rfl (Xb (by decide))
 have e:(k*k).natAbs<2^21:=by
  rw [Int.natAbs_mul];have:k.natAbs<=1000:=by omega
  have:=Nat.mul_le_mul this this;omega
 refine ⟨(c%(10^40+121)*31415926535897932384626433832795+(k*k+3*k+7)*2718281828459045235360287471)%(10^40+121),zy ?_,by omega,by omega⟩;show xl [.ah (.int c),.ah (.int k),.un]=_;unfold xl;rw [jl ((jD (y6 d rfl)))];refine qA (Xl (y6 (Jz (a:=140) (b:=120) (Xl rfl rfl (by omega)) rfl (by omega) (by omega) (by omega)) (Jz (a:=30) (b:=120) (y6 (y6 (Jz (a:=30) (b:=30) rfl rfl (by omega) (by omega) (by omega)) (Jz (a:=30) (b:=30) rfl rfl (by omega) (by omega) (by omega))) rfl) rfl (by omega) (by omega) (by omega))) rfl (by omega))
def isNm:D->Bool| .str z=>(decide (1<=(z.length:Int))&&decide ((z.length:Int)<=8))&&z.cps.toList.all (λc=>pQ ⟨#[c]⟩ gR)|_=>false
def Kl (z:Str):isNm (.str z)=((decide (1<=(z.length:Int))&&decide ((z.length:Int)<=8))&&z.cps.toList.all (λc=>pQ ⟨#[c]⟩ gR)):=rfl
def uO {a:Type} (l:List a) (p:a->Bool):k4 [.ai (l.map λc=>D.bl (p c))]= .ok (.bl (l.all p)):=by
 have:l.map (λc=>D.bl (p c))=(l.map p).map D.bl:=by simp
 rw [this];show (match X8 ((l.map p).map D.bl) with|some bs=>al.ok (D.bl (bs.all id))|none=>al.aj)=_;rw [S6];simp
def jbv (z:Str):(YS z).length=z.length:=by simp [YS,Str.length]
def jjB {d:D} (h:Zb d=true):JV [d]= .ok (.bl (isNm d)):=by
 cases d with
 |str z=>
  have e1:JC (qg 1 [.str z])= .ok (.rt true (.bl (isNm (.str z)))):=by
   have p:qg 1 [.str z]=[.ah (.str z)]:=rfl;rw [p];have l:dW "str" (.str z)= .ok (.bl true):=rfl;have n:bo [.str z]= .ok (.int z.length):=rfl;rw [Kl]
   by_cases o:(z.length:Int)<=8
   . have i:zN false 1 [] (dU (ag 0)) (gN 0) qz (ap (ag 0) (cS "abcdefghijklmnopqrstuvwxyz") inD) [.ah (.str z)]= .ok (.ai ((YS z).map λd=>D.bl (match d with| .str c=>pQ c gR|_=>false))):=by
      refine FL _ (λd=> ∃c,d= .str c) rfl (by intro d r;obtain ⟨c,_,e⟩:=hG.mp r;exact ⟨_,e.symm⟩) (by rw [jbv];exact dG (by omega:z.length<=8) (by decide)) ?_;rintro d u ⟨c,e⟩;subst e;rfl
     have a:(YS z).all (λd=>match d with| .str c=>pQ c gR|_=>false)=(z.cps.toList.all (λc=>pQ ⟨#[c]⟩ gR)):=by
      simp only [YS,List.all_map];rfl
     have g:decide ((z.length:Int)<=8)=true:=by simp;omega
     generalize z.cps.toList.all (λc=>pQ ⟨#[c]⟩ gR)=q at a ⊢;simp only [JC,l,n,i,yt,Yz,Uc,kH,uo,yV,FQ,Ud,yW,kI,xp,ul,FN,FR,XJ,Mc,Mb,kJ,FP,FM,L9,U8,Iu,kW,if_true,Ae,pV,if_false,decide_eq_true_eq,WO,uL,uO,a]
     by_cases j:(1:Int)<=z.length<;>simp [j,o]
   . have g:decide ((z.length:Int)<=8)=false:=by simp;omega
     simp only [JC,l,n,yt,Yz,Uc,kH,uo,yV,FQ,Ud,yW,kI,xp,ul,FN,FR,XJ,Mc,Mb,kJ,FP,FM,L9,U8,Iu,kW,if_true,Ae,pV,if_false,decide_eq_true_eq,WO,uL]
     by_cases j:(1:Int)<=z.length<;>simp [j,o,g]
  exact JI e1
 |_=>first|rfl|cases h
def nK (z:Str):Prop:= ∀c∈z.cps.toList,pQ ⟨#[c]⟩ gR=true
def kz {a b:Str} (d:nK a) (e:nK b):nK (a++b):=λc g=>by
 have h:c∈(a.cps++b.cps).toList:=g;rw [Array.toList_append,mD] at h;exact h.elim (d c) (e c)
def NY {z:Str} (lo d:Option Int) (h:nK z):nK (fu z lo d):=λc a=>by
 unfold fu at a
 split at a
 . exact h c a
 . simp only [Ax] at a;obtain ⟨i,_,d⟩:=a;exact h c (by rw [<-FU] at d;exact lu d)
def jiw:nK gR:=by
 intro c a;have:gR.cps.toList.all (λc=>pQ ⟨#[c]⟩ gR)=true:=by decide+kernel
 exact mP.mp this c a
def Iv {z:Str} {i:Int} (a:0<=i) (d:i<z.length): ∃c,aX (.str z) (.int i)= .ok (.str ⟨#[c]⟩)/\c∈z.cps.toList:=by
 obtain ⟨c,e,g⟩:=Mi (xs:=z.cps.toList) a (by simpa [Str.length] using d);exact ⟨c,by simp only [aX];rw [e],g⟩
def NZ {c:Nat} (h:c∈gR.cps.toList):nK ⟨#[c]⟩:=λx a=>by
 have:x=c:=by simpa using a
 rw [this];exact jiw c h
def jjP (i:Int) (n:Nat) (h:0<=i):(nG none (some i) 1 n).length<=i.toNat:=by
 unfold nG sliceRange;simp only [show (1:Int)>0 by decide,if_true,dQ,List.length_range]
 split<;>(try split)<;>(try split)<;>(try simp only [Int.ediv_one])<;>omega
def jjQ (i:Int) (n:Nat) (h:0<=i):(nG (some i) none 1 n).length<=n-i.toNat:=by
 unfold nG sliceRange;simp only [show (1:Int)>0 by decide,if_true,dQ,List.length_range]
 split<;>(try split)<;>(try split)<;>(try simp only [Int.ediv_one])<;>omega
def N0 (z:Str) (lo a:Option Int):(fu z lo a).length<=(nG lo a 1 z.length).length:=by
 unfold fu
 split
 . rename_i h;rw [beq_iff_eq] at h;omega
 . show ((nG lo a 1 z.length).filterMap (z.cps[·]?)).toArray.size<=_;rw [cb];exact List.length_filterMap_le _ _
def jhy {z:Str} (a:1<=z.length) (c:z.length<=8) (h:nK z):isNm (.str z)=true:=by
 rw [Kl];simp only [dR,decide_eq_true_eq,mP];exact ⟨⟨by omega,by omega⟩,h⟩
def jix:gR.length=26:=by decide
def t6:20000<=aP:=by decide
def jz {k:Nat} (h:k<=20000):k<=aP:=dG h t6
def jiy:gR.cps.toList=List.range' 97 26:=by decide
def N1 {i:Int} (a:0<=i) (d:i<26):aX (.str gR) (.int i)= .ok (.str ⟨#[97+i.toNat]⟩)/\nK ⟨#[97+i.toNat]⟩:=by
 obtain ⟨k,rfl⟩:=FT a;have c:k<26:=by omega
 have e:gR.cps.toList[k]?=some (97+k):=by rw [jiy,List.getElem?_range' (by simpa using c)];simp
 refine ⟨?_,NZ ?_⟩
 . simp only [aX];rw [M.cm,e];rfl
 . exact lu e
theorem uJ {cs:List Slot} {c:T1} (h:D->D) (P:D->Prop) (g: ∀d a,P d->c (.ah d::(cs++[.aw (.ai a)]))= .ok (h d)):
  ∀(ds:List D) (x:Slot) (a:List D),(∀d∈ds,P d)->a.length+ds.length<=aP->
   ∃(y:Slot),wn (1+cs.length) (gN 0) qz c ds (x::(cs++[.aw (.ai a)]))= .ok (y::(cs++[.aw (.ai (a++ds.map h))]))
 | [],x,a,_,_=>⟨x,by simp [wn]⟩
 |d::ds,x,a,i,j=>by
  simp only [bN] at j;have l:=g d a (i d (by simp));obtain ⟨y,n⟩:=uJ h P g ds (.ah d) (a++[h d]) (λe o=>i e (by simp [o])) (by simp only [dr,bN,eM];omega);refine ⟨y,?_⟩
  have e1:bZ (1+cs.length) (.ah d::(cs++[.aw (.ai a)]))= .ok a:=by
   unfold bZ;rw [show (1+cs.length)=cs.length+1 by omega,o6,gP (bg _)];simp
  have e2:(Slot.ah d::(cs++[Slot.aw (.ai a)])).set (1+cs.length) (.aw (.ai (a++[h d])))= .ah d::(cs++[.aw (.ai (a++[h d]))]):=by
   rw [show (1+cs.length)=cs.length+1 by omega,Cf,List.set_append_right _ _ (bg _)];simp
  show (c (.ah d::(cs++[.aw (.ai a)]))>>=_)=_;rw [l];show (bZ (1+cs.length) (.ah d::(cs++[.aw (.ai a)]))>>=_)=_;rw [e1];show aY _ _=_;rw [jn (by omega)];show wn _ _ _ _ ds ((Slot.ah d::(cs++[Slot.aw (.ai a)])).set (1+cs.length) (.aw (.ai (a++[h d]))))=_;rw [e2,n];simp
def kP {js:List Nat} {fi:TY} {fe:T1} {env:Sl} {ds:List D} {cs:List Slot} (h:D->D) (P:D->Prop) (g:js.map (kv false env)=cs) (i:fi env= .ok ds) (j: ∀d∈ds,P d) (l:ds.length<=aP)
  (n: ∀d e,P d->fe (.ah d::(cs++[.aw (.ai e)]))= .ok (h d)):zN false 1 js fi (gN 0) qz fe env= .ok (.ai (ds.map h)):=by
 obtain ⟨y,o⟩:=uJ h P n ds .un [] j (by simpa using l);have a:js.length=cs.length:=by rw [<-g];simp
 show (fi env>>=_)=_;rw [i];show (wn (1+js.length) (gN 0) qz fe ds (yx false 1 js env)>>=_)=_
 have p:yx false 1 js env= .un::(cs++[.aw (.ai [])]):=by
  unfold yx;rw [g];rfl
 rw [p,a,o];show (bZ (1+cs.length) (y::(cs++[.aw (.ai ([]++ds.map h))]))>>=_)=_
 have e1:bZ (1+cs.length) (y::(cs++[.aw (.ai ([]++ds.map h))]))= .ok (ds.map h):=by
  unfold bZ;rw [show (1+cs.length)=cs.length+1 by omega,o6,gP (bg _)];simp
 rw [e1];exact jn (c:=false=true->D.dS (ds.map h)=true) (λh=>by cases h)
noncomputable def iT (A B:Str) (n:Int) (k:Int):Str:=(A++(⟨#[97+((n+5*k)%26).toNat]⟩:Str))++B
def jgO (a b:Str):(a++b).cps.toList=a.cps.toList++b.cps.toList:=by
 show (Str.append a b).cps.toList=_;simp [Str.append]
def jhr {A B:Str} {n j k:Int} (h:iT A B n j=iT A B n k):(n+5*j)%26=(n+5*k)%26:=by
 have a:=congrArg (λz:Str=>z.cps.toList) h;unfold iT at a;simp only [jgO,i9,List.append_cancel_left_eq,Cg,AW,List.cons.injEq] at a;omega
def Ch (a:List Str) (d:D):Prop:=d= .ai (a.map .str)/\a.length=5/\ ∀z∈a,isNm (.str z)=true
def km (m:Int): ∃Q l U Y n4:Str,ye [.int m]= .ok (.ai ([Q,l,U,Y,n4].map .str))/\(∀z∈[Q,l,U,Y,n4],isNm (.str z)=true)/\[Q,l,U,Y,n4].Nodup:=by
 have p:20<=aP:=by decide
 generalize zJ:m%8=sz;have hs:0<=sz/\sz<8:=by omega
 generalize hm1:m/8=m1;generalize H:m1%(sz+1)=g;have ha:0<=g/\g<sz+1:=by rw [<-H];exact ⟨nL _ (by omega),rK _ (by omega)⟩
 generalize hm2:m1/(sz+1)=O
 obtain ⟨iH,l1,l,q,u1,w1,rfl,hf1,I⟩:=Ku (body:=wx (gN 3) (aq (cw (app (jb (ag 0) (jb (cI 26) ae)) zx) (g2 (gN 0) (gN 6))) (jw 2 (ap (ag 2) (ap (ag 1) (ag 6) aX) aK))))
   (λds J=> ∃(n:Int) (f:Str) (u w:Slot),J=[.ah (.int n),.ah (.str gR),.ah (.str f),u,.ah (.int sz),.ah (.int g),w]/\f.length+ds.length=(sz+1).toNat/\nK f)
   (by
    rintro d ds J ⟨n,f,u,w,rfl,hl,lw⟩;obtain ⟨c,r,hcm⟩:=Iv (i:=n%26) (by omega) (by rw [jix];omega);simp only [bN] at hl;have L:(f++(⟨#[c]⟩:Str)).length=f.length+1:=Bi _ _;refine ⟨[.ah (.int (n/26)),.ah (.str gR),.ah (.str (f++(⟨#[c]⟩:Str))),.ah d,.ah (.int sz),.ah (.int g),.ah (.int (n%26))],?_,_,_,_,_,rfl,by rw [L];omega,kz lw (NZ hcm)⟩;rw [yE rfl];rw [jl (Wg (Ak rfl rfl (by omega)))]
    refine (jD (jk rfl (jk rfl rfl r) (jn (dG (show f.length+1<=8 by omega) (by decide))))))
   (Qd 0 (sz+1).toNat) [.ah (.int O),.ah (.str gR),.ah (.str ""),.un,.ah (.int sz),.ah (.int g),.un] ⟨O, "",.un,.un,rfl,by rw [wP,show ("" :Str).length=0 by decide,yD],λc r=>by cases r⟩
 simp only [eM] at hf1;generalize v:fu q none (some g)=A;generalize E:fu q (some (g+1)) none=B;have hA:=dG (N0 q none (some g)) (jjP g q.length (by omega));have hB:=dG (N0 q (some (g+1)) none) (jjQ (g+1) q.length (by omega));have lA:nK A:=by rw [<-v];exact NY _ _ I
 have lB:nK B:=by rw [<-E];exact NY _ _ I
 rw [v] at hA;rw [E] at hB
 have Iw: ∀k:Int,isNm (.str (iT A B l k))=true:=λk=>by
   obtain ⟨_,r⟩:=N1 (i:=(l+5*k)%26) (by omega) (by omega);have h1:(A++(⟨#[97+((l+5*k)%26).toNat]⟩:Str)).length=A.length+1:=Bi _ _;have h2:(iT A B l k).length=(A++(⟨#[97+((l+5*k)%26).toNat]⟩:Str)).length+B.length:=Bi _ _;exact jhy (by omega) (by omega) (kz (kz lA r) lB)
 have N:=kP (js:=[2,1,5,0]) (fi:=eG (jb (cI 5) ae)) (fe:=ap (ap (qv (ag 1) zZ (zU (ag 3)) e9) (ap (ag 2) (ap (ap (ag 4) (ap (cI 5) (ag 0) gD) aK) (cI 26) a7) aX) aK) (qv (ag 1) (zU (ap (ag 3) (cI 1) aK)) zZ e9) aK)
   (env:=[.ah (.int l),.ah (.str gR),.ah (.str q),u1,.ah (.int sz),.ah (.int g),w1]) (ds:=Qd 0 5)
   (λd=>match d with| .int k=> .str (iT A B l k)|d=>d) (λd=> ∃k:Int,d= .int k/\0<=k/\k<0+(5:Nat)) rfl rfl (λd hd=>Ze hd) (by rw [wP];exact dG (by decide) p) (by
    rintro d acc ⟨k,rfl,hk0,hk1⟩;obtain ⟨r,_⟩:=N1 (i:=(l+5*k)%26) (by omega) (by omega);have h1:(A++(⟨#[97+((l+5*k)%26).toNat]⟩:Str)).length=A.length+1:=Bi _ _
    refine jk (y:= .str B) (jk (x:= .str A) (qP rfl rfl (xg rfl) (by rw [<-v];rfl)) (jk rfl (Xl (y6 rfl (Jz (a:=10) (b:=10) rfl rfl (by omega) (by omega) (by omega))) rfl (by omega)) r) (jn (dG (show _+1<=20 by omega) p))) (qP rfl (xg (jk rfl rfl rfl)) rfl (by rw [<-E];rfl)) (jn (by omega)))
 have h5:(Qd 0 5).map (λd=>match d with| .int k=>D.str (iT A B l k)|d=>d)=[iT A B l 0,iT A B l 1,iT A B l 2,iT A B l 3,iT A B l 4].map .str:=rfl;rw [h5] at N;refine ⟨iT A B l 0,iT A B l 1,iT A B l 2,iT A B l 3,iT A B l 4,zy ?_,λz hz=>?_,?_⟩
 rotate_left 1
 . simp only [bA,ei,or_false] at hz;rcases hz with rfl|rfl|rfl|rfl|rfl<;>exact Iw _
 . have o: ∀j k:Int,(l+5*j)%26≠(l+5*k)%26->iT A B l j≠iT A B l k:=λj k h e=>h (jhr e)
   simp only [q0,bA,ei,or_false,not_or,not_false_eq_true,AY,and_true];refine ⟨⟨o _ _ (by omega),o _ _ (by omega),o _ _ (by omega),o _ _ (by omega)⟩,⟨o _ _ (by omega),o _ _ (by omega),o _ _ (by omega)⟩,⟨o _ _ (by omega),o _ _ (by omega)⟩,o _ _ (by omega)⟩
 show xW [.ah (.int m),.un,.un,.un,.un,.un,.un]=_;unfold xW;rw [jl rfl];rw [jl (env':=[.ah (.int m1),.ah (.str gR),.un,.un,.ah (.int sz),.un,.un]) ((Wg (Ak rfl rfl (by omega))).trans (by rw [hm1,zJ];rfl))];rw [jl (env':=[.ah (.int O),.ah (.str gR),.un,.un,.ah (.int sz),.ah (.int g),.un]) ((Wg (Ak rfl (jk rfl rfl rfl) (by omega))).trans (by rw [hm2,H];rfl))];rw [jl (env':=[.ah (.int O),.ah (.str gR),.ah (.str ""),.un,.ah (.int sz),.ah (.int g),.un]) rfl];rw [jl ((XC (W5 (jg (jk rfl rfl rfl) rfl) (by omega))).trans l1)];exact qA N
noncomputable def Ci:D->Bool
 | .ak _=>true
 |_=>false
def Ix (x:D) (r:List D):cutD (x::r) none (some 1)=[x]:=by
 unfold cutD;rw [HT.fj,show (some (1:Int))=some ((1:Nat):Int) from rfl,HT.gp];simp only [List.drop_zero,Nat.sub_zero,bN];rw [show min 1 (r.length+1)=1 by omega];rfl
section
variable {ns:List Str}
def Iy {ns:List Str} {d:D} (h:Ch ns d) (i:Int) (c:0<=i) (j:i<5): ∃z:Str,aX d (.int i)= .ok (.str z)/\z∈ns:=by
 obtain ⟨rfl,l,_⟩:=h;obtain ⟨x,a,e⟩:=C5 (ds:=ns.map .str) c (by rw [dQ];omega);obtain ⟨z,g,rfl⟩:=hG.mp e;exact ⟨z,a,g⟩
def v0 {t:D} (h:tk ns t=true):dW "tuple" t= .ok (.bl (Ci t)):=by
 rcases qe h with ⟨i,rfl⟩| ⟨z,a,rfl,_⟩<;>rfl
end
section
variable {ns:List Str} {fs:List Int}
def qh (z:Str) (a:List D):ba (.ak (.str z::a))=1+bj a:=by rw [Yu];rfl
def qr (z:Str) (a:List D):num (.ak (.str z::a))=1+nums a:=by rw [Yo];rfl
def Wf (z:Str) (a:List D):dZ (.ak (.str z::a))=dw a:=by simp [dZ]
def N2 (i:Int):dZ (.int i)=[i]:=by simp [dZ]
def N3 {a b:Int}:dA (.int a) (.int b)= .ok (.bl (!(a==b))):=vT
def N4 (S:List D):dA (.ai S) (.ai [])= .ok (.bl (!S.isEmpty)):=by
 cases S with
 |nil=>rfl
 |cons x r=>
  unfold dA;rw [jn (.inr (by simp [Yc]))];simp [df,cz]
end
theorem Vq: ∀(n:Nat) (d:D),bT d=true->ba d<=n->num d<=1000->qy n [d]= .ok (.ai (cg d))
 |0,d,_,h,_=>by have:=JB d;omega
 |n+1,d,l,o,p=>by
  have q:=JD l;rw [Yu] at o;rw [Yo] at p
  have i:=XF (body:=wx (gN 2) (zw 1 (jj 1 (qy n) (jb (ag 2) ae)))) (λa=>[.ah d,.aw (.ai a.1),a.2]) (λa e=>(a.1++cg e,.ah e)) (λc a=>br c=true/\bj c<=n/\a.1.length+nums c<=1000) (λe c a ⟨j,r,u⟩=>by
   simp only [br,dR] at j;simp only [bj] at r;simp only [nums] at u;have y:=W8 e;refine ⟨?_,j.2,by omega,by simp only [dr];omega⟩;show zw 1 (jj 1 (qy n) (jb (ag 2) ae)) [.ah d,.aw (.ai a.1),.ah e]=_;show (al.ok a.1>>=λc=>qy n [e]>>=_)=_;rw [Vq n e j.1 (by omega) (by omega)]
   exact jn (dG (by omega:_<=10000) (by decide))) (bc d) ([d],.un) ⟨q.1,by omega,by simp only [bN,eM];omega⟩
  have g: ∀(c:List D) a,(c.foldl (λa e=>(a.1++cg e,Slot.ah e)) a).1=a.1++dg c:=by
   intro c
   induction c with
   |nil=>intro a;simp [dg]
   |cons d c v=>intro a;rw [List.foldl_cons,v];simp [dg]
  have e1:Xw jP (qy n) (qg 3 [d])= .ok (.rt true (.ai (cg d))):=by
   have w:Xw jP (qy n) (qg 3 [d])=((jP [d]>>=A5)>>=λc=>bh (wx (gN 2) (zw 1 (jj 1 (qy n) (jb (ag 2) ae)))) c [.ah d,.aw (.ai [d]),.un])>>=iK (aJ (nE 1)):=by
    unfold Xw;rw [yt];show (aq _ _) _=_;rw [yt];rfl
   rw [w,Qt (Zl l)];show (bh _ (bc d) _>>=_)=_;rw [i];rw [g,Tx];rfl
  exact JI e1
section
variable {ns:List Str} {fs:List Int}
def N5: ∀t,tk ns t=true->(dZ t).length<=num t:=ze (λi=>by simp [dZ,num]) λz e _ _ h=>by
 rw [Wf,qr]
 have: ∀a:List D,(∀u∈a,(dZ u).length<=num u)->(dw a).length<=nums a:=λa=>by
  induction a with
  |nil=>intro _;simp [dw,nums]
  |cons d r g=>
   intro h;have j:=h d (by simp);have l:=g λu c=>h u (by simp [c])
   simp only [dw,nums,dr];omega
 have:=this e λu c=>(h u c).2
 omega
noncomputable def md (l:List Int):List D:=l.map λ_=> .bl true
def ji7 (l:List Int) (x:Int):ZU (eI l) (.inl x)=eI (ins l x)/\ZV (eI l) (md l) (.inl x) (.bl true)=md (ins l x):=by
 unfold ZU ZV ins;rw [jeZ]
 by_cases h:x∈l
 . simp only [h,decide_true,if_true,true_and];clear h
   induction l with
   |nil=>rfl
   |cons a l c=>
    simp only [eI,md,fh,ya] at c ⊢;rw [c];simp
 . simp [h,eI,md]
def jhA (l:List Int) (x:Int):(ins l x).length<=l.length+1:=by
 unfold ins;split<;>simp
def jeT (l:List Hd) (x:Hd):(fA l x).length<=l.length+1:=by
 unfold fA;split<;>simp
noncomputable def o9 (t:D):List Int:=met [] (ee (cg t))
theorem QF (t:Slot): ∀(ds:List D) (a:List Int) (u:Slot),(∀d∈ds,tk ns d=true)->a.length+ds.length<=2000-> ∃j,bh (wx (gN 2) (bW (bx (aW (bv "tuple" (ag 2)))) (Bx 1 (ag 2) (cB true)) bF)) ds [t,.aw (.aQ (eI a) (md a)),u]= .ok (.nx [t,.aw (.aQ (eI (met a (ee ds))) (md (met a (ee ds)))),j])
 | [],a,u,_,_=>⟨u,rfl⟩
 |d::ds,a,u,h,q=>by
  simp only [bN] at q;have p:=h d (by simp);have g:bx (aW (bv "tuple" (ag 2))) [t,.aw (.aQ (eI a) (md a)),.ah d]= .ok (!Ci d):=qQ (jG (by rw [yV];exact v0 p));rcases qe p with ⟨i,rfl⟩| ⟨z,l,rfl,_⟩
  . obtain ⟨r,v⟩:=ji7 a i;have w:(eI a).length<aP:=by rw [jhv];exact fH (by omega) t6
    have c:wx (gN 2) (bW (bx (aW (bv "tuple" (ag 2)))) (Bx 1 (ag 2) (cB true)) bF) (.int i) [t,.aw (.aQ (eI a) (md a)),u]= .ok (.nx [t,.aw (.aQ (eI (ins a i)) (md (ins a i))),.ah (.int i)]):=by
     rw [yE (env':=[t,.aw (.aQ (eI a) (md a)),.ah (.int i)]) rfl,fy g];show aY ((eI a).length<aP) (al.ok (aT.nx [t,.aw (.aQ (ZU (eI a) (.inl i)) (ZV (eI a) (md a) (.inl i) (.bl true))),.ah (.int i)]))=_;rw [jn w,r,v]
    have:=jhA a i;obtain ⟨j,n⟩:=QF t ds (ins a i) (.ah (.int i)) (λe o=>h e (by simp [o])) (by omega);exact ⟨j,by rw [wc c,n];rfl⟩
  . have c:wx (gN 2) (bW (bx (aW (bv "tuple" (ag 2)))) (Bx 1 (ag 2) (cB true)) bF) (.ak (.str z::l)) [t,.aw (.aQ (eI a) (md a)),u]= .ok (.nx [t,.aw (.aQ (eI a) (md a)),.ah (.ak (.str z::l))]):=by
     rw [yE (env':=[t,.aw (.aQ (eI a) (md a)),.ah (.ak (.str z::l))]) rfl,dY g];rfl
    obtain ⟨j,n⟩:=QF t ds a (.ah (.ak (.str z::l))) (λe o=>h e (by simp [o])) (by omega);exact ⟨j,by rw [wc c,n];rfl⟩
def N6 {t:D} (c:tk ns t=true) (e:ba t<=64) (g:num t<=1000):K1 [t]= .ok (.ai ((o9 t).map .int)):=by
 have h:=Vq 64 t (wZ t c) e g;have d:=W8 t;obtain ⟨u,i⟩:=QF (.ah t) (cg t) [] .un (vD t c) (by simp only [eM];omega);have a:dU (jj 1 (qy 64) (jb (ag 0) ae)) [.ah t,.aw (.aQ [] []),.un]= .ok (cg t):=Xr (jo (jg rfl rfl) rfl h) rfl;refine zy ?_;unfold Kt;rw [jl (env':=[.ah t,.aw (.aQ [] []),.un]) rfl];rw [jl ((XC a).trans i)];show aJ (app (jb (ag 1) ae) C7) [.ah t,.ah (.aQ (eI (o9 t)) (md (o9 t))),u]=_;refine qA (JO (jg rfl rfl) ?_);show aY _ _=_;rw [jn (by simp [eI])];simp [eI,kD,Function.comp_def]
def jeW (z:Str) (a:List D):xf [.ak (.str z::a)]= .ok (qS (z,(a.length:Int))):=by
 refine zy ?_;refine (qA ?_).trans rfl;refine xa (jg (jk rfl rfl om) (jg ?_ rfl)) (jz (show 2<=20000 by decide));refine jk (JO (jg rfl rfl) rfl) rfl ?_;simp
theorem Z8 (t s:Slot): ∀(ds:List D) (l:List Hd) (u:Slot),(∀d∈ds,tk ns d=true)->l.length+ds.length<=2000-> ∃j,bh (wx (gN 3) (bW (aW (bv "tuple" (ag 3))) (zI 1 (jj 1 xf (jb (ag 3) ae)) (cB true)) bF)) ds [t,.aw (.bP (l.map dI) (dz l)),s,u]= .ok (.nx [t,.aw (.bP ((mZ l (pW ds)).map dI) (dz (mZ l (pW ds)))),s,j])
 | [],l,u,_,_=>⟨u,rfl⟩
 |d::ds,l,u,h,q=>by
  simp only [bN] at q;have p:=h d (by simp);have g:aW (bv "tuple" (ag 3)) [t,.aw (.bP (l.map dI) (dz l)),s,.ah d]= .ok (Ci d):=jG (by rw [yV];exact v0 p);rcases qe p with ⟨i,rfl⟩| ⟨z,a,rfl,_⟩
  . have c:wx (gN 3) (bW (aW (bv "tuple" (ag 3))) (zI 1 (jj 1 xf (jb (ag 3) ae)) (cB true)) bF) (.int i) [t,.aw (.bP (l.map dI) (dz l)),s,u]= .ok (.nx [t,.aw (.bP (l.map dI) (dz l)),s,.ah (.int i)]):=by
     rw [yE (env':=[t,.aw (.bP (l.map dI) (dz l)),s,.ah (.int i)]) rfl,dY g];rfl
    obtain ⟨j,n⟩:=Z8 t s ds l (.ah (.int i)) (λe o=>h e (by simp [o])) (by omega);exact ⟨j,by rw [wc c,n];rfl⟩
  . obtain ⟨r,v⟩:=ji8 l (z,(a.length));have w:(l.map dI).length<aP:=by rw [dQ];exact fH (by omega) t6
    have y:jj 1 xf (jb (ag 3) ae) [t,.aw (.bP (l.map dI) (dz l)),s,.ah (.ak (.str z::a))]= .ok (qS (z,(a.length))):=jo (jg rfl rfl) rfl (jeW z a)
    have c:wx (gN 3) (bW (aW (bv "tuple" (ag 3))) (zI 1 (jj 1 xf (jb (ag 3) ae)) (cB true)) bF) (.ak (.str z::a)) [t,.aw (.bP (l.map dI) (dz l)),s,u]= .ok (.nx [t,.aw (.bP ((fA l (z,(a.length))).map dI) (dz (fA l (z,(a.length))))),s,.ah (.ak (.str z::a))]):=by
     rw [yE (env':=[t,.aw (.bP (l.map dI) (dz l)),s,.ah (.ak (.str z::a))]) rfl,fy g];show (jj 1 xf (jb (ag 3) ae) [t,.aw (.bP (l.map dI) (dz l)),s,.ah (.ak (.str z::a))]>>=_)=_;rw [y];show aY ((l.map dI).length<aP) (al.ok (aT.nx [t,.aw (.bP (zE (l.map dI) (dI (z,(a.length)))) (zF (l.map dI) (dz l) (dI (z,(a.length))) (.bl true))),s,.ah (.ak (.str z::a))]))=_;rw [jn w,r,v]
    have:=jeT l (z,(a.length));obtain ⟨j,n⟩:=Z8 t s ds (fA l (z,(a.length))) (.ah (.ak (.str z::a))) (λe o=>h e (by simp [o])) (by omega);exact ⟨j,by rw [wc c,n];rfl⟩
end
def lq:D->Bool
 | .ak (x::r)=>decide (r.length+1<=10)&&isNm x
 | .int i=>decide (0<=i)&&decide (i<=999)
 |_=>false
def jjd {d:D} (h:bT d=true):yA [d]= .ok (.bl (lq d)):=by
 cases d with
 |ak g=>
  cases g with
  |nil=>rfl
  |cons x r=>
   have j:bT x=true:=by
    simp only [bT,br,dR] at h;exact h.2.1
   have l:decide ((1)<=((x::r).length:Int))=true:=by simp only [bN,decide_eq_true_eq];omega
   have e:decide (((x::r).length:Int)<=9+1)=decide (r.length+1<=10):=by simp only [bN];rw [decide_eq_decide];omega
   have n:dW "tuple" (.ak (x::r))= .ok (.bl true):=rfl;have o:bo [.ak (x::r)]= .ok (.int ((x::r).length:Int)):=rfl;have p:aK (.int 9) (.int 1)= .ok (.int (9+1)):=rfl;have q:qg 1 [.ak (x::r)]=[.ah (.ak (x::r))]:=rfl
   have a:yq xv JV (qg 1 [.ak (x::r)])= .ok (.rt true (.bl (decide (r.length+1<=10)&&isNm x))):=by
    simp only [yq,q,n,o,p,yt,Yz,uo,yV,FQ,Ud,yW,kI,xp,ul,FN,FR,XJ,FM,U8,Iu,kW,if_true,WO,uL,Mf,Me,l,e,um,om,Tw,List.length_singleton,jjB (Zl j)];cases decide (r.length+1<=10)<;>rfl
   exact JI a
 |int i=>
  have e: ∀b c:Bool,True:=λ_ _=>trivial
  have a:xv [.int i]= .ok (.bl (decide (0<=i)&&decide (i<=999))):=by
   have e1:J3 qd (qg 1 [.int i])= .ok (.rt true (.bl (decide (0<=i)&&decide (i<=999)))):=by
    unfold J3;rw [XJ,Mf,WO];show ((al.ok (D.bl (decide ((0)<=i)))>>=Bs (cI 999 (qg 1 [.int i])) mW (.int i))>>=_)=_;rw [xp,uL];cases decide (0<=i)<;>rfl
   exact JI e1
  have e2:yq xv JV (qg 1 [.int i])=(xv [.int i]>>=λd=> .ok (.rt true d)):=rfl;rw [a] at e2;exact JI e2
 |_=>first|rfl|cases h
def jkx {d:D} (h:bT d=true):ZD [d]= .ok (.bl (!bw d&&(cg d).all lq)):=by
 have e1:Xx xu yA (qy 64) (qg 1 [d])= .ok (.rt true (.bl (!bw d&&(cg d).all lq))):=by
  show (((xu [d]>>=A3)>>=_)>>=_)=_;rw [NW h];show (toK _ true (.bl (!bw d))>>=_)=_;rw [Me]
  cases g:bw d with
  |true=>rfl
  |false=>
   rw [if_pos (show (!false)=true from rfl)];simp only [bw,decide_eq_false_iff_not] at g;have i:=Vq 64 d h (by omega) (by omega);have l:=W8 d
   have a:zN false 1 [] (dU (jj 1 (qy 64) (jb (ag 0) ae))) (gN 0) qz (jj 1 yA (jb (ag 0) ae)) (qg 1 [d])= .ok (.ai ((cg d).map λd=>D.bl (lq d))):=by
    refine FL _ (λd=>bT d=true) ?_ (λe c=>xJ (vE d h) c) (dG (by omega:_<=1000) (by decide)) ?_
    . show (qy 64 [d]>>=_)=_;rw [i];rfl
    . intro e j c;exact jjd c
   rw [Ud,yW,a];show (k4 [.ai ((cg d).map λd=>D.bl (lq d))]>>=_)=_;rw [uO];rfl
 exact JI e1
section
variable {ns:List Str} {fs:List Int}
structure Ru (ns:List Str) (l r:D):Prop where
 tl:tk ns l=true
 tr:tk ns r=true
 lt: ∃z ts,l= .ak (.str z::ts)
 hl:ba l<=4
 hr:ba r<=30
 nl:num l<=13
 nr:num r<=30
 sub: ∀x∈dZ r,x∈dZ l
 E8: ∃a b:Int,(0<=a/\a<=999)/\(0<=b/\b<=999)/\ ∀x∈dZ l,x=a\/x=b
def Km: ∀t,tk ns t=true->ee (cg t)=dZ t:=ze (λi=>by simp [cg,ee,dZ]) λz e _ _ h=>by
 have: ∀a:List D,(∀u∈a,ee (cg u)=dZ u)->ee (dg a)=dw a:=λa=>by
  induction a with
  |nil=>intro _;simp [dg,ee,dw]
  |cons d r g=>
   intro h;rw [dg,Kn,h d (by simp),g λu c=>h u (by simp [c])];simp [dw]
 rw [Wf,<-this e λu c=>(h u c).2];simp [cg,ee]
def jjm (h: ∀z∈ns,isNm (.str z)=true) {t:D} (d:tk ns t=true) (j: ∀x∈dZ t,0<=x/\x<=999):(cg t).all lq=true:=by
 rw [mP];intro p g;have c:=vD t d p g;rcases qe c with ⟨i,rfl⟩| ⟨z,n,rfl,l,o,_⟩
 . have:i∈ee (cg t):=by
    obtain ⟨a,b,e⟩:=Iz g;rw [e,Kn];simp [ee]
   rw [Km t d] at this;have:=j i this;simp [lq,this]
 . simp only [lq,dR,decide_eq_true_eq];exact ⟨by omega,h z l⟩
def v4 (c: ∀z∈ns,isNm (.str z)=true) {t:D} (a:tk ns t=true) (e:ba t<=60) (g:num t<=1000) (d: ∀x∈dZ t,0<=x/\x<=999):ZD [t]= .ok (.bl true):=by
 rw [jkx (wZ t a),jjm c a d];have:bw t=false:=by simp only [bw,decide_eq_false_iff_not];omega
 rw [this];rfl
def N7 {a b:Int} {l:List Int} (h: ∀x∈l,x=a\/x=b) (c:l.Nodup):l.length<=2:=by
 match l,h,c with
 | [],_,_=>simp
 | [_],_,_=>simp
 | [_,_],_,_=>simp
 |x::y::z::r,h,c=>
  have d:=h x (by simp);have e:=h y (by simp);have g:=h z (by simp);simp only [q0,bA,not_or] at c;omega
theorem kr: ∀(c l:List Int),l.Nodup->(met l c).Nodup
 | [],l,h=>h
 |x::c,l,h=>by
  refine kr c _ ?_;unfold ins
  split
  . exact h
  . rename_i e;rw [List.nodup_append];exact ⟨h,by simp,λa g b d=>by simp at d;subst d;rintro rfl;exact e g⟩
def jkd (l:List Int):(dd l).length<=l.length:=by
 exact PyProof.Rows.firstMet_length_le _ _
def jeP (B: ∀z∈ns,isNm (.str z)=true) {l r:D} (h:Ru ns l r):ZE [.ak [l,r]]= .ok (.bl true):=by
 obtain ⟨a,b,N,O,c⟩:=h.E8;have j: ∀x∈dZ l,0<=x/\x<=999:=λx g=>by rcases c x g with e|e<;>omega
 have q:=v4 B h.tl (by have:=h.hl;omega) (by have:=h.nl;omega) j;have u:=v4 B h.tr (by have:=h.hr;omega) (by have:=h.nr;omega) λx g=>j x (h.sub x g)
 obtain ⟨z,Q,bQ⟩:=h.lt;have v:dW "tuple" l= .ok (.bl true):=by rw [bQ];rfl
 have H:=N6 h.tl (by have:=h.hl;omega) (by have:=h.nl;omega);have I:=N6 h.tr (by have:=h.hr;omega) (by have:=h.nr;omega);have w:ap (ag 0) (cI 0) aX [.ah (.ak [l,r])]= .ok l:=jk rfl rfl om;have E:ap (ag 0) (cI 1) aX [.ah (.ak [l,r])]= .ok r:=jk rfl rfl (by show (match gQ [l,r] ((1:Nat):Int) with|some d=>al.ok d|none=> .aj)=_;rw [M.cm];rfl);have n: ∀x,x∈o9 l↔x∈dZ l:=λx=>by unfold o9;rw [kt,Km l h.tl];simp
 have o: ∀x,x∈o9 r↔x∈dZ r:=λx=>by unfold o9;rw [kt,Km r h.tr];simp
 have U:=N7 (λx g=>c x (h.sub x ((o x).mp g))) (kr _ _ AY);have Y:=N7 (λx g=>c x ((n x).mp g)) (kr _ _ AY);have J:rC=4096:=rfl
 have p:nc (.ai ((o9 r).map .int)) (.ai ((o9 l).map .int))= .ok (.int 0):=by
  unfold nc;simp only [VS];refine jn ⟨by omega,by omega,λi L=>(n i).mpr (h.sub i ((o i).mp L)),?_⟩;have:=jkd (o9 r);omega
 have y:aW (bv "tuple" (ap (ag 0) (cI 0) aX)) [.ah (.ak [l,r])]= .ok true:=jG (by rw [yV,w];exact v);refine zy ?_;unfold Xy;rw [jl ((dY (Wz (qQ (jG (b:=true) rfl)) (jG (jk (JO (jg rfl rfl) rfl) rfl N3)))))];refine (jl ((dY (Wz (qQ (jG (jo (jg w rfl) rfl q))) (Wz (qQ (jG (jo (jg E rfl) rfl u))) (qQ y)))))).trans ?_;exact qA (jk (jk (jo (jg E rfl) rfl I) (jo (jg w rfl) rfl H) p) rfl gr)
end
section
variable {ns:List Str}
def p6 (ns:List Str) (l:List Hd):Prop:=l.Nodup/\ ∀x∈l,x.1∈ns/\0<=x.2/\x.2<=9
def jeX {l:List Hd} {ds:List D} (h:p6 ns l) (a: ∀d∈ds,tk ns d=true):p6 ns (mZ l (pW ds)):=
 ⟨MG h.1,λx c=>(uf c).elim (h.2 x) λz=>MF a x z⟩
theorem VW (g:ns.length=5) (T:Slot): ∀(d:List D) (l:List Hd) (s u:Slot),(∀t∈d,tk ns t=true/\ba t<=64/\num t<=1000)->p6 ns l-> ∃a i j,p6 ns a/\
  bh (wx (gN 2) (eH (dU (jj 1 (qy 64) (jb (ag 2) ae))) (gN 3) (bW (aW (bv "tuple" (ag 3))) (zI 1 (jj 1 xf (jb (ag 3) ae)) (cB true)) bF))) d [T,.aw (.bP (l.map dI) (dz l)),s,u]= .ok (.nx [T,.aw (.bP (a.map dI) (dz a)),i,j])
 | [],l,s,u,_,c=>⟨l,s,u,c,rfl⟩
 |t::d,l,s,u,h,c=>by
  obtain ⟨n,r,v⟩:=h t (by simp);have p:=VV c.1 c.2;have q:=W8 t;have w:=Vq 64 t (wZ t n) r v;obtain ⟨y,z⟩:=Z8 T (.ah t) (cg t) l u (vD t n) (by omega);have o:dU (jj 1 (qy 64) (jb (ag 2) ae)) [T,.aw (.bP (l.map dI) (dz l)),.ah t,u]= .ok (cg t):=Xr (jo (jg rfl rfl) rfl w) rfl;obtain ⟨a,i,j,B,E⟩:=VW g T d (mZ l (pW (cg t))) (.ah t) y (λe H=>h e (by simp [H])) (jeX c (vD t n));refine ⟨a,i,j,B,?_⟩;refine (wc ?_).trans E;rw [yE rfl];exact (XC o).trans z
def jjy {z:Str} (h:isNm (.str z)=true):z.length<=8:=by
 rw [Kl] at h;simp only [dR,decide_eq_true_eq] at h;omega
def jaV (e:ns.length=5) (g: ∀z∈ns,isNm (.str z)=true) {c:List D} (h: ∀t∈c,tk ns t=true/\ba t<=64/\num t<=1000): ∃j,Jd [.ai c]= .ok (.ai j):=by
 obtain ⟨l,q,r,d,n⟩:=VW e (.ah (.ai c)) c [] .un .un h ⟨AY,λx o=>by cases o⟩;have i:=VV d.1 d.2;refine ⟨(ZK l).map qS,zy ?_⟩;refine (jl ((XC rfl).trans n)).trans ?_;exact qA (JO (jg rfl rfl) (u0 d.1 (by omega) λa p=>jz (dG (jjy (g _ (d.2 a p).1)) (by decide))))
noncomputable def rl (p:D×D):D:= .ak [p.1,p.2]
def p7 (ns:List Str) (a:List (D×D)):Prop:= ∀p∈a,Ru ns p.1 p.2
def jaS (e: ∀z∈ns,isNm (.str z)=true) {a:List (D×D)} (h:p7 ns a) (n:a.length<=40):xR [.ai (a.map rl)]= .ok (.bl true):=by
 have g:zN false 1 [] (dU (ag 0)) (gN 0) qz (jj 1 ZE (jb (ag 0) ae)) [.ah (.ai (a.map rl))]= .ok (.ai ((a.map rl).map λ_=> .bl true)):=by
  refine FL _ (λd=> ∃p,d=rl p/\Ru ns p.1 p.2) rfl (λd j=>by obtain ⟨p,i,rfl⟩:=hG.mp j;exact ⟨p,rfl,h p i⟩) (by rw [dQ];exact jz (by omega)) ?_;rintro d l ⟨p,rfl,i⟩;exact jo (jg rfl rfl) rfl (jeP e i)
 refine zy ?_
 have c:aW (ap (app (jb (ag 0) ae) bo) (cI 40) nH) [.ah (.ai (a.map rl))]= .ok false:=by
  refine jG (jk (JO (jg rfl rfl) rfl) rfl ?_);show al.ok (D.bl (decide ((40)< ((a.map rl).length:Int))))=_;rw [dQ,decide_eq_false (by omega)]
 refine (jl ((dY (Wz (qQ (jG (b:=true) rfl)) c)))).trans ?_;exact qA (JO (jg g rfl) (jfH _))
theorem N8 {c:T1} (d:D×D->D) (P:D×D->Prop) (g: ∀p a,P p->c [.ah p.1,.ah p.2,.aw (.ai a)]= .ok (d p)):
  ∀(i:List (D×D)) (a:List D) (u v:Slot),(∀p∈i,P p)->a.length+i.length<=aP-> ∃j l,wn 2 (g2 (gN 0) (gN 1)) qz c (i.map rl) [u,v,.aw (.ai a)]= .ok [j,l,.aw (.ai (a++i.map d))]
 | [],a,u,v,_,_=>⟨u,v,by simp [wn]⟩
 |p::r,a,u,v,n,h=>by
  simp only [bN] at h;obtain ⟨j,l,e⟩:=N8 d P g r (a++[d p]) (.ah p.1) (.ah p.2) (λx o=>n x (by simp [o])) (by simp only [dr,bN,eM];omega);refine ⟨j,l,?_⟩
  have q:wn 2 (g2 (gN 0) (gN 1)) qz c ((p::r).map rl) [u,v,.aw (.ai a)]=wn 2 (g2 (gN 0) (gN 1)) qz c (r.map rl) [.ah p.1,.ah p.2,.aw (.ai (a++[d p]))]:=by
   show (c [.ah p.1,.ah p.2,.aw (.ai a)]>>=_)=_;rw [g p a (n p (by simp))];exact jn (by omega)
  rw [q,e];simp
def uI {fe:T1} {fi:TY} {env:Sl} {a:List (D×D)} (d:D×D->D) (P:D×D->Prop) (g: ∀p h,P p->fe [.ah p.1,.ah p.2,.aw (.ai h)]= .ok (d p)) (i:fi env= .ok (a.map rl)) (j: ∀p∈a,P p) (l:a.length<=aP):
  zN false 2 [] fi (g2 (gN 0) (gN 1)) qz fe env= .ok (.ai (a.map d)):=by
 obtain ⟨u,v,e⟩:=N8 d P g a [] .un .un j (by simpa using l);show (fi env>>=_)=_;rw [i];show (wn 2 (g2 (gN 0) (gN 1)) qz fe (a.map rl) [.un,.un,.aw (.ai [])]>>=_)=_;rw [e];rw [AW];exact jn (c:=(false=true->D.dS (a.map d)=true)) (λz=>by cases z)
def obj (a:List (D×D)) (c:List D):D:= .obj "Rules" ["listed", "named"] [.ai (a.map rl),.ai c]
def N9 {c g2:Sl->al eK} {env a:Sl} (h:c env= .ok (.nx a)):pZ c g2 env=g2 a:=by
 show (c env>>=_)=_;rw [h];rfl
def jk1 {t:T0} {a g2:Sl->al eK} {env:Sl} (h:t env= .ok false):GZ t a g2 env=g2 env:=by
 show (t env>>=_)=_;rw [h];rfl
def vv {f:T1} {env:Sl} {c n:Str} {i:Nat} {fs:List Str} {ds:List D} {d:D} (h:f env= .ok d) (a:env[i]?=some (.aw (.obj c fs ds))) (e:fs.length<1000):Dw i c n f env= .ok (.nx (env.set i (.aw (.obj c (Ac n fs) (Ad n d fs ds))))):=by
 have g:m9 i c env= .ok (fs,ds):=by
  unfold m9;rw [a];exact jn rfl
 show (f env>>=λd=>m9 i c env>>=_)=_;rw [h];rw [g];exact jn e
def Oa (e:ns.length=5) (a: ∀z∈ns,isNm (.str z)=true) {ps:List (D×D)} (h:p7 ns ps) (l:ps.length<=40): ∃d,j8 (.obj "Rules" [] []) [.ai (ps.map rl)]= .ok (.aU,obj ps d):=by
 have j:ps.length<=aP:=jz (by omega)
 obtain ⟨d,n⟩:=jaV e a (λt o=>by
  rcases mD.mp o with z|z
  . obtain ⟨p,g,rfl⟩:=hG.mp z;have r:=h p g;exact ⟨r.tl,by have:=r.hl;omega,by have:=r.nl;omega⟩
  . obtain ⟨p,g,rfl⟩:=hG.mp z;have r:=h p g
    exact ⟨r.tr,by have:=r.hr;omega,by have:=r.nr;omega⟩)
 refine ⟨d,?_⟩
 have q:q9 Jd xR (QR 2 (.obj "Rules" [] []) [.ai (ps.map rl)])= .ok (.nx [.aw (obj ps d),.ah (.ai (ps.map rl))]):=by
  unfold q9;have u:bx (aW (jj 1 xR (jb (ag 1) ae))) [.aw (.obj "Rules" [] []),.ah (.ai (ps.map rl))]= .ok false:=qQ (jG (jo (jg rfl rfl) rfl (jaS a h l)));refine (N9 (jk1 u)).trans ?_;refine (N9 ((vv (JO (jg rfl rfl) rfl) rfl (by decide)))).trans ?_;have v:=uI (fe:=ag 0) (fi:=dU (ag 1)) (env:=[.aw (.obj "Rules" ["listed"] [.ai (ps.map rl)]),.ah (.ai (ps.map rl))]) (·.1) (λ_=>True) (λp i _=>rfl) rfl (λ_ _=>trivial) j;have w:=uI (fe:=ag 1) (fi:=dU (ag 1)) (env:=[.aw (.obj "Rules" ["listed"] [.ai (ps.map rl)]),.ah (.ai (ps.map rl))]) (·.2) (λ_=>True) (λp i _=>rfl) rfl (λ_ _=>trivial) j;refine (vv (jo (jg (jk v w (Mh (by simp only [dQ];exact jz (by omega)))) rfl) rfl n) rfl (by decide)).trans ?_;rfl
 refine (jn (c:=[D.ai (ps.map rl)].length=1) rfl).trans ?_;rw [q];rfl
end
mutual
noncomputable def bL:D->List (List Int×D)
 | .ak (x::r)=>([],.ak (x::r))::fW 0 r
 |d=>[([],d)]
noncomputable def fW (k:Nat):List D->List (List Int×D)
 | []=>[]
 |d::r=>(bL d).map (λp=>((k:Int)::p.1,p.2))++fW (k+1) r
end
def jV (p:List Int):D:= .ak (p.map .int)
def ZY (x:D) (r:List D):bL (.ak (x::r))=([],.ak (x::r))::fW 0 r:=by simp [bL]
def Jx (i:Int):bL (.int i)=[([],.int i)]:=by simp [bL]
def W9 (k:Nat) (d:D) (r:List D):fW k (d::r)=(bL d).map (λp=>((k:Int)::p.1,p.2))++fW (k+1) r:=by simp [fW]
def YZ (k:Nat):fW k []=[]:=by simp [fW]
mutual
theorem UW: ∀d:D,(bL d).length=num d
 | .ak (x::r)=>by rw [ZY,bN,lr 0 r];simp [num];omega
 | .ak []=>by simp [bL,num]
 | .aU=>by simp [bL,num]
 | .bl _=>by simp [bL,num]
 | .int _=>by simp [bL,num]
 | .str _=>by simp [bL,num]
 | .ai _=>by simp [bL,num]
 | .eN _=>by simp [bL,num]
 | .aQ _ _=>by simp [bL,num]
 | .bP _ _=>by simp [bL,num]
 | .du _=>by simp [bL,num]
 | .fq _ _=>by simp [bL,num]
 | .ii _ _=>by simp [bL,num]
 | .obj _ _ _=>by simp [bL,num]
 | .mem _ _=>by simp [bL,num]
 | .dn _=>by simp [bL,num]
theorem lr: ∀(k:Nat) (ds:List D),(fW k ds).length=nums ds
 |k,[]=>by simp [fW,nums]
 |k,d::r=>by rw [W9,dr,dQ,UW d,lr (k+1) r];simp [nums]
end
section
variable {ns:List Str}
theorem Q1: ∀ {ds:List D} {k:Nat} {q:List Int×D},q∈fW k ds-> ∃(j:Nat) (u:D) (p:List Int×D),ds[j]?=some u/\p∈bL u/\q=(((k+j:Nat):Int)::p.1,p.2)
 | [],k,q,h=>by rw [YZ] at h;cases h
 |d::r,k,q,h=>by
  rcases mD.mp h with h|h
  . obtain ⟨p,a,rfl⟩:=hG.mp h;exact ⟨0,d,p,rfl,a,rfl⟩
  . obtain ⟨j,u,p,c,e,rfl⟩:=Q1 h;exact ⟨j+1,u,p,by simpa using c,e,by simp only [Prod.mk.injEq,List.cons.injEq,and_true];omega⟩
def Z6 {ds:List D} {j:Nat} {u:D} (h:ds[j]?=some u):u∈ds:=lu h
def yL: ∀t,tk ns t=true-> ∀p∈bL t,p.1.length+1<=ba t/\(∀i∈p.1,0<=i)/\tk ns p.2=true:=ze (λi p hp=>by
   rw [Jx] at hp;simp only [bA,ei,or_false] at hp;subst hp
   exact ⟨by simp [ba],(λ_ h=>by cases h),rfl⟩) λz r c d h p hp=>by
 rcases bA.mp hp with rfl|hp
 . exact ⟨by rw [qh];simp,(λ_ h=>by cases h),ZH c d λt e=>(h t e).1⟩
 . obtain ⟨j,u,q,g,l,rfl⟩:=Q1 hp;have a:=Z6 g;obtain ⟨v,n,o⟩:=(h u a).2 q l;have:=qI a;refine ⟨by rw [qh,bN];omega,λi hi=>?_,o⟩;rcases bA.mp hi with rfl|hi
   . omega
   . exact n i hi
def IA {l:List D} {k:Nat} {x:D} (h:l[k]?=some x):aX (.ak l) (.int (k:Int))= .ok x:=by
 simp only [aX];rw [M.cm,h]
def p8 {l:List D} {k:Nat} {x:D} (h:l[k]?=some x):aX (.ai l) (.int (k:Int))= .ok x:=by
 simp only [aX];rw [M.cm,h]
theorem WI: ∀ {ds:List D} {d:D},d∈ds->num d<=nums ds
 |x::r,d,h=>by
  simp only [nums];rcases bA.mp h with rfl|h
  . omega
  . have:=WI h;omega
def rL (p:List Int×D):D:=jV p.1
def gE (k:Int):D->D
 | .ak a=> .ak (.int k::a)
 |d=>d
def Ob (n:Nat):Sl->al aT:=zw 1 (zN false 1 [2] (dU (jj 1 (w6 n) (jb (ag 3) ae))) (gN 0) qz (ap (aD (jb (ag 1) ae)) (ag 0) aK))
def je6 {i:Nat} {f:T1} {env:Sl} {ds a:List D} (c:bZ i env= .ok ds) (d:f env= .ok (.ai a)) (e:ds.length+a.length<=aP):zw i f env= .ok (.nx (env.set i (.aw (.ai (ds++a))))):=by
 unfold zw;rw [c,xp,d,xp];exact jn e
theorem Yk {n:Nat} {t:Slot}: ∀(r:List D) (k:Nat) (c:List D) (u v:Slot),(∀d∈r,w6 n [d]= .ok (.ai ((bL d).map rL))/\ ∀p∈bL d,p.1.length<=100)->c.length+nums r<=2000->
  ∃j l,bh (wx (g2 (gN 2) (gN 3)) (Ob n)) (jJ k r) [t,.aw (.ai c),u,v]= .ok (.nx [t,.aw (.ai (c++(fW k r).map rL)),j,l])
 | [],k,c,u,v,_,_=>⟨u,v,by rw [YZ];simp [jJ,bh]⟩
 |d::r,k,c,u,v,o,w=>by
  simp only [nums] at w;obtain ⟨y,z⟩:=o d (by simp);have g:=UW d
  have B:zN false 1 [2] (dU (jj 1 (w6 n) (jb (ag 3) ae))) (gN 0) qz (ap (aD (jb (ag 1) ae)) (ag 0) aK) [t,.aw (.ai c),.ah (.int k),.ah d]= .ok (.ai (((bL d).map rL).map (gE k))):=
   Mj rfl (gE k) (λd=> ∃p:List Int,d=jV p/\p.length<=100) (Xr (jo (jg rfl rfl) rfl y) rfl) (λe i=>by
    obtain ⟨p,q,rfl⟩:=hG.mp i
    exact ⟨p.1,rfl,z p q⟩) (jz (by simp [g];omega)) (λe c ⟨p,i,q⟩=>by
    subst i
    exact jk (xa (jg rfl rfl) (jz (by simp))) rfl (KS rfl (jz (by simp;omega))))
  have h:wx (g2 (gN 2) (gN 3)) (Ob n) (.ak [.int k,d]) [t,.aw (.ai c),u,v]= .ok (.nx [t,.aw (.ai (c++((bL d).map rL).map (gE k))),.ah (.int k),.ah d]):=by
   rw [yE rfl];exact (je6 rfl B (jz (by simp [g];omega))).trans rfl
  obtain ⟨j,l,E⟩:=Yk r (k+1) (c++((bL d).map rL).map (gE k)) (.ah (.int k)) (.ah d) (λe i=>o e (by simp [i])) (by simp [g];omega);refine ⟨j,l,?_⟩;show bh _ (.ak [.int k,d]::jJ (k+1) r) _=_;rw [wc h,E,W9];simp [sY];exact λa b _=>rfl
theorem Oc: ∀(n:Nat) (t:D),tk ns t=true->ba t<=n->ba t<=100->num t<=1000->w6 n [t]= .ok (.ai ((bL t).map rL))
 |0,t,_,h,_,_=>by have:=JB t;omega
 |n+1,t,e,l,o,j=>by
  refine zy ?_;have q:de 1 (aS (jb (aD ae) ae)) [.ah t,.un,.un,.un]= .ok (.nx [.ah t,.aw (.ai [jV []]),.un,.un]):=(YT (VJ (jg (xa rfl (jz (by simp))) rfl) (jz (by simp)))).trans rfl;refine (jl q).trans ?_
  have r:Dl (jj 1 jP (jb (ag 0) ae)) [.ah t,.aw (.ai [jV []]),.un,.un]= .ok (jJ 0 (bc t)):=by
    show (jj 1 _ _ _>>=_)=_;have g:jj 1 jP (jb (ag 0) ae) [.ah t,.aw (.ai [jV []]),.un,.un]= .ok (.ak (bc t)):=jo (jg rfl rfl) rfl (Qt (Zl (wZ t e)));rw [g];rfl
  have v: ∀u∈bc t,w6 n [u]= .ok (.ai ((bL u).map rL))/\ ∀p∈bL u,p.1.length<=100:=λu d=>by
    have a:tk ns u=true:=by
     rcases qe e with ⟨i,rfl⟩| ⟨z,w,rfl,y,B,c⟩
     . cases d
     . exact c u d
    have I:=qI d;have J:=WI d;rw [Yu] at l o;rw [Yo] at j;exact ⟨Oc n u a (by omega) (by omega) (by omega),λp E=>by have:=(yL u a p E).1;omega⟩
  obtain ⟨L,N,H⟩:=Yk (bc t) 0 [jV []] .un .un v (by rw [Yo] at j;simp;omega);refine (jl ((XC r).trans H)).trans ?_;rcases qe e with ⟨i,rfl⟩| ⟨z,w,rfl,y,B,c⟩
  . rw [Jx];rfl
  . rw [ZY];rfl
def jg3: ∀t,tk ns t=true->(bL t).map (·.2)=cg t:=ze (λi=>by rw [Jx];simp [cg]) λz e _ _ h=>by
 have: ∀(a:List D) k,(∀u∈a,(bL u).map (·.2)=cg u)->(fW k a).map (·.2)=dg a:=λa=>by
  induction a with
  |nil=>intro k _;rw [YZ];simp [dg]
  |cons d r g=>
   intro k h;rw [W9,C6,sY,g (k+1) λu c=>h u (by simp [c]),dg,<-h d (by simp)];rfl
 rw [ZY,fh,this e 0 λu c=>(h u c).2];simp [cg]
mutual
def sub (a:Int->D):D->D
 | .int i=>a i
 | .ak (x::r)=> .ak (x::subs a r)
 |d=>d
def subs (a:Int->D):List D->List D
 | []=>[]
 |d::r=>sub a d::subs a r
end
theorem vm (a:Int->D): ∀c,subs a c=c.map (sub a)
 | []=>by simp [subs]
 |d::r=>by simp [subs,vm a r]
def ZI (a:Int->D) (z:Str) (c:List D):sub a (.ak (.str z::c))= .ak (.str z::c.map (sub a)):=by simp [sub,vm]
def sub_int (a:Int->D) (i:Int):sub a (.int i)=a i:=by simp [sub]
def jiN {a:Int->D} (h: ∀i,tk ns (a i)=true): ∀t,tk ns t=true->tk ns (sub a t)=true:=ze (λi=>by rw [sub_int];exact h i) λz l c d e=>by
 rw [ZI];refine ZH c (by simpa using d) λu g=>?_
 obtain ⟨t,j,rfl⟩:=hG.mp g;exact (e t j).2
def Od {φ:Int->D} {B:Nat} (h: ∀i,ba (φ i)<=B): ∀t,tk ns t=true->ba (sub φ t)<=ba t+B:=ze (λi=>by rw [sub_int];have:=h i;omega) λz a j l e=>by
 rw [ZI,qh,qh]
 have:bj (a.map (sub φ))<=bj a+B:=iL λd g=>by
  obtain ⟨t,c,rfl⟩:=hG.mp g;have:=(e t c).2;have:=qI c;omega
 omega
def uq: ∀t,tk ns t=true->D.cy t=true/\D.dX t<=ba t:=ze (λi=>by simp [D.cy,D.dX]) λz d _ e h=>by
 have c:=QE λt a=>((h t a).2).1
 have g:=MC λt a=>dG ((h t a).2).2 (qI a)
 rw [qh];refine ⟨by simp [D.cy,D.b7,c],?_⟩;simp only [D.dX,D.cW];omega
def jj7: ∀t,tk ns t=true->df t t=true:=ze (λi=>by simp [df]) λz c _ d h=>by
 simp only [df,cz,beq_self_eq_true,Bool.true_and];exact Ue λt a=>(h t a).2
def jj6 {t:D} (h:tk ns t=true) (c:ba t<=100):eO t t= .ok (.bl true):=by
 obtain ⟨a,d⟩:=uq t h;have:eO t t= .ok (.bl (df t t)):=jn (.inl ⟨a,a,by omega⟩);rw [this,jj7 t h]
def look (a:List aR) (ds:List D) (i:Int):D:=(bU a ds (.inl i)).getD (.int i)
theorem Oe: ∀ {a:List aR} {ds:List D} (k:aR),a.length=ds.length->fP a k=(bU a ds k).isSome
 | [],[],k,_=>rfl
 | [],_::_,k,h=>by simp at h
 |_::_,[],k,h=>by simp at h
 |x::a,d::ds,k,h=>by
  have c:=Oe k (by simpa using h)
  by_cases e:x=k
  . simp [fP,bU,e]
  . have e1:fP (x::a) k=fP a k:=by simp [fP,e]
    have e2:bU (x::a) (d::ds) k=bU a ds k:=by simp [bU,e]
    rw [e1,e2,c]
def ZM {c g2:Sl->al b8} {env a:Sl} (h:c env= .ok (.nx a)):m5 c g2 env=g2 a:=by
 show (c env>>=_)=_;rw [h];rfl
def UL {c g2:Sl->al b8} {env a:Sl} {b:Bool} (h:c env= .ok (.rt b a)):m5 c g2 env= .ok (.rt b a):=by
 show (c env>>=_)=_;rw [h];rfl
def Of {t:T0} {a g2:Sl->al b8} {env:Sl} (h:t env= .ok true):BP t a g2 env=a env:=by
 show (t env>>=_)=_;rw [h];rfl
def Cj {t:T0} {a g2:Sl->al b8} {env:Sl} (h:t env= .ok false):BP t a g2 env=g2 env:=by
 show (t env>>=_)=_;rw [h];rfl
def Og {N n:Nat} {g:Sl->al b8} {ds:List D} {d:List aR} {e:List D} {b:Bool} {a:List aR} {c:List D} {env:Sl} (h:g (Qe N ds d e)= .ok (.rt b env)) (i:ds.length=n) (j:env[n]?=some (.aw (.aQ a c))):lg N n g ds d e= .ok (b,a,c):=by
 unfold lg;rw [h];show aY _ _=_;rw [jn i,j]
def Ck (z:Str) (a:List D):xf [.ak (.str z::a)]= .ok (.ak [.str z,.int ((a.length:Nat):Int)]):=by
 refine zy ?_;refine qA ?_;show (aW (bv "tuple" (ag 0)) [.ah (.ak (.str z::a))]>>=_)=_;refine (xa (jg (jk rfl rfl om) (jg (jk (JO (jg rfl rfl) rfl) rfl rfl) rfl)) (jz (by simp))).trans ?_;simp
def jhs (z:Str) (k:Int):dA (.ak [.str z,.int k]) (.ak [.str z,.int k])= .ok (.bl false):=by
 unfold dA;rw [jn (by left;simp [D.cy,D.b7,D.dX,D.cW])];simp [df,cz]
def jhX {a b:D} (c:tk ns a=true) (d:tk ns b=true) (g:ba a<=100):eO a b= .ok (.bl (df a b)):=by
 obtain ⟨e,h⟩:=uq a c;exact jn (.inl ⟨e,(uq b d).1,by omega⟩)
abbrev As:=List (Int×D)
def ky (M:As):List aR:=eI (M.map (·.1))
def vl (M:As):List D:=M.map (·.2)
def jkY (M:As):(ky M).length=(vl M).length:=by simp [ky,vl,eI]
def jjG (M:As):(ky M).length=M.length:=by simp [ky,eI]
theorem WT: ∀(M:As) (i:Int),bU (ky M) (vl M) (.inl i)=M.lookup i
 | [],i=>by simp [bU,ky,eI]
 | (x,d)::M,i=>by
  have a:=WT M i
  by_cases e:i=x
  . subst e;simp [bU,ky,vl,eI,lx]
  . have e1:bU (ky ((x,d)::M)) (vl ((x,d)::M)) (.inl i)=bU (ky M) (vl M) (.inl i):=by
     have:(pb x:aR)≠ .inl i:=λh=>e (Sum.inl.inj h).symm
     simp [bU,ky,vl,eI,this]
    rw [e1,a,lx];have:(i==x)=false:=by simpa using e
    rw [this]
def Oh {M:As} {i:Int} (d:D) (h:M.lookup i=none):ZU (ky M) (.inl i)=ky (M++[(i,d)])/\ZV (ky M) (vl M) (.inl i) d=vl (M++[(i,d)]):=by
 have a:fP (ky M) (.inl i)=false:=by
  rw [Oe (.inl i) (jkY M),WT,h];rfl
 unfold ZU ZV;rw [a];simp [ky,vl,eI]
def b6:As->As->Option As
 |M,[]=>some M
 |M,(i,d)::r=>match M.lookup i with
  |some d0=>if df d0 d=true then b6 M r else none
  |none=>b6 (M++[(i,d)]) r
theorem KW: ∀(a b M:As),b6 M (a++b)=(b6 M a).bind λc=>b6 c b
 | [],b,M=>rfl
 | (i,d)::r,b,M=>by
  simp only [Cg,b6]
  cases M.lookup i with
  |none=>exact KW r b _
  |some d0=>
   dsimp only
   split
   . exact KW r b M
   . rfl
theorem KU: ∀(c M a:As),b6 M c=some a->a.length<=M.length+c.length
 | [],M,a,h=>by cases h;simp
 | (i,d)::r,M,a,h=>by
  simp only [b6] at h
  cases e:M.lookup i with
  |none=>
   rw [e] at h;have:=KU r _ a h;simp only [dr,bN,eM] at this ⊢;omega
  |some d0=>
   rw [e] at h;dsimp only at h
   split at h
   . have:=KU r M a h;simp only [bN];omega
   . cases h
theorem Zy: ∀(g M a:As),b6 M g=some a-> ∀q∈a,q∈M\/q∈g
 | [],M,a,h,q,c=>by cases h;exact .inl c
 | (i,d)::r,M,a,h,q,c=>by
  simp only [b6] at h
  cases e:M.lookup i with
  |none=>
   rw [e] at h;rcases Zy r _ a h q c with z|z
   . rcases mD.mp z with z|z
     . exact .inl z
     . exact .inr (by simp only [bA,ei,or_false] at z;simp [z])
   . exact .inr (by simp [z])
  |some d0=>
   rw [e] at h;dsimp only at h
   split at h
   . rcases Zy r M a h q c with z|z
     . exact .inl z
     . exact .inr (by simp [z])
   . cases h
mutual
def mp:D->D->Option As
 | .int i,t=>some [(i,t)]
 | .ak (.str z::a),.ak (.str w::c)=>if z=w then gu a c else none
 |_,_=>none
def gu:List D->List D->Option As
 | [],[]=>some []
 |p::c,t::d=>(mp p t).bind λa=>(gu c d).bind λb=>some (a++b)
 |_,_=>none
end
def vU (i:Int) (t:D):mp (.int i) t=some [(i,t)]:=by simp [mp]
def VH (z w:Str) (a c:List D):mp (.ak (.str z::a)) (.ak (.str w::c))=if z=w then gu a c else none:=by simp [mp]
def Oi (z:Str) (a:List D) (i:Int):mp (.ak (.str z::a)) (.int i)=none:=by simp [mp]
def Zc (p t:D) (c d:List D):gu (p::c) (t::d)=(mp p t).bind λa=>(gu c d).bind λb=>some (a++b):=by simp [gu]
theorem Oj: ∀(a c:List D),a.length≠c.length->gu a c=none
 | [],[],h=>absurd rfl h
 | [],_::_,_=>by simp [gu]
 |_::_,[],_=>by simp [gu]
 |p::a,t::c,h=>by
  rw [Zc,Oj a c (by simpa using h)];cases mp p t<;>rfl
def jeC {p t:D} {c d:List D} {M:As}:(gu (p::c) (t::d)).bind (b6 M)=((mp p t).bind (b6 M)).bind λM1=>(gu c d).bind (b6 M1):=by
 rw [Zc]
 cases mp p t with
 |none=>rfl
 |some a=>
  cases h:gu c d with
  |none=>
   show none=(b6 M a).bind _;cases b6 M a<;>rfl
  |some b=>exact KW a b M
def Pt (ns:List Str) (t:D) (q:Int×D):Prop:=tk ns q.2=true/\ba q.2<=ba t/\num q.2<=num t
mutual
theorem D4: ∀(p t:D) (a:As),tk ns t=true->mp p t=some a-> ∀q∈a,Pt ns t q
 | .int i,t,a,d,h,q,c=>by
  rw [vU] at h;cases h;simp only [bA,ei,or_false] at c;subst c;exact ⟨d,bg _,bg _⟩
 | .ak (.str z::l),t,a,d,h,q,c=>by
  rcases qe d with ⟨i,rfl⟩| ⟨w,n,rfl,_,_,e⟩
  . rw [Oi] at h;cases h
  . rw [VH] at h
    split at h
    . obtain ⟨u,j,g⟩:=oI l n a e h q c;refine ⟨g.1,?_,?_⟩
      . have:=g.2.1;have:=qI j;rw [qh];omega
      . have:=g.2.2;rw [qr];obtain ⟨x,y,rfl⟩:=Iz j;rw [Kc];simp only [nums];omega
    . cases h
 | .ak [],t,a,d,h,q,c=>by simp [mp] at h
 | .ak (.aU::_),t,a,d,h,q,c=>by simp [mp] at h
 | .ak (.bl _::_),t,a,d,h,q,c=>by simp [mp] at h
 | .ak (.int _::_),t,a,d,h,q,c=>by simp [mp] at h
 | .ak (.ak _::_),t,a,d,h,q,c=>by simp [mp] at h
 | .ak (.ai _::_),t,a,d,h,q,c=>by simp [mp] at h
 | .ak (.eN _::_),t,a,d,h,q,c=>by simp [mp] at h
 | .ak (.aQ _ _::_),t,a,d,h,q,c=>by simp [mp] at h
 | .ak (.bP _ _::_),t,a,d,h,q,c=>by simp [mp] at h
 | .ak (.du _::_),t,a,d,h,q,c=>by simp [mp] at h
 | .ak (.fq _ _::_),t,a,d,h,q,c=>by simp [mp] at h
 | .ak (.ii _ _::_),t,a,d,h,q,c=>by simp [mp] at h
 | .aU,t,a,d,h,q,c=>by simp [mp] at h
 | .bl _,t,a,d,h,q,c=>by simp [mp] at h
 | .str _,t,a,d,h,q,c=>by simp [mp] at h
 | .ai _,t,a,d,h,q,c=>by simp [mp] at h
 | .eN _,t,a,d,h,q,c=>by simp [mp] at h
 | .aQ _ _,t,a,d,h,q,c=>by simp [mp] at h
 | .bP _ _,t,a,d,h,q,c=>by simp [mp] at h
 | .du _,t,a,d,h,q,c=>by simp [mp] at h
 | .fq _ _,t,a,d,h,q,c=>by simp [mp] at h
 | .ii _ _,t,a,d,h,q,c=>by simp [mp] at h
theorem oI: ∀(g c:List D) (a:As),(∀t∈c,tk ns t=true)->gu g c=some a-> ∀q∈a,∃t∈c,Pt ns t q
 | [],[],a,d,h,q,e=>by simp [gu] at h;subst h;cases e
 | [],_::_,a,d,h,q,e=>by simp [gu] at h
 |_::_,[],a,d,h,q,e=>by simp [gu] at h
 |p::g,t::c,a,d,h,q,e=>by
  rw [Zc] at h
  cases e1:mp p t with
  |none=>rw [e1] at h;cases h
  |some x=>
   rw [e1] at h
   cases e2:gu g c with
   |none=>rw [e2] at h;cases h
   |some y=>
    rw [e2] at h;cases h;rcases mD.mp e with z|z
    . exact ⟨t,by simp,D4 p t x (d t (by simp)) e1 q z⟩
    . obtain ⟨u,i,j⟩:=oI g c y (λu i=>d u (by simp [i])) e2 q z;exact ⟨u,by simp [i],j⟩
end
def jjD: ∀p,tk ns p=true-> ∀t a,mp p t=some a->a.length<=num p:=ze (λi t a h=>by rw [vU] at h;cases h;simp [num]) λz d _ _ n t a h=>by
 cases t with
 |ak l=>
  cases l with
  |nil=>simp [mp] at h
  |cons x c=>
   cases x with
   |str w=>
    rw [VH] at h
    split at h
    . rw [qr]
      have g: ∀(d c:List D) a,(∀p∈d,∀t a,mp p t=some a->a.length<=num p)->gu d c=some a->a.length<=nums d:=λd=>by
       induction d with
       |nil=>intro c a _ h;cases c<;>simp [gu] at h;subst h;simp
       |cons p d o=>
        intro c a j h
        cases c with
        |nil=>simp [gu] at h
        |cons t c=>
         rw [Zc] at h
         cases e1:mp p t with
         |none=>rw [e1] at h;cases h
         |some x=>
          rw [e1] at h
          cases e2:gu d c with
          |none=>rw [e2] at h;cases h
          |some y=>
           rw [e2] at h;cases h;have r:=j p (by simp) t x e1;have u:=o c y (λq e=>j q (by simp [e])) e2;simp only [nums,dr];omega
      have:=g d c a (λp e=>(n p e).2) h;omega
    . cases h
   |_=>simp [mp] at h
 |_=>simp [mp] at h
theorem ui {g:Sl->al (Option Bool)} {j:Nat} {env:Sl}: ∀a:List aR,(∀k∈a,g (env.set j (.ah (kD k)))= .ok none)->Ab g j a env= .ok none
 | [],_=>rfl
 |k::a,h=>by
  show (g (env.set j (.ah (kD k)))>>=_)=_;rw [h k (by simp)];exact ui a λc d=>h c (by simp [d])
def jfI (l:List Int):allI (eI l)=true:=by
 unfold allI;rw [mP];intro k a;obtain ⟨i,_,rfl⟩:=hG.mp a;rfl
def As.ok (ns:List Str) (M:As):Prop:= ∀q∈M,tk ns q.2=true/\ba q.2<=100
def jeB {z w:Str} {a b:Nat} (h: ¬(z=w/\a=b)):dA (.ak [.str z,.int (a:Int)]) (.ak [.str w,.int (b:Int)])= .ok (.bl true):=by
 unfold dA
 have:df (.ak [.str z,.int a]) (.ak [.str w,.int b])=false:=by
  simp only [df,cz,Bool.and_true];rw [IB]
  by_cases e:z=w
  . right
    have:a≠b:=λe2=>h ⟨e,e2⟩
    simp;omega
  . left;simpa using e
 rw [this];rfl
def jeA (z:Str) (a:Int):dA (.ak [.str z,.int a]) .aU= .ok (.bl true):=by
 unfold dA;rw [jn (by left;simp [D.cy,D.b7,D.dX,D.cW])];simp [df]
def iU (n:Nat):Sl->al b8:=tH (WC (jT n) 2 (ag 3) (ag 4)) (ox (cB false)) BO
def Cn (o:Option As) (r:al (Bool×List aR×List D)):Prop:=match o with
 |some M=>r= .ok (true,ky M,vl M)
 |none=> ∃M:As,r= .ok (false,ky M,vl M)
def Fits (ns:List Str) (n:Nat) (p:D):Prop:= ∀(t:D) (M:As),tk ns t=true->ba t<=100->M.ok ns->M.length+num p<=5000->Cn ((mp p t).bind (b6 M)) (jT n [p,t] (ky M) (vl M))
def jle {p t:D} {M c:As} (d:tk ns t=true) (j:ba t<=100) (g:M.ok ns) (h:(mp p t).bind (b6 M)=some c):c.ok ns:=by
 cases e:mp p t with
 |none=>rw [e] at h;cases h
 |some a=>
  rw [e] at h;intro q i;rcases Zy a M c h q i with z|z
  . exact g q z
  . have:=D4 p t a d e q z;exact ⟨this.1,by have:=this.2.1;omega⟩
def jkp {p t:D} {M c:As} (d:tk ns p=true) (h:(mp p t).bind (b6 M)=some c):c.length<=M.length+num p:=by
 cases e:mp p t with
 |none=>rw [e] at h;cases h
 |some a=>
  rw [e] at h;have g:=KU a M c h;have i:=jjD p d t a e;omega
theorem Ub {n:Nat} (a b:Slot): ∀(c d:List D) (M:As) (u v:Slot),(∀p∈c,tk ns p=true/\Fits ns n p)->(∀t∈d,tk ns t=true/\ba t<=100)->c.length=d.length->M.ok ns->M.length+nums c<=5000->
  match (gu c d).bind (b6 M) with
  |some M2=> ∃Q U,Kv (g2 (gN 3) (gN 4)) (iU n) (zA c d) [a,b,.aw (.aQ (ky M) (vl M)),u,v]= .ok (.nx [a,b,.aw (.aQ (ky M2) (vl M2)),Q,U])
  |none=> ∃(g:Sl) (M2:As),Kv (g2 (gN 3) (gN 4)) (iU n) (zA c d) [a,b,.aw (.aQ (ky M) (vl M)),u,v]= .ok (.rt false g)/\g[2]?=some (.aw (.aQ (ky M2) (vl M2)))
 | [],[],M,u,v,_,_,_,_,_=>by
  exact ⟨u,v,rfl⟩
 | [],_::_,_,_,_,_,_,h,_,_=>by simp at h
 |_::_,[],_,_,_,_,_,h,_,_=>by simp at h
 |p::c,t::d,M,u,v,J,L,Y,N,i=>by
  obtain ⟨w,y⟩:=J p (by simp);obtain ⟨j,l⟩:=L t (by simp);simp only [nums] at i;have r:=y t M j l N (by omega);rw [jeC]
  have O:Kv (g2 (gN 3) (gN 4)) (iU n) (zA (p::c) (t::d)) [a,b,.aw (.aQ (ky M) (vl M)),u,v]=(iU n [a,b,.aw (.aQ (ky M) (vl M)),.ah p,.ah t]>>=λo=>match o with
   | .nx q=>Kv (g2 (gN 3) (gN 4)) (iU n) (zA c d) q
   | .rt b e=> .ok (.rt b e)):=rfl
  cases e:(mp p t).bind (b6 M) with
  |none=>
   rw [e] at r;obtain ⟨M2,z⟩:=r
   have B:WC (jT n) 2 (ag 3) (ag 4) [a,b,.aw (.aQ (ky M) (vl M)),.ah p,.ah t]= .ok (false,[a,b,.aw (.aQ (ky M2) (vl M2)),.ah p,.ah t]):=by
    show (jT n [p,t] (ky M) (vl M)>>=_)=_;rw [z];rfl
   have E:iU n [a,b,.aw (.aQ (ky M) (vl M)),.ah p,.ah t]= .ok (.rt false [a,b,.aw (.aQ (ky M2) (vl M2)),.ah p,.ah t]):=by
    show (WC (jT n) 2 (ag 3) (ag 4) [a,b,.aw (.aQ (ky M) (vl M)),.ah p,.ah t]>>=_)=_;rw [B];rfl
   refine ⟨[a,b,.aw (.aQ (ky M2) (vl M2)),.ah p,.ah t],M2,?_,rfl⟩;rw [O,E];rfl
  |some M1=>
   rw [e] at r;have H:=jle j l N e;have Dt:=jkp w e
   have B:WC (jT n) 2 (ag 3) (ag 4) [a,b,.aw (.aQ (ky M) (vl M)),.ah p,.ah t]= .ok (true,[a,b,.aw (.aQ (ky M1) (vl M1)),.ah p,.ah t]):=by
    show (jT n [p,t] (ky M) (vl M)>>=_)=_;rw [show jT n [p,t] (ky M) (vl M)=_ from r];rfl
   have E:iU n [a,b,.aw (.aQ (ky M) (vl M)),.ah p,.ah t]= .ok (.nx [a,b,.aw (.aQ (ky M1) (vl M1)),.ah p,.ah t]):=by
    show (WC (jT n) 2 (ag 3) (ag 4) [a,b,.aw (.aQ (ky M) (vl M)),.ah p,.ah t]>>=_)=_;rw [B];rfl
   rw [O,E];exact Ub a b c d M1 (.ah p) (.ah t) (λx I=>J x (by simp [I])) (λx I=>L x (by simp [I])) (by simpa using Y) H (by omega)
theorem Ol: ∀(n:Nat) (p:D),tk ns p=true->ba p<=n->Fits ns n p
 |0,p,_,h=>by have:=JB p;omega
 |n+1,p,L,hh=>by
  intro t M ht N hM hl;have hi:=v0 L;have a: ∀q d u v,bx (aW (bv "tuple" (ag 0))) [.ah p,q,d,u,v]= .ok (!Ci p):=λq d u v=>qQ (jG (by rw [yV];exact hi))
  rcases qe L with ⟨i,rfl⟩| ⟨z,r,rfl,hz,hlr,hr⟩
  . rw [vU];have o:(ky M).length<aP:=by rw [jjG];exact Nat.lt_of_le_of_lt (show M.length<=5000 by omega) (by decide)
    have B:Do 2 (ag 0) (ag 1) (ag 1) [.ah (.int i),.ah t,.aw (.aQ (ky M) (vl M)),.un,.un]=aY ((ky M).length<aP) (match bU (ky M) (vl M) (.inl i) with
      |some d0=>eO d0 t>>=λr=>match r with
        | .bl b=> .ok (.rt b [.ah (.int i),.ah t,.aw (.aQ (ky M) (vl M)),.un,.un])
        |_=> .aj
      |none=>eO t t>>=λr=>match r with
        | .bl b=> .ok (.rt b [.ah (.int i),.ah t,.aw (.aQ (ZU (ky M) (.inl i)) (ZV (ky M) (vl M) (.inl i) t)),.un,.un])
        |_=> .aj):=rfl
    rw [jn o,WT] at B
    have y: ∀(b:Bool) M2 c,Do 2 (ag 0) (ag 1) (ag 1) [.ah (.int i),.ah t,.aw (.aQ (ky M) (vl M)),.un,.un]= .ok (.rt b c)->c[2]?=some (.aw (.aQ (ky M2) (vl M2)))->jT (n+1) [.int i,t] (ky M) (vl M)= .ok (b,ky M2,vl M2):=λb M2 c I O=>by
      refine Og ?_ rfl O;exact UL ((Of (a _ _ _ _)).trans I)
    show Cn (b6 M [(i,t)]) _;simp only [b6]
    cases e:M.lookup i with
    |none=>
      rw [e] at B;rw [jj6 ht N,(Oh t e).1,(Oh t e).2] at B;exact y true _ _ B rfl
    |some d0=>
      rw [e] at B;dsimp only at B ⊢
      have Q:tk ns d0=true/\ba d0<=100:=by
        have:(i,d0)∈M:=by
         clear B y hl hM o
         induction M with
         |nil=>cases e
         |cons q M ih=>
           obtain ⟨x,d⟩:=q;rw [lx] at e
           by_cases hx:i=x
           . subst hx;simp at e;subst e;simp
           . have:(i==x)=false:=by simpa using hx
             rw [this] at e;exact gc _ (ih e)
        exact hM _ this
      rw [jhX Q.1 ht Q.2] at B
      cases hb:df d0 t with
      |true=>
        rw [hb] at B;rw [if_pos rfl];exact y true M _ B rfl
      |false=>
        rw [hb] at B;rw [if_neg gd];exact ⟨M,y false M _ B rfl⟩
  . rw [qh] at hh;rw [qr] at hl;have U:=Qt (d:= .ak (.str z::r)) rfl;simp only [bc] at U;have y: ∀(b:Bool) M2 c,yr xf jP (jT n) [.ah (.ak (.str z::r)),.ah t,.aw (.aQ (ky M) (vl M)),.un,.un]= .ok (.rt b c)->c[2]?=some (.aw (.aQ (ky M2) (vl M2)))->jT (n+1) [.ak (.str z::r),t] (ky M) (vl M)= .ok (b,ky M2,vl M2):=λb M2 c I O=>Og I rfl O
    have stop:aW (ap (jj 1 xf (jb (ag 0) ae)) (jj 1 xf (jb (ag 1) ae)) dA) [.ah (.ak (.str z::r)),.ah t,.aw (.aQ (ky M) (vl M)),.un,.un]= .ok true->jT (n+1) [.ak (.str z::r),t] (ky M) (vl M)= .ok (false,ky M,vl M):=λE=>by
      refine y false M [.ah (.ak (.str z::r)),.ah t,.aw (.aQ (ky M) (vl M)),.un,.un] ?_ rfl;unfold yr;rw [ZM ((Cj (a _ _ _ _)))];exact UL ((Of E))
    rcases qe ht with ⟨j,rfl⟩| ⟨w,g,rfl,_,_,t7⟩
    . rw [Oi];exact ⟨M,stop (jG (jk (jo (jg rfl rfl) rfl (Ck z r)) (jo (jg rfl rfl) rfl rfl) (jeA z _)))⟩
    . rw [VH]
      by_cases J:z=w/\r.length=g.length
      . obtain ⟨rfl,o⟩:=J;rw [if_pos rfl];have Y:=Qt (d:= .ak (.str z::g)) rfl;simp only [bc] at Y;have Om:=Ck z g;rw [<-o] at Om
        have E:aW (ap (jj 1 xf (jb (ag 0) ae)) (jj 1 xf (jb (ag 1) ae)) dA) [.ah (.ak (.str z::r)),.ah (.ak (.str z::g)),.aw (.aQ (ky M) (vl M)),.un,.un]= .ok false:=
         jG (jk (jo (jg rfl rfl) rfl (Ck z r)) (jo (jg rfl rfl) rfl Om) (jhs z _))
        have IC:lX (jj 1 jP (jb (ag 0) ae)) (jj 1 jP (jb (ag 1) ae)) [.ah (.ak (.str z::r)),.ah (.ak (.str z::g)),.aw (.aQ (ky M) (vl M)),.un,.un]= .ok (zA r g):=by
         have c1:jj 1 jP (jb (ag 0) ae) [.ah (.ak (.str z::r)),.ah (.ak (.str z::g)),.aw (.aQ (ky M) (vl M)),.un,.un]= .ok (.ak r):=jo (jg rfl rfl) rfl U;have c2:jj 1 jP (jb (ag 1) ae) [.ah (.ak (.str z::r)),.ah (.ak (.str z::g)),.aw (.aQ (ky M) (vl M)),.un,.un]= .ok (.ak g):=jo (jg rfl rfl) rfl Y;unfold lX;rw [c1,xp,c2];rfl
        have H:tF (lX (jj 1 jP (jb (ag 0) ae)) (jj 1 jP (jb (ag 1) ae))) (g2 (gN 3) (gN 4)) (iU n) [.ah (.ak (.str z::r)),.ah (.ak (.str z::g)),.aw (.aQ (ky M) (vl M)),.un,.un]=Kv (g2 (gN 3) (gN 4)) (iU n) (zA r g) [.ah (.ak (.str z::r)),.ah (.ak (.str z::g)),.aw (.aQ (ky M) (vl M)),.un,.un]:=by
         show (lX _ _ _>>=_)=_;rw [IC];rfl
        have l:=Ub (.ah (.ak (.str z::r))) (.ah (.ak (.str z::g))) r g M .un .un (λp L=>⟨hr p L,Ol n p (hr p L) (by have:=qI L;omega)⟩) (λu hu=>⟨t7 u hu,by rw [qh] at N;have:=qI hu;omega⟩) o hM (by omega)
        cases e:(gu r g).bind (b6 M) with
        |none=>
         rw [e] at l;obtain ⟨c,M2,I,O⟩:=l;refine ⟨M2,y false M2 c ?_ O⟩;unfold yr;rw [ZM ((Cj (a _ _ _ _))),ZM ((Cj E))];exact UL (H.trans I)
        |some M2=>
         rw [e] at l;obtain ⟨u',v',I⟩:=l;refine y true M2 [.ah (.ak (.str z::r)),.ah (.ak (.str z::g)),.aw (.aQ (ky M2) (vl M2)),u',v'] ?_ rfl;unfold yr;rw [ZM ((Cj (a _ _ _ _))),ZM ((Cj E))];exact (ZM (H.trans I)).trans rfl
      . have hno:(if z=w then gu r g else none)=none:=by
         by_cases e:z=w
         . rw [if_pos e];exact Oj r g λe2=>J ⟨e,e2⟩
         . rw [if_neg e]
        rw [hno];exact ⟨M,stop (jG (jk (jo (jg rfl rfl) rfl (Ck z r)) (jo (jg rfl rfl) rfl (Ck w g)) (jeB J)))⟩
def mf:Option As->D
 |some M=> .aQ (ky M) (vl M)
 |none=> .aU
def Kx {p t:D} (i:tk ns p=true) (j:tk ns t=true) (l:ba p<=64) (c:ba t<=100) (n:num p<=1000):qp [p,t]= .ok (mf ((mp p t).bind (b6 []))):=by
 have a:=Ol 64 p i l t [] j c (λ_ h=>by cases h) (by simp only [eM];omega);refine zy ?_;unfold Xz;rw [jl (env':=[.ah p,.ah t,.aw (.aQ [] [])]) rfl]
 cases e:(mp p t).bind (b6 []) with
 |none=>
  rw [e] at a;obtain ⟨M2,d⟩:=a
  have g:WC (jT 64) 2 (ag 0) (ag 1) [.ah p,.ah t,.aw (.aQ [] [])]= .ok (false,[.ah p,.ah t,.aw (.aQ (ky M2) (vl M2))]):=by
   show (jT 64 [p,t] (ky []) (vl [])>>=_)=_;rw [d];rfl
  show (WC (jT 64) 2 (ag 0) (ag 1) _>>=_)=_;rw [g];rfl
 |some M2=>
  rw [e] at a
  have g:WC (jT 64) 2 (ag 0) (ag 1) [.ah p,.ah t,.aw (.aQ [] [])]= .ok (true,[.ah p,.ah t,.aw (.aQ (ky M2) (vl M2))]):=by
   show (jT 64 [p,t] (ky []) (vl [])>>=_)=_;rw [show jT 64 [p,t] (ky []) (vl [])=_ from a];rfl
  show (WC (jT 64) 2 (ag 0) (ag 1) _>>=_)=_;rw [g];rfl
theorem Z7: ∀ {M:As} {i:Int} {d:D},M.lookup i=some d->(i,d)∈M
 | [],_,_,h=>by cases h
 | (x,e)::M,i,d,h=>by
  rw [lx] at h
  by_cases a:i=x
  . subst a;simp at h;subst h;simp
  . have:(i==x)=false:=by simpa using a
    rw [this] at h;exact gc _ (Z7 h)
theorem Yp: ∀ {M:As} {i:Int},i∈M.map (·.1)-> ∃d,M.lookup i=some d
 | [],_,h=>by cases h
 | (x,e)::M,i,h=>by
  rw [lx]
  by_cases a:i=x
  . subst a;exact ⟨e,by simp⟩
  . have:(i==x)=false:=by simpa using a
    rw [this];simp only [fh,bA] at h;exact Yp (h.resolve_left a)
def xT (d:D):D->Option D
 | .int i=>if 0<=i then (bc d)[i.toNat]? else none
 |_=>none
def gS:D->List D->Option D
 |d,[]=>some d
 |d,x::r=>match xT d x with
  |some e=>gS e r
  |none=>none
def putAt (o:D):List Int->D->D
 | [],_=>o
 |i::p,.ak (h::a)=> .ak (h::a.set i.toNat (putAt o p (a.getD i.toNat (.int 0))))
 |_::_,d=>d
def Jw (o:D) (i:Int) (p:List Int) (h:D) (a:List D):putAt o (i::p) (.ak (h::a))= .ak (h::a.set i.toNat (putAt o p (a.getD i.toNat (.int 0)))):=by simp [putAt]
def YI {t e:D} {i:Int} {p:List Int} (g:tk ns t=true) (h:gS t ((i::p).map .int)=some e):
  ∃z c u,t= .ak (.str z::c)/\z∈ns/\c.length<=9/\(∀u∈c,tk ns u=true)/\0<=i/\c[i.toNat]?=some u/\gS u (p.map .int)=some e:=by
 simp only [fh,gS] at h
 cases a:xT t (.int i) with
 |none=>rw [a] at h;cases h
 |some u=>
  rw [a] at h;simp only [xT] at a
  split at a
  . rename_i l;rcases qe g with ⟨j,rfl⟩| ⟨z,c,rfl,n,o,d⟩
    . cases a
    . exact ⟨z,c,u,rfl,n,o,d,l,a,h⟩
  . cases a
theorem vj {o:D} (c:tk ns o=true): ∀(p:List Int) (t:D),tk ns t=true->tk ns (putAt o p t)=true
 | [],t,_=>by simpa [putAt] using c
 |i::p,t,d=>by
  rcases qe d with ⟨j,rfl⟩| ⟨z,e,rfl,g,l,a⟩
  . simpa [putAt] using d
  . rw [Jw];refine ZH g (by simpa using l) λu n=>?_
    rcases List.mem_or_eq_of_mem_set n with h|rfl
    . exact a u h
    . refine vj c p _ ?_;rw [yU]
      cases h:e[i.toNat]? with
      |none=>rfl
      |some v=>exact a v (lu h)
theorem uh {w:D}: ∀(a:List D) (k:Nat),bj (a.set k w)<=max (bj a) (ba w)
 | [],k=>by simp [bj]
 |d::r,0=>by simp only [ID,bj];omega
 |d::r,k+1=>by have:=uh (w:=w) r k;simp only [Cf,bj];omega
theorem vR {w:D}: ∀(a:List D) (k:Nat),nums (a.set k w)+num (a.getD k (.int 0))<=nums a+num w+1
 | [],k=>by simp [nums,num]
 |d::r,0=>by simp only [ID,nums,List.getD_cons_zero];omega
 |d::r,k+1=>by have:=vR (w:=w) r k;simp only [Cf,nums,List.getD_cons_succ];omega
theorem ZL {o:D}: ∀(p:List Int) (t e:D),tk ns t=true->gS t (p.map .int)=some e->ba (putAt o p t)<=max (ba t) (p.length+ba o)/\num (putAt o p t)<=num t+num o+p.length
 | [],t,e,_,_=>by simp only [putAt,eM];omega
 |i::p,t,e,j,h=>by
  obtain ⟨z,a,u,rfl,q,r,c,v,d,l⟩:=YI j h;have g:=lu d;obtain ⟨y,B⟩:=ZL (o:=o) p u e (c u g) l;have e1:a.getD i.toNat (.int 0)=u:=by rw [yU,d];rfl
  have E:=uh (w:=putAt o p u) a i.toNat;have n:=vR (w:=putAt o p u) a i.toNat;have H:=qI g;rw [Jw,e1,qh,qr,qh,qr,bN];rw [e1] at n;omega
def vI: ∀t,tk ns t=true-> ∀q∈bL t,gS t (q.1.map .int)=some q.2:=ze (λi q hq=>by
   rw [Jx] at hq;simp only [bA,ei,or_false] at hq
   subst hq;rfl) λz c g l h q hq=>by
 rcases bA.mp hq with rfl|hq
 . rfl
 . obtain ⟨j,u,p,a,d,rfl⟩:=Q1 hq;have:=(h u (Z6 a)).2 p d;simp only [fh,gS,xT];have e:(((0+j:Nat):Int)).toNat=j:=by omega
   rw [e,show (bc (D.ak (D.str z::c)))[j]?=some u from a];exact this
theorem KK: ∀p:List Int,D.cW (p.map .int)=0/\D.b7 (p.map .int)=true
 | []=>⟨rfl,rfl⟩
 |i::p=>by simp [D.cW,D.dX,D.b7,D.cy,KK p]
def On (p:List Int):eO (jV p) (.ak [])= .ok (.bl p.isEmpty):=by
 obtain ⟨a,c⟩:=KK p;have d:sV (jV p) (.ak []):= .inl ⟨by simpa [jV,D.cy] using c,rfl,by simp [jV,D.dX,a]⟩;refine (jn d).trans ?_;cases p<;>rfl
def Oo (l:List D) (k:Nat):cutD l none (some (k:Int))=l.take k:=by
 unfold cutD;rw [HT.fj,HT.gp];simp
def uG (l:List D) (k:Nat):cutD l (some (k:Int)) none=l.drop k:=by
 unfold cutD;rw [HT.fj,HT.gp]
 by_cases h:k<=l.length
 . rw [Nat.min_eq_left h];exact List.take_of_length_le (by simp)
 . rw [Nat.min_eq_right (by omega),List.drop_of_length_le (bg _),List.drop_of_length_le (by omega)];simp
theorem Yj {o:D}: ∀(n:Nat) (p:List Int) (t e:D),p.length<n->tk ns t=true->gS t (p.map .int)=some e->wL n [t,jV p,o]= .ok (putAt o p t)
 |0,p,t,e,h,_,_=>by omega
 |n+1,[],t,e,h,l,q=>by
  refine Bu ?_;refine Jn ((fy (jG ((jk rfl (xa rfl (jz (by simp))) (On []))))).trans (Jv ?_));simp only [putAt];rfl
 |n+1,i::p,t,e,h,l,q=>by
  obtain ⟨z,a,u,rfl,H,I,d,J,c,g⟩:=YI l q;have r:=Yj (o:=o) n p u e (by simp at h;omega) (d u (lu c)) g;obtain ⟨k,rfl⟩: ∃k:Nat,i=k:=⟨i.toNat,by omega⟩
  simp only [rb] at c;have e1:a.getD k (.int 0)=u:=by rw [yU,c];rfl
  have v:k<a.length:=by
   by_cases z:k<a.length
   . exact z
   . rw [n5 (by omega)] at c;cases c
  rw [Jw,rb,e1];generalize putAt o p u=w at r;refine zy ?_;refine (jl ((dY (jG ((jk rfl (xa rfl (jz (by simp))) (On (k::p)))))))).trans ?_;refine (jl ((jD (jk (jk rfl rfl om) rfl rfl)))).trans ?_
  have y:qv (ag 0) zZ (zU (ag 3)) e9 [.ah (.ak (.str z::a)),.ah (jV (k::p)),.ah o,.ah (.int ((k+1:Nat):Int))]= .ok (.ak (.str z::a.take k)):=by
   refine (qP rfl rfl (xg rfl) rfl).trans ?_;rw [Oo];rfl
  have B:qv (ag 0) (zU (ap (ag 3) (cI 1) aK)) zZ e9 [.ah (.ak (.str z::a)),.ah (jV (k::p)),.ah o,.ah (.int ((k+1):Int))]= .ok (.ak (a.drop (k+1))):=by
   refine (qP rfl (xg (j:=((k+2:Nat):Int)) (jk rfl rfl rfl)) rfl rfl).trans ?_;rw [uG];rfl
  have E:jj 3 (wL n) (jb (ap (ag 0) (ag 3) aX) (jb (qv (ag 1) (zU (cI 1)) zZ e9) (jb (ag 2) ae))) [.ah (.ak (.str z::a)),.ah (jV (k::p)),.ah o,.ah (.int ((k+1):Int))]= .ok w:=by
   refine jo (jg (jk rfl rfl (IA (by simpa using c))) (jg ((qP rfl (xg rfl) rfl rfl).trans ?_) (jg rfl rfl))) rfl r;show al.ok (D.ak (cutD (.int k::p.map .int) (some 1) none))=_;rw [p5];rfl
  refine qA ((jk (jk y (xa (jg E rfl) (jz (by simp))) (KS rfl (jz (by simp;omega)))) B (KS (by simp) (jz (by simp;omega)))).trans ?_);have:a.set k w=a.take k++w::a.drop (k+1):=by rw [List.set_eq_take_append_cons_drop,if_pos v]
  rw [this];simp
theorem Op {c:List aR} {ds:List D}: ∀(n:Nat) (t:D),tk ns t=true->ba t<=n->zO n [t,.aQ c ds]= .ok (sub (look c ds) t)
 |0,t,_,h=>by have:=JB t;omega
 |n+1,t,o,p=>by
  have q:qg 2 [t,.aQ c ds]=[.ah t,.ah (.aQ c ds)]:=rfl;have u:=v0 o;have a:bx (aW (bv "tuple" (ag 0))) [.ah t,.ah (.aQ c ds)]= .ok (!Ci t):=qQ (jG (by rw [yV];exact u));rcases qe o with ⟨i,rfl⟩| ⟨z,r,rfl,y,B,v⟩
  . refine Bu ?_;exact Jn ((fy a).trans (Jv rfl))
  . rw [qh] at p;have j:=Qt (d:= .ak (.str z::r)) rfl
    have e:zN false 1 [1] (dU (jj 1 jP (jb (ag 0) ae))) (gN 0) qz (jj 2 (zO n) (jb (ag 0) (jb (ag 1) ae))) [.ah (.ak (.str z::r)),.ah (.aQ c ds)]= .ok (.ai (r.map (sub (look c ds)))):=by
     refine Mj rfl (sub (look c ds)) (λd=>d∈r) (Xr (jo (jg rfl rfl) rfl j) rfl) (λd g=>g) (jz (by omega)) ?_;intro d w g;refine jo (jg rfl (jg rfl rfl)) rfl (Op n d (v d g) ?_);have:=qI g;omega
    refine zy ?_;unfold Qz;rw [q,jl ((dY a)),ZI];have l:qv (ag 0) zZ (zU (cI 1)) e9 [.ah (.ak (.str z::r)),.ah (.aQ c ds)]= .ok (.ak [.str z]):=qP rfl rfl (xg rfl) (show al.ok (D.ak (cutD (.str z::r) none (some 1)))=_ by rw [Ix]);refine (qA (jk l (JO (jg e rfl) rfl) (KS rfl ?_))).trans rfl;rw [dQ];simp only [bN,eM];exact jz (by omega)
theorem VE {w u:D}: ∀(a:List D) (k:Nat),a[k]?=some u->nums (a.set k w)+num u=nums a+num w
 | [],k,h=>by simp at h
 |d::r,0,h=>by simp at h;subst h;simp only [ID,nums];omega
 |d::r,k+1,h=>by have:=VE (w:=w) r k (by simpa using h);simp only [Cf,nums];omega
theorem VF {o:D}: ∀(p:List Int) (t e:D),tk ns t=true->gS t (p.map .int)=some e->num (putAt o p t)+num e=num t+num o
 | [],t,e,_,h=>by
  simp only [List.map_nil,gS,Option.some.injEq] at h;subst h;simp only [putAt];omega
 |i::p,t,e,g,h=>by
  obtain ⟨z,d,u,rfl,l,n,a,q,c,j⟩:=YI g h;have r:=VF (o:=o) p u e (a u (lu c)) j;have e1:d.getD i.toNat (.int 0)=u:=by rw [yU,c];rfl
  have v:=VE (w:=putAt o p u) d i.toNat c;rw [Jw,e1,qr,qr];omega
def jhp {c:Int->D} {B:Nat} (n:1<=B) (h: ∀i,num (c i)<=B): ∀t,tk ns t=true->num (sub c t)<=num t*B:=ze (λi=>by rw [sub_int];have:=h i;simp [num];omega) λz e _ _ g=>by
 rw [ZI,qr,qr]
 have: ∀a:List D,(∀u∈a,num (sub c u)<=num u*B)->nums (a.map (sub c))<=nums a*B:=λa=>by
  induction a with
  |nil=>intro _;simp [nums]
  |cons u r j=>
   intro d;have o:=d u (by simp);have p:=j λx l=>d x (by simp [l])
   simp only [fh,nums,Nat.add_mul];omega
 have:=this e λu d=>(g u d).2
 rw [Nat.add_mul];omega
def fX (l u:D):Option As:=(mp l u).bind (b6 [])
def lk (M:As):Int->D:=look (ky M) (vl M)
def Oq {M:As} {u:D} (h: ∀q∈M,Pt ns u q) (i:Int):tk ns (lk M i)=true/\ba (lk M i)<=ba u/\num (lk M i)<=num u:=by
 unfold lk look;rw [WT]
 cases a:M.lookup i with
 |none=>exact ⟨rfl,by simp only [CM,ba];exact JB u,by simp only [CM,num];exact Mg u⟩
 |some d=>exact h _ (Z7 a)
def res (t:D) (q:List Int×D) (r:D) (M:As):D:=putAt (sub (lk M) r) q.1 t
def UV: ∀t,tk ns t=true-> ∀q∈bL t,num q.2<=num t/\ba q.2<=ba t:=ze (λi q hq=>by
   rw [Jx] at hq;simp only [bA,ei,or_false] at hq;subst hq;exact ⟨bg _,bg _⟩) λz e _ _ h q hq=>by
 rcases bA.mp hq with rfl|hq
 . exact ⟨bg _,bg _⟩
 . obtain ⟨j,u,p,c,d,rfl⟩:=Q1 hq;have a:=(h u (Z6 c)).2 p d;have:=WI (Z6 c);have:=qI (Z6 c);rw [qr,qh];simp only at a ⊢;omega
def YY {t r:D} {q:List Int×D} {M:As} (a:tk ns t=true) (e:q∈bL t) (g:tk ns r=true) (j: ∀x∈M,Pt ns q.2 x):
  tk ns (res t q r M)=true/\ba (res t q r M)<=2*ba t+ba r/\num (res t q r M)<=num t+num r*num t:=by
 have h:=λi=>Oq j i
 have c:=UV t a q e;have l:=yL t a q e;have d:=vI t a q e;have n:=jiN (λi=>(h i).1) r g;have p:=Od (λi=>dG (h i).2.1 c.2) r g;have u:=jhp (Mg t) (λi=>dG (h i).2.2 c.1) r g;have v:=(ZL (o:=sub (lk M) r) q.1 t q.2 a d).1;have w:=VF (o:=sub (lk M) r) q.1 t q.2 a d;exact ⟨vj n q.1 t a,by unfold res;omega,by unfold res;omega⟩
def WQ {d:D} (h:bT d=true):jY [d]=if bw d=true then .exc "TooGreat" else .ok d:=by
 have a:=NW h
 cases e:bw d with
 |true=>
  rw [e] at a;refine QW ?_;unfold Zj;exact Qj (Ws (by decreasing_with exact rfl) rfl)
 |false=>
  rw [e] at a;refine Hb ?_;unfold Zj
  decreasing_with exact rfl
def vo {t l r:D} {q:List Int×D} {M:As} (c:tk ns t=true) (g:q∈bL t) (h:Ru ns l r) (i: ∀x∈M,Pt ns q.2 x) (u:ba t<=60):
  qZ [t,jV q.1,.ak [l,r],.aQ (ky M) (vl M)]=if bw (res t q r M)=true then .exc "TooGreat" else .ok (res t q r M):=by
 obtain ⟨j,v,w⟩:=YY c g h.tr i;have a:=h.hr;have n:=yL t c q g;have e1:zO 64 [r,.aQ (ky M) (vl M)]= .ok (sub (lk M) r):=Op 64 r h.tr (by omega);have e2:=Yj (o:=sub (lk M) r) 64 q.1 t q.2 (by omega) c (vI t c q g);have p:jY [putAt (sub (lk M) r) q.1 t]=_:=WQ (wZ _ j);have y:aX (.ak [l,r]) (.int 1)= .ok r:=B1 _ _ _
 have d:zt 1 jY (jb (jj 3 (wL 64) (jb (ag 0) (jb (ag 1) (jb (jj 2 (zO 64) (jb (ap (ag 2) (cI 1) aX) (jb (ag 3) ae))) ae)))) ae) [.ah t,.ah (jV q.1),.ah (.ak [l,r]),.ah (.aQ (ky M) (vl M))]=if bw (res t q r M)=true then .exc "TooGreat" else .ok (res t q r M):=
  (y0 (by decreasing_with exact rfl) rfl).trans p
 cases e:bw (res t q r M) with
 |true=>
  rw [e] at d;exact QW (vz d)
 |false=>
  rw [e] at d;exact Hb (Jv d)
def stI (t:D) (q:List Int×D) (k:Nat) (p:D×D):al (List D):=match fX p.1 q.2 with
 |some M=>if bw (res t q p.2 M)=true then .exc "TooGreat" else .ok [.ak [jV q.1,.int (k:Int),res t q p.2 M]]
 |none=> .ok []
def ip (t:D) (q:List Int×D):Nat->List (D×D)->al (List D)
 |_,[]=> .ok []
 |k,p::c=>match stI t q k p with
  | .ok a=>(match ip t q (k+1) c with
   | .ok b=> .ok (a++b)
   |r=>r)
  |r=>r
def p9 (t:D) (c:List (D×D)):List (List Int×D)->al (List D)
 | []=> .ok []
 |q::L=>match ip t q 0 c with
  | .ok a=>(match p9 t c L with
   | .ok b=> .ok (a++b)
   |r=>r)
  |r=>r
def D5 (t:D) (a:List (D×D)):al (List D):=p9 t a (bL t)
def IE (g:List D) (E:List D->Slot->Slot->Slot->Slot->Slot->Sl) (r:al (List D)) (o:al aT):Prop:=match r with
 | .ok l=> ∃a b c d e,o= .ok (.nx (E (g++l) a b c d e))
 | .exc c=>o= .exc c
 | .aj=>False
def Ot {t:D} {q:List Int×D} {k:Nat} {p:D×D} {a:List D} (h:stI t q k p= .ok a):a.length<=1:=by
 unfold stI at h
 split at h
 . split at h
   . cases h
   . cases h;simp
 . cases h;simp
theorem Ou {t:D} {q:List Int×D}: ∀ {k:Nat} {d:List (D×D)} {a:List D},ip t q k d= .ok a->a.length<=d.length
 |_,[],a,h=>by cases h;simp
 |k,p::d,a,h=>by
  unfold ip at h
  cases e:stI t q k p with
  |ok x=>
   rw [e] at h
   cases g:ip t q (k+1) d with
   |ok y=>
    rw [g] at h;cases h;have:=Ot e;have:=Ou g;simp only [dr,bN];omega
   |exc c=>rw [g] at h;cases h
   |aj=>rw [g] at h;cases h
  |exc c=>rw [e] at h;cases h
  |aj=>rw [e] at h;cases h
def rM : Sl -> al aT := (aq (zd (jw 7 (jj 2 qp (jb (ap (ag 6) (cI 0) aX) (jb (ag 4) ae)))))
      (fR (aW (ap (ag 7) cN m3)) (qH 2 (aD (jb (Ul (ag 3)) (jb (Ul (ag 5)) (jb (zt 4 qZ (jb (ag 1) (jb (ag 3) (jb (ag 6) (jb (ag 7) ae))))) ae))))) (zd bF)))
def uk {l u:D} (c:tk ns u=true) {M:As} (h:fX l u=some M): ∀q∈M,Pt ns u q:=by
 unfold fX at h
 cases e:mp l u with
 |none=>rw [e] at h;cases h
 |some a=>
  rw [e] at h;intro q d;rcases Zy a [] M h q d with z|z
  . cases z
  . exact D4 l u a c e q z
theorem vn {t:D} {O:Slot} {q:List Int×D} (y:tk ns t=true) (z:q∈bL t) (H:ba t<=60) (I:num t<=1000): ∀(g:List (D×D)) (k:Nat) (d:List D) (n o r:Slot),p7 ns g->d.length+g.length<=10000->
  IE d (λl _ _ a b c=>[O,.ah t,.aw (.ai l),.ah (jV q.1),.ah q.2,a,b,c]) (ip t q k g) (bh (zT (g2 (gN 5) (gN 6)) rM) (jJ k (g.map rl)) [O,.ah t,.aw (.ai d),.ah (jV q.1),.ah q.2,n,o,r])
 | [],k,d,n,o,r,_,_=>⟨.un,.un,n,o,r,by simp [jJ,bh]⟩
 |p::g,k,d,n,o,r,h,J=>by
  simp only [bN] at J;have B:=h p (by simp);have L:=UV t y q z;have w:=yL t y q z;have h1:=B.hl;have h2:=B.nl;have u:qp [p.1,q.2]= .ok (mf (fX p.1 q.2)):=Kx B.tl w.2.2 (by omega) (by omega) (by omega);have i0:aX (rl p) (.int 0)= .ok p.1:=om
  have go: ∀(a:List D) j,stI t q k p= .ok a->zT (g2 (gN 5) (gN 6)) rM (.ak [.int k,rl p]) [O,.ah t,.aw (.ai d),.ah (jV q.1),.ah q.2,n,o,r]= .ok (.nx [O,.ah t,.aw (.ai (d++a)),.ah (jV q.1),.ah q.2,.ah (.int k),.ah (rl p),j])->
    IE d (λl _ _ a b c=>[O,.ah t,.aw (.ai l),.ah (jV q.1),.ah q.2,a,b,c]) (ip t q k (p::g)) (bh (zT (g2 (gN 5) (gN 6)) rM) (.ak [.int k,rl p]::jJ (k+1) (g.map rl)) [O,.ah t,.aw (.ai d),.ah (jV q.1),.ah q.2,n,o,r]):=λa j e i=>by
   rw [wc i];have N:=Ot e;have v:=vn (O:=O) y z H I g (k+1) (d++a) (.ah (.int k)) (.ah (rl p)) j (λx Q=>h x (by simp [Q])) (by simp only [dr];omega);unfold ip;rw [e]
   cases e2:ip t q (k+1) g with
   |ok b=>
    rw [e2] at v;obtain ⟨U,Y,x3,x4,x5,hr⟩:=v;exact ⟨U,Y,x3,x4,x5,by rw [hr];simp⟩
   |exc c=>rw [e2] at v;exact v
   |aj=>rw [e2] at v;exact v.elim
  cases e:fX p.1 q.2 with
  |none=>
   rw [e] at u;have u:qp [p.1,q.2]= .ok .aU:=u;refine go [] (.ah .aU) (by unfold stI;rw [e]) ?_;unfold rM;simp only [nS]
   decreasing_with exact rfl
  |some M=>
   have hM:=uk w.2.2 e;rw [e] at u;have u:qp [p.1,q.2]= .ok (.aQ (ky M) (vl M)):=u;have i:qZ [t,jV q.1,rl p,.aQ (ky M) (vl M)]=_:=vo y z B hM H
   cases E:bw (res t q p.2 M) with
   |false=>
    rw [E] at i;have i:qZ [t,jV q.1,rl p,.aQ (ky M) (vl M)]= .ok (res t q p.2 M):=i;refine go [.ak [jV q.1,.int k,res t q p.2 M]] (.ah (.aQ (ky M) (vl M))) (by unfold stI;rw [e];simp [E]) ?_;unfold rM
    decreasing_with exact rfl
   |true=>
    rw [E] at i;have i:qZ [t,jV q.1,rl p,.aQ (ky M) (vl M)]= .exc "TooGreat" :=i;have e1:stI t q k p= .exc "TooGreat" :=by unfold stI;rw [e];simp [E]
    unfold ip;rw [e1];refine Zk ((YM rfl).trans ?_);unfold rM;refine (jl (by decreasing_with exact rfl)).trans ?_;refine Ws (by decreasing_with exact rfl) (NG rfl ?_);refine jit rfl (jgJ (Ui (KP rfl) (Ui (KP rfl) (jfw ((y0 (by decreasing_with exact rfl) rfl).trans i)))))
theorem Vs {a:Type} (f g:a->D): ∀L:List a,zA (L.map f) (L.map g)=L.map λx=> .ak [f x,g x]
 | []=>rfl
 |x::L=>by simp [zA,Vs f g L]
abbrev pq (x:List Int×D):D:= .ak [jV x.1,x.2]
def IF:Sl->al aT:=eh (Uf (gk "Rules" "listed" (ge 0))) (g2 (gN 5) (gN 6)) rM
theorem Ve {t:D} {i:List (D×D)} {hs:List D} (B:tk ns t=true) (E:ba t<=60) (H:num t<=1000) (I:p7 ns i) (J:i.length<=10): ∀(L:List (List Int×D)) (g:List D) (u v n o p:Slot),(∀q∈L,q∈bL t)->g.length+10*L.length<=10000->
  IE g (λl a b c d e=>[.ah (obj i hs),.ah t,.aw (.ai l),a,b,c,d,e]) (p9 t i L) (bh (zT (g2 (gN 3) (gN 4)) IF) (L.map pq) [.ah (obj i hs),.ah t,.aw (.ai g),u,v,n,o,p])
 | [],g,u,v,n,o,p,_,_=>⟨u,v,n,o,p,by simp [bh]⟩
 |q::L,g,u,v,n,o,p,h,N=>by
  simp only [bN] at N;have Q:=h q (by simp);have j:=vn (O:= .ah (obj i hs)) B Q E H i 0 g n o p I (by omega);have U:m8 "Rules" "listed" (obj i hs)= .ok (.ai (i.map rl)):=rfl;have y:Uf (gk "Rules" "listed" (ge 0)) [.ah (obj i hs),.ah t,.aw (.ai g),.ah (jV q.1),.ah q.2,n,o,p]= .ok (jJ 0 (i.map rl)):=by decreasing_with exact rfl
  have w:zT (g2 (gN 3) (gN 4)) IF (pq q) [.ah (obj i hs),.ah t,.aw (.ai g),u,v,n,o,p]=bh (zT (g2 (gN 5) (gN 6)) rM) (jJ 0 (i.map rl)) [.ah (obj i hs),.ah t,.aw (.ai g),.ah (jV q.1),.ah q.2,n,o,p]:=(YM rfl).trans (XD y);rw [fh];unfold p9
  cases e1:ip t q 0 i with
  |aj=>rw [e1] at j;exact j.elim
  |exc c=>
   rw [e1] at j;exact Zk (w.trans j)
  |ok a=>
   rw [e1] at j;obtain ⟨_,_,Y,x6,x7,hr⟩:=j;rw [wc (w.trans hr)];have:=Ou e1;have r:=Ve (hs:=hs) B E H I J L (g++a) (.ah (jV q.1)) (.ah q.2) Y x6 x7 (λx hx=>h x (by simp [hx])) (by simp only [dr];omega)
   cases e2:p9 t i L with
   |ok b=>
    rw [e2] at r;obtain ⟨y1,y2,y3,y4,y5,z⟩:=r;exact ⟨y1,y2,y3,y4,y5,by rw [z];simp⟩
   |exc c=>rw [e2] at r;exact r
   |aj=>rw [e2] at r;exact r.elim
theorem Ov {t:D} {i:List (D×D)} {j:List D} (n:tk ns t=true) (p:ba t<=60) (B:num t<=1000) (u:p7 ns i) (v:i.length<=10):jt [obj i j,t]=match D5 t i with
  | .ok l=> .ok (.ai l)
  | .exc c=> .exc c
  | .aj=> .aj:=by
 have w:=UW t;have E:w6 64 [t]= .ok (.ai ((bL t).map rL)):=Oc 64 t n (by omega) (by omega) (by omega);have y:qy 64 [t]= .ok (.ai (cg t)):=Vq 64 t (wZ t n) (by omega) (by omega);rw [<-jg3 t n] at y;have g:=Ve (hs:=j) n p (by omega) u v (bL t) [] .un .un .un .un .un (λq z=>z) (by simp only [eM];omega)
 have o:UE (jj 1 (w6 64) (jb (ag 1) ae)) (jj 1 (qy 64) (jb (ag 1) ae)) [.ah (obj i j),.ah t,.aw (.ai []),.un,.un,.un,.un,.un]= .ok ((bL t).map pq):=by
  decreasing_with skip
  rw [Vs];rfl
 have h: ∀r:Sl->al aT,wb (w6 64) (qy 64) qp qZ [.ah (obj i j),.ah t,.un,.un,.un,.un,.un,.un]=aq (eh (UE (jj 1 (w6 64) (jb (ag 1) ae)) (jj 1 (qy 64) (jb (ag 1) ae))) (g2 (gN 3) (gN 4)) IF) (zd (aJ (nE 2))) [.ah (obj i j),.ah t,.aw (.ai []),.un,.un,.un,.un,.un]:=λ_=>by
  unfold wb;exact jl rfl
 have h:=h bF;unfold D5
 cases e:p9 t i (bL t) with
 |ok l=>
  rw [e] at g;obtain ⟨a,b,c,d,x,g⟩:=g;rw [AW] at g;refine NI (h.trans ?_);exact (jl ((XD o).trans g)).trans rfl
 |exc c=>
  rw [e] at g;exact QW (h.trans (Qj ((XD o).trans g)))
 |aj=>rw [e] at g;exact g.elim
abbrev bq (a:List (D×D)) (c:List D):D:= .obj "Rules" ["listed", "named"] [.ai (a.map rl),.ai c]
def jfd {d:List (D×D)} {e:List D} {g:D} {a:Int} {c:Str} (h:jt [bq d e,g]= .exc c):qX [bq d e,g,.int a]= .exc c:=by
 refine QW ?_;show xm jt jY [.ah (bq d e),.ah g,.ah (.int a),.un,.un,.un]=_;unfold xm;refine (jl rfl).trans ?_;refine (jl rfl).trans ?_;exact Qj (WU ((Zd (ds:=[g]) (fs:=["listed", "named"]) (vs:=[.ai (d.map rl),.ai e]) rfl (by decide) (by decreasing_with exact rfl) rfl).trans h))
def mh (o:Option D):al D:=match o with
 |some e=> .ok e
 |none=> .exc "NoPath"
def m6:D->Bool| .int _=>true|_=>false
def Ow {x:D} (h:Zb x=true):qd [x]= .ok (.bl (m6 x)):=by
 cases x<;>first|rfl|cases h
def Ox {a g2:TZ} {env env':Sl} (h:a env= .ok (.nx env')):aq (zd a) g2 env=g2 env':=by
 refine jl ?_;show hI (a env)=_;rw [h];rfl
def jla {g:TZ} {env:Sl} {a:Bool} {d:D} (h:g env= .ok (.rt a d)):zd g env= .ok (.rt a d):=by
 show hI (g env)=_;rw [h];rfl
def D6 {a g2:TZ} {env:Sl} {c:Str} (h:a env= .exc c):aq a g2 env= .exc c:=by
 show (a env>>=_)=_;rw [h];rfl
def oJ {t:T0} {a g2:TZ} {env:Sl} {b:Bool} (h:t env= .ok b):fR t a g2 env=if b=true then a env else g2 env:=by
 unfold fR;rw [h]
def Vo {d x:D} (p:Zb d=true) (q:Zb x=true):qu [d,x]=mh (xT d x):=by
 have g:jw 2 (jj 1 jP (jb (ag 0) ae)) [.ah d,.ah x,.un]= .ok (.nx [.ah d,.ah x,.ah (.ak (bc d))]):=(jD (jo (jg rfl rfl) rfl (Qt p))).trans rfl;have hw:bx (aW (jj 1 qd (jb (ag 1) ae))) [.ah d,.ah x,.ah (.ak (bc d))]= .ok (!m6 x):=qQ (jG (jo (jg rfl rfl) rfl (Ow q)))
 have c:wa jP qd [.ah d,.ah x,.un]=match xT d x with|some e=> .ok (.rt false e)|none=> .exc "NoPath" :=by
  unfold wa;rw [Ox g]
  cases h:m6 x with
  |false=>
   have a:g8 (bx (aW (jj 1 qd (jb (ag 1) ae)))) (bx (aW (Zv (cI 0) (ag 1) (app (jb (ag 2) ae) bo) mW ltI))) [.ah d,.ah x,.ah (.ak (bc d))]= .ok true:=by
     rw [Uc,hw,h];rfl
   have r:xT d x=none:=by cases x<;>first|rfl|cases h
   rw [r,D6 ((oJ a))]
  |true=>
   obtain ⟨i,rfl⟩: ∃i,x= .int i:=by cases x<;>first|exact ⟨_,rfl⟩|cases h
   have j:bx (aW (Zv (cI 0) (ag 1) (app (jb (ag 2) ae) bo) mW ltI)) [.ah d,.ah (.int i),.ah (.ak (bc d))]= .ok (!(decide (0<=i)&&decide (i< ((bc d).length:Int)))):=by
     refine qQ (jG ?_);show (al.ok (D.bl (decide (0<=i)))>>=Bs (.ok (.int ((bc d).length:Int))) ltI (.int i))=_;cases decide (0<=i)<;>rfl
   have a:=Wz hw j
   by_cases l:0<=i/\i< ((bc d).length:Int)
   . have bQ:i.toNat< (bc d).length:=by omega
     have e1:xT d (.int i)=some (bc d)[i.toNat]:=by
      simp only [xT];rw [if_pos l.1,cU bQ]
     have e2:((!m6 (.int i))||!(decide (0<=i)&&decide (i< ((bc d).length:Int))))=false:=by simp [m6,l]
     rw [e2] at a;rw [e1,jl ((oJ a))];refine jla (Jv (jk rfl rfl ?_));have u:i=((i.toNat):Int):=by omega
     have n:=IA (cU bQ);rw [<-u] at n;exact n
   . have e1:xT d (.int i)=none:=by
      simp only [xT]
      by_cases o:0<=i
      . rw [if_pos o,n5 (by omega)]
      . rw [if_neg o]
     have e2:((!m6 (.int i))||!(decide (0<=i)&&decide (i< ((bc d).length:Int))))=true:=by
      simp only [m6,Ae,Bool.false_or,Bool.not_eq_true',IB,decide_eq_false_iff_not];omega
     rw [e2] at a;rw [e1,D6 ((oJ a))]
 show bt false 3 (wa jP qd) [d,x]=_;unfold bt;rw [show qg 3 [d,x]=[.ah d,.ah x,.un] from rfl,c];cases xT d x<;>rfl
def jbj {d x e:D} (h:bT d=true) (a:xT d x=some e):bT e=true:=by
 unfold xT at a
 split at a
 . split at a
   . exact xJ (JD h).1 (lu a)
   . cases a
 . cases a
def Zk {a:D->Sl->al aT} {d:D} {ds:List D} {env:Sl} {c:Str} (h:a d env= .exc c):bh a (d::ds) env= .exc c:=by
 simp only [bh];rw [h];rfl
def rN:Sl->al aT:=jw 2 (zt 2 qu (jb (ag 2) (jb (ag 3) ae)))
theorem Oy (t p:Slot): ∀(a:List D) (d:D) (u:Slot),bT d=true->(∀x∈a,Zb x=true)->match gS d a with
  |some e=> ∃j,bh (zT (gN 3) rN) a [t,p,.ah d,u]= .ok (.nx [t,p,.ah e,j])
  |none=>bh (zT (gN 3) rN) a [t,p,.ah d,u]= .exc "NoPath"
 | [],d,u,_,_=>⟨u,rfl⟩
 |x::r,d,u,h,i=>by
  have l:=Vo (Zl h) (i x (by simp))
  have c:zT (gN 3) rN x [t,p,.ah d,u]=(mh (xT d x)>>=λe=> .ok (.nx [t,p,.ah e,.ah x])):=by
   show rN [t,p,.ah d,.ah x]=_;unfold rN
   have n:zt 2 qu (jb (ag 2) (jb (ag 3) ae)) [t,p,.ah d,.ah x]=mh (xT d x):=by
    unfold zt;exact l
   rw [WN,n];rfl
  simp only [gS]
  cases g:xT d x with
  |none=>
   rw [g] at c;exact Zk c
  |some e=>
   rw [g] at c;have o:=Oy t p r e (.ah x) (jbj h g) λy q=>i y (by simp [q])
   rw [wc (c)];exact o
def Qu {d:D} {a:List D} (j:bT d=true) (l: ∀x∈a,Zb x=true):qj [d,.ak a]=mh (gS d a):=by
 have c:=Oy (.ah d) (.ah (.ak a)) a d .un j l
 have g:zg qu [.ah d,.ah (.ak a),.un,.un]=match gS d a with|some e=> .ok (.rt false e)|none=> .exc "NoPath" :=by
  unfold zg;rw [jl ((oJ rfl).trans rfl)];rw [Ox (env':=[.ah d,.ah (.ak a),.ah d,.un]) rfl];show aq (eh (dU (ag 1)) (gN 3) rN) _ _=_;have h:eh (dU (ag 1)) (gN 3) rN [.ah d,.ah (.ak a),.ah d,.un]=bh (zT (gN 3) rN) a [.ah d,.ah (.ak a),.ah d,.un]:=rfl
  cases i:gS d a with
  |none=>
   rw [i] at c;exact D6 (h.trans c)
  |some e=>
   rw [i] at c;obtain ⟨n,c⟩:=c;rw [jl (h.trans c)];rfl
 show bt false 4 (zg qu) [d,.ak a]=_;unfold bt;rw [show qg 4 [d,.ak a]=[.ah d,.ah (.ak a),.un,.un] from rfl,g];cases gS d a<;>rfl
def IG (o:Option D):al D:=match o with
 |some e=> .ok e
 |none=> .exc "NoStep"
def vL {t p:D} {o:Option D} (h:qj [t,p]=mh o):jM [t,p]=IG o:=by
 have a:qM qj [.ah t,.ah p]=match o with|some e=> .ok (.rt false e)|none=> .exc "NoStep" :=by
  have c:zt 2 qj (jb (ag 0) (jb (ag 1) ae)) [.ah t,.ah p]=mh o:=h;unfold qM p4
  have g:retS (zt 2 qj (jb (ag 0) (jb (ag 1) ae))) [.ah t,.ah p]=(mh o>>=λd=> .ok (.rt false d)):=by
   show (zt 2 qj _ _>>=_)=_;rw [c]
  rw [g];cases o<;>rfl
 show bt false 2 (qM qj) [t,p]=_;unfold bt;rw [show qg 2 [t,p]=[.ah t,.ah p] from rfl,a];cases o<;>rfl
def jeq {t p:D} (c:dW "tuple" p= .ok (.bl false)):qj [t,p]= .exc "NoPath" :=by
 have a:zg qu [.ah t,.ah p,.un,.un]= .exc "NoPath" :=by
  refine D6 ((oJ (b:=true) ?_));refine qQ (b:=false) (jG ?_);exact c
 show bt false 4 (zg qu) [t,p]=_;unfold bt;rw [show qg 4 [t,p]=[.ah t,.ah p,.un,.un] from rfl,a]
def iV (n:Nat):D->Bool
 | .ak [_,.int i]=>decide (0<=i)&&decide (i< (n:Int))
 |_=>false
def Oz (l:List D):ap (app (jb (ag 1) ae) bo) (cI 2) dA [.ah o,.ah (.ak l)]= .ok (.bl (!((l.length:Int)==2))):=jk (x:= .int l.length) (y:= .int 2) rfl rfl N3
def inR (n:Nat):D->Bool
 | .int i=>decide (0<=i)&&decide (i< (n:Int))
 |_=>false
def jdX {o:D} {n:Nat} {env:Sl} (c:ap (ag 1) (cI 1) aX env= .ok o) (d:Zb o=true) (e:app (jb (gk "Rules" "listed" (ge 0)) ae) bo env= .ok (.int (n:Int))):
  nY (jj 1 qd (jb (ap (ag 1) (cI 1) aX) ae)) (Zv (cI 0) (ap (ag 1) (cI 1) aX) (app (jb (gk "Rules" "listed" (ge 0)) ae) bo) mW ltI) true env= .ok (.bl (inR n o)):=by
 have hw:jj 1 qd (jb (ap (ag 1) (cI 1) aX) ae) env= .ok (.bl (m6 o)):=jo (jg c rfl) rfl (Ow d)
 cases a:m6 o with
 |false=>
  rw [a] at hw;have:(inR n o)=false:=by cases o<;>first|rfl|cases a
  rw [this];unfold nY;rw [hw];rfl
 |true=>
  obtain ⟨i,rfl⟩: ∃i,o= .int i:=by cases o<;>first|exact ⟨_,rfl⟩|cases a
  rw [a] at hw
  have g:Zv (cI 0) (ap (ag 1) (cI 1) aX) (app (jb (gk "Rules" "listed" (ge 0)) ae) bo) mW ltI env= .ok (.bl (decide (0<=i)&&decide (i< (n:Int)))):=by
   unfold Zv;rw [show cI 0 env= .ok (.int 0) from rfl,c];show (al.ok (D.bl (decide (0<=i)))>>=Bs _ ltI (.int i))=_;rw [e];cases decide (0<=i)<;>rfl
  unfold nY;rw [hw];exact g
def ua {g:List (D×D)} {i:List D} {x:D} {c:Bool} (h:dW "tuple" x= .ok (.bl c)) (o: ∀a b,x= .ak [a,b]->Zb b=true):j3 [obj g i,x]= .ok (.bl (iV g.length x)):=by
 have j: ∀x,dW "tuple" x= .ok (.bl false)->iV g.length x=false->j3 [obj g i,x]= .ok (.bl (iV g.length x)):=λx p q=>by
  rw [q];refine zy ?_;show j0 qd [.ah (obj g i),.ah x]=_;unfold j0;refine Jn ((fy ?_).trans rfl);have hw:bx (aW (bv "tuple" (ag 1))) [.ah (obj g i),.ah x]= .ok true:=qQ (b:=false) (jG (VP rfl p));rw [Uc,hw];rfl
 have n: ∀l:List D,l.length≠2->j3 [obj g i,.ak l]= .ok (.bl false):=λl n=>by
  refine zy ?_;show j0 qd [.ah (obj g i),.ah (.ak l)]=_;unfold j0;refine Jn ((fy ?_).trans rfl);have hw:bx (aW (bv "tuple" (ag 1))) [.ah (obj g i),.ah (.ak l)]= .ok false:=qQ (b:=true) (jG (VP rfl rfl))
  have u:aW (ap (app (jb (ag 1) ae) bo) (cI 2) dA) [.ah (obj g i),.ah (.ak l)]= .ok true:=by
    refine (jG (Oz l)).trans ?_;have:((l.length:Int)==2)=false:=by simpa using λz:(l.length:Int)=2=>n (by omega)
    rw [this];rfl
  exact Wz hw u
 cases x with
 |ak l=>
  rcases l with _| ⟨a,_| ⟨b,_| ⟨c,r⟩⟩⟩
  . exact n [] (by simp)
  . exact n [a] (by simp)
  . have e:iV g.length (.ak [a,b])=inR g.length b:=by cases b<;>rfl
    rw [e];refine zy ?_;show j0 qd [.ah (obj g i),.ah (.ak [a,b])]=_;unfold j0;have hw:bx (aW (bv "tuple" (ag 1))) [.ah (obj g i),.ah (.ak [a,b])]= .ok false:=qQ (b:=true) (jG (VP rfl rfl));rw [jl ((dY (Wz hw ((jG (Oz [a,b])).trans rfl))).trans rfl)];refine qA (jdX rfl (o a b rfl) ?_);show al.ok (D.int ((g.map rl).length:Int))=_;rw [dQ]
  . exact (n (a::b::c::r) (by simp)).trans (by cases b<;>rfl)
 |aU=>exact j _ rfl rfl
 |bl b=>exact j _ rfl rfl
 |int b=>exact j _ rfl rfl
 |str b=>exact j _ rfl rfl
 |ai b=>exact j _ rfl rfl
 |aQ b d=>exact j _ rfl rfl
 |bP b d=>exact j _ rfl rfl
 |_=>cases h
def jfB {F:TX} {c e:T1} {env:Sl} {a d2 d:D} (g:c env= .ok a) (h:e env= .ok d2) (i:F [a,d2]= .ok d):Zw F c e env= .ok d:=by
 unfold Zw;rw [g];rw [h];show hI (F [a,d2])=_;rw [i];rfl
def jdC {F:TX} {a d:T1} {env:Sl} {e:D} {c:Str} (g:a env= .ok e) (h:d env= .exc c):Zw F a d env= .exc c:=by
 unfold Zw;rw [g];rw [h];rfl
def OA:Sl->al aT:=aq (jw 5 (Zw qp (ap (ag 4) (cI 0) aX) (zt 2 jM (jb (ag 1) (jb (ag 3) ae))))) (aq (fR (aW (ap (ag 5) cN ri)) (QZ "NoStep") (zd bF)) (retS (zt 4 qZ (jb (ag 1) (jb (ag 3) (jb (ag 4) (jb (ag 5) ae)))))))
abbrev Co (a:List (D×D)) (c:List D) (t p r x:D):Sl:=[.ah (bq a c),.ah t,.ah x,.ah p,.ah r,.un]
def vg {c:List (D×D)} {d:List D} {t p r:D} {k:Nat} {g:D×D} (i:c[k]?=some g) {o:al aT} (h:OA (Co c d t p (rl g) (.ak [p,.int (k:Int)]))=o):
  qR qp qZ j3 jM [.ah (bq c d),.ah t,.ah (.ak [p,.int (k:Int)]),.un,.un,.un]=o:=by
 have j:=(ic.mp i).1
 have l:j3 [bq c d,.ak [p,.int k]]= .ok (.bl true):=by
  refine (ua rfl λa b e=>by cases e;rfl).trans ?_;have:iV c.length (.ak [p,.int k])=true:=by simp [iV,j]
  rw [this]
 have n:aX (.ai (c.map rl)) (.int k)= .ok (rl g):=p8 (by rw [gY,i];rfl);unfold qR;rw [jl (by decreasing_with exact rfl)];rw [jl (by decreasing_with exact rfl)];rw [jl (by decreasing_with exact rfl)];exact h
def jiH {d:List (D×D)} {e:List D} {t x:D} {c:Bool} (g:dW "tuple" x= .ok (.bl c)) (i: ∀a b,x= .ak [a,b]->Zb b=true) (h:iV d.length x=false):jh [bq d e,t,x]= .exc "NoStep" :=by
 have j:j3 [bq d e,x]= .ok (.bl false):=by
  refine (ua g i).trans ?_;rw [h]
 refine QW ?_;exact Qj (Ws (by decreasing_with exact rfl) rfl)
def UF {a:List (D×D)} {c:List D} {t p:D} {k:Nat} {pr:D×D} (d:a[k]?=some pr) (h:qj [t,p]= .exc "NoPath"):jh [bq a c,t,.ak [p,.int (k:Int)]]= .exc "NoStep" :=by
 refine QW (vg (r:=rl pr) d ?_);have e:jM [t,p]= .exc "NoStep" :=vL (o:=none) h;have g:aX (rl pr) (.int 0)= .ok pr.1:=om;exact Qj (WU (jdC (by decreasing_with exact rfl) ((y0 rfl rfl).trans e)))
def vh {d:List (D×D)} {hs:List D} {t:D} {q:List Int×D} {k:Nat} {c:D×D} (j:d[k]?=some c) (g:tk ns t=true) (E:ba t<=60) (H:p7 ns d) (l:q∈bL t):
  jh [bq d hs,t,.ak [jV q.1,.int (k:Int)]]=match fX c.1 q.2 with
   |some M=>if bw (res t q c.2 M)=true then .exc "TooGreat" else .ok (res t q c.2 M)
   |none=> .exc "NoStep" :=by
 have u:=lu j;have n:=H c u;obtain ⟨_,_,B⟩:=yL t g q l;obtain ⟨U,Y⟩:=UV t g q l
 have I:jM [t,jV q.1]= .ok q.2:=vL (o:=some q.2) (by
  rw [show jV q.1= .ak (q.1.map .int) from rfl,Qu (wZ t g) (λx J=>by
   obtain ⟨i,_,rfl⟩:=hG.mp J
   rfl),vI t g q l])
 have a:=n.hl;have v:qp [c.1,q.2]= .ok (mf (fX c.1 q.2)):=Kx n.tl B (by omega) (by omega) (by have:=n.nl;omega);have w:aX (rl c) (.int 0)= .ok c.1:=om;have L:zt 2 jM (jb (ag 1) (jb (ag 3) ae)) (Co d hs t (jV q.1) (rl c) (.ak [jV q.1,.int k]))= .ok q.2:=(y0 rfl rfl).trans I;have N:Zw qp (ap (ag 4) (cI 0) aX) (zt 2 jM (jb (ag 1) (jb (ag 3) ae))) (Co d hs t (jV q.1) (rl c) (.ak [jV q.1,.int k]))= .ok (mf (fX c.1 q.2)):=jfB (jk rfl rfl w) L v;have O:jw 5 (Zw qp (ap (ag 4) (cI 0) aX) (zt 2 jM (jb (ag 1) (jb (ag 3) ae)))) (Co d hs t (jV q.1) (rl c) (.ak [jV q.1,.int k]))= .ok (.nx [.ah (bq d hs),.ah t,.ah (.ak [jV q.1,.int k]),.ah (jV q.1),.ah (rl c),.ah (mf (fX c.1 q.2))]):=(jD N).trans rfl;have hw:OA (Co d hs t (jV q.1) (rl c) (.ak [jV q.1,.int k]))=_:=jl O
 cases y:fX c.1 q.2 with
 |none=>
  rw [y] at hw;exact QW (vg (r:=rl c) j (hw.trans (Qj (Ws rfl rfl))))
 |some M=>
  rw [y] at hw;have z:=vo g l n (uk B y) E
  have p:zt 4 qZ (jb (ag 1) (jb (ag 3) (jb (ag 4) (jb (ag 5) ae)))) [.ah (bq d hs),.ah t,.ah (.ak [jV q.1,.int k]),.ah (jV q.1),.ah (rl c),.ah (.aQ (ky M) (vl M))]=if bw (res t q c.2 M)=true then .exc "TooGreat" else .ok (res t q c.2 M):=
   (y0 rfl rfl).trans z
  have Q:fR (aW (ap (ag 5) cN ri)) (QZ "NoStep") (zd bF) [.ah (bq d hs),.ah t,.ah (.ak [jV q.1,.int k]),.ah (jV q.1),.ah (rl c),.ah (.aQ (ky M) (vl M))]= .ok (.nx [.ah (bq d hs),.ah t,.ah (.ak [jV q.1,.int k]),.ah (jV q.1),.ah (rl c),.ah (.aQ (ky M) (vl M))]):=Ws rfl rfl;have h:=hw.trans (jl Q);dsimp only
  cases e:bw (res t q c.2 M) with
  |true=>
   rw [e] at p;exact QW (vg (r:=rl c) j (h.trans (vz p)))
  |false=>
   rw [e] at p;exact Hb (vg (r:=rl c) j (h.trans (Jv p)))
inductive Wk (O:D):D->List D->List D->Prop
 |nil {t}:Wk O t [] []
 |cons {t u r rs us}:jh [O,t,r]= .ok u->Wk O u rs us->Wk O t (r::rs) (u::us)
def OB {l:List D} {x:D} (h:l.getLast?=some x):aX (.ai l) (.int (-1))= .ok x:=by
 have a:l≠[]:=by rintro rfl;cases h
 have c:0<l.length:=List.length_pos_iff.mpr a;rw [List.getLast?_eq_getElem?] at h;show (match gQ l (-1) with|some d=>al.ok d|none=> .aj)=_
 have:gQ l (-1)=some x:=by
  unfold gQ pG;rw [if_neg (by decide),if_pos (by omega)];rw [show ((-1)+(l.length:Int)).toNat=l.length-1 by omega];exact h
 rw [this]
def Al:Sl->al aT:=qH 3 (yN "Rules" "walked_on" 3 [] jh (ag 0) (jb (ap (ge 3) (fx (cI 1)) aX) (jb (ag 4) ae)))
abbrev nk (c:List (D×D)) (d:List D) (e g:Slot) (a:List D) (u:Slot):Sl:=[.ah (bq c d),e,g,.aw (.ai a),u]
def OC {c:List (D×D)} {d:List D} {e g:Slot} {a:List D} {t r:D} (h:a.getLast?=some t):
  yN "Rules" "walked_on" 3 [] jh (ag 0) (jb (ap (ge 3) (fx (cI 1)) aX) (jb (ag 4) ae)) (nk c d e g a (.ah r))=jh [bq c d,t,r]:=
 Zd (ds:=[t,r]) rfl rfl (jg (jk rfl rfl (OB h)) rfl) rfl
def jaT {i:Nat} {f:T1} {env:Sl} {ds:List D} {c:Str} (a:bZ i env= .ok ds) (d:f env= .exc c):qH i f env= .exc c:=by
 unfold qH;rw [a];rw [d];rfl
def OD {e:List (D×D)} {g:List D} {j l:Slot} {t:D} {i d c:List D} (h:Wk (bq e g) t i d): ∀(a:List D) (u:Slot),a.getLast?=some t->a.length+i.length<5000-> ∃n,(a++d).getLast?=some ((t::d).getLast (by simp))/\(a++d).length=a.length+i.length/\
  bh (zT (gN 4) Al) (i++c) (nk e g j l a u)=bh (zT (gN 4) Al) c (nk e g j l (a++d) n):=by
 induction h with
 |nil=>exact λa u o _=>⟨u,by simpa using o,by simp,by simp⟩
 | @cons t w r i d hw _ p=>
  intro a u o q;simp only [bN] at q;obtain ⟨n,v,y,z⟩:=p (a++[w]) (.ah r) (by simp) (by simp only [dr,bN,eM];omega);refine ⟨n,?_,?_,?_⟩
  . simpa using v
  . simp only [dr,bN,eM] at y ⊢;omega
  have B:zT (gN 4) Al r (nk e g j l a u)= .ok (.nx (nk e g j l (a++[w]) (.ah r))):=by
    exact (Zx (ds:=a) rfl ((OC o).trans hw) (fH (by omega:_<5000) (by decide))).trans rfl
  rw [Cg,wc B,z];simp
abbrev i5 (t:D) (a:List D):D:=(t::a).getLast (by simp)
def WR {c:List (D×D)} {d:List D} {t:D} {a e:List D} (h:Wk (bq c d) t a e) (j:jY [t]= .ok t) (p:a.length<=60):jL [bq c d,t,.ai a]= .ok (.ai (t::e)):=by
 obtain ⟨g,_,_,i⟩:=OD h [t] .un rfl (by simp only [bN,eM];omega);rw [nS] at i;refine NI ?_;show qB jY jh [.ah (bq c d),.ah t,.ah (.ai a),.un,.un]=_;unfold qB;have l:eh (dU (ag 2)) (gN 4) Al (nk c d (.ah t) (.ah (.ai a)) [t] .un)= .ok (.nx (nk c d (.ah t) (.ah (.ai a)) (t::e) g)):=(XD rfl).trans (i.trans rfl);refine (jl l).trans ?_
 have n:KJ (zt 1 jY (jb (ag 1) ae)) (nk c d (.ah t) (.ah (.ai a)) (t::e) g)= .ok (.nx (nk c d (.ah t) (.ah (.ai a)) (t::e) g)):=by
  have o:zt 1 jY (jb (ag 1) ae) (nk c d (.ah t) (.ah (.ai a)) (t::e) g)= .ok t:=(y0 rfl rfl).trans j;show (zt 1 jY (jb (ag 1) ae) _>>=_)=_;rw [o];rfl
 rw [jl n];rfl
def ZG {d:List (D×D)} {e:List D} {t r:D} {g i a:List D} {c:Str} (h:Wk (bq d e) t g i) (j:jh [bq d e,i5 t i,r]= .exc c) (v:g.length<=60):jL [bq d e,t,.ai (g++r::a)]= .exc c:=by
 obtain ⟨l,n,_,o⟩:=OD h [t] .un rfl (by simp only [bN,eM];omega);refine QW ?_;show qB jY jh [.ah (bq d e),.ah t,.ah (.ai (g++r::a)),.un,.un]=_;unfold qB;have p:zd (de 3 (aS (jb (ag 1) ae))) [.ah (bq d e),.ah t,.ah (.ai (g++r::a)),.un,.un]= .ok (.nx (nk d e (.ah t) (.ah (.ai (g++r::a))) [t] .un)):=rfl;rw [jl p]
 have q:zT (gN 4) Al r (nk d e (.ah t) (.ah (.ai (g++r::a))) ([t]++i) l)= .exc c:=by
  exact jaT rfl ((OC n).trans j)
 have u:eh (dU (ag 2)) (gN 4) Al (nk d e (.ah t) (.ah (.ai (g++r::a))) [t] .un)= .exc c:=(XD rfl).trans (o.trans (Zk q));exact Qj u
abbrev mw (a:List (D×D)) (c:List D) (t r f k:D) (e:Slot):Sl:=[.ah (bq a c),.ah t,.ah r,.ah f,.ah k,e]
def D7:Sl->al aT:=jw 3 (yN "Rules" "walked" 3 [] jL (ag 0) (jb (ag 1) (jb (ag 2) ae)))
def Am:Sl->al aT:=jw 4 (aS (jb (fU [("TooGreat",false),("NoPath",false),("NoRule",false),("NoStep",true),("TooLong",false)] (ag 5)) (jb (fU [("TooGreat",true),("NoPath",false),("NoRule",false),("NoStep",false),("TooLong",false)] (ag 5)) (jb (fU [("TooGreat",false),("NoPath",true),("NoRule",false),("NoStep",false),("TooLong",false)] (ag 5)) ae))))
def mx {a:List (D×D)} {c:List D} {t r f k:D} {e:Slot}:yN "Rules" "walked" 3 [] jL (ag 0) (jb (ag 1) (jb (ag 2) ae)) (mw a c t r f k e)=jL [bq a c,t,r]:=Zd (ds:=[t,r]) rfl rfl rfl rfl
def IH {a:List (D×D)} {c:List D} {t r d:D} (h:jL [bq a c,t,r]= .ok d):jE [bq a c,t,r]= .ok (.ai [d,.ai []]):=by
 refine zy ?_;show zo jL [.ah (bq a c),.ah t,.ah r,.un,.un,.un]=_;unfold zo;refine Yg rfl ?_;refine Yg (env':=mw a c t r .aU (.ai []) .un) rfl ?_;have e:D7 (mw a c t r .aU (.ai []) .un)= .ok (.nx (mw a c t r d (.ai []) .un)):=(jD (mx.trans h)).trans rfl;refine Yg (env':=mw a c t r d (.ai []) .un) ?_ rfl;show hJ ["TooGreat", "NoPath", "NoRule", "NoStep", "TooLong"] D7 5 Am _=_;unfold hJ;rw [e]
def kX {a:List (D×D)} {c:List D} {t r:D} {g:Bool} (h:jL [bq a c,t,r]= .exc (if g=true then "TooGreat" else "NoStep")):jE [bq a c,t,r]= .ok (.ai [.aU,.ai [.bl !g,.bl g,.bl false]]):=by
 refine zy ?_;show zo jL [.ah (bq a c),.ah t,.ah r,.un,.un,.un]=_;unfold zo;refine Yg rfl ?_;refine Yg (env':=mw a c t r .aU (.ai []) .un) rfl ?_;have e:D7 (mw a c t r .aU (.ai []) .un)= .exc (if g=true then "TooGreat" else "NoStep"):=WU (mx.trans h);refine Yg (env':=mw a c t r .aU (.ai [.bl !g,.bl g,.bl false]) .un) ?_ rfl;show hJ ["TooGreat", "NoPath", "NoRule", "NoStep", "TooLong"] D7 5 Am _=_;unfold hJ;rw [e]
 cases g with
 |true=>
  show (if (["TooGreat", "NoPath", "NoRule", "NoStep", "TooLong"]:List Str).contains "TooGreat" =true then _ else _)=_;rw [if_pos (by decide)];have d:Am (mw a c t r .aU (.ai []) (.ah (.du "TooGreat")))= .ok (.nx (mw a c t r .aU (.ai [.bl false,.bl true,.bl false]) (.ah (.du "TooGreat")))):=rfl;show (Am (mw a c t r .aU (.ai []) (.ah (.du "TooGreat")))>>=_)=_;rw [d];rfl
 |false=>
  show (if (["TooGreat", "NoPath", "NoRule", "NoStep", "TooLong"]:List Str).contains "NoStep" =true then _ else _)=_;rw [if_pos (by decide)];have d:Am (mw a c t r .aU (.ai []) (.ah (.du "NoStep")))= .ok (.nx (mw a c t r .aU (.ai [.bl true,.bl false,.bl false]) (.ah (.du "NoStep")))):=rfl;show (Am (mw a c t r .aU (.ai []) (.ah (.du "NoStep")))>>=_)=_;rw [d];rfl
def D8 (a:List (D×D)) (t d:D):Prop:= ∃(q:List Int×D) (k:Nat) (p:D×D) (M:As),q∈bL t/\a[k]?=some p/\fX p.1 q.2=some M/\bw (res t q p.2 M)=false/\d= .ak [jV q.1,.int (k:Int),res t q p.2 M]
def t9 (a:List (D×D)) (t:D):Prop:= ∀q∈bL t,∀p∈a,∀M,fX p.1 q.2=some M->bw (res t q p.2 M)=false
theorem OE {t:D} {q:List Int×D}: ∀(g:List (D×D)) (k:Nat),(∀p∈g,∀M,fX p.1 q.2=some M->bw (res t q p.2 M)=false)-> ∃L,ip t q k g= .ok L/\ ∀d∈L,∃(j:Nat) (p:D×D) (M:As),g[j]?=some p/\fX p.1 q.2=some M/\d= .ak [jV q.1,.int ((k+j:Nat):Int),res t q p.2 M]
 | [],k,_=>⟨[],rfl,λd h=>by cases h⟩
 |p::g,k,h=>by
  obtain ⟨L,e,n⟩:=OE g (k+1) λc o=>h c (gc _ o)
  have l: ∀d∈L,∃(j:Nat) (c:D×D) (M:As),(p::g)[j]?=some c/\fX c.1 q.2=some M/\d= .ak [jV q.1,.int ((k+j:Nat):Int),res t q c.2 M]:=λd hd=>by
   obtain ⟨j,c,M,u,v,w⟩:=n d hd;exact ⟨j+1,c,M,by simpa using u,v,by rw [w];congr 4;omega⟩
  cases i:fX p.1 q.2 with
  |none=>
   refine ⟨L,?_,l⟩;show (match stI t q k p with| .ok a=>_|r=>r)=_;rw [show stI t q k p= .ok [] by unfold stI;rw [i]];dsimp only;rw [e];rfl
  |some M=>
   have y:=h p lE M i;refine ⟨.ak [jV q.1,.int (k:Int),res t q p.2 M]::L,?_,λd hd=>?_⟩
   . show (match stI t q k p with| .ok a=>_|r=>r)=_;rw [show stI t q k p= .ok [.ak [jV q.1,.int (k:Int),res t q p.2 M]] by unfold stI;rw [i];dsimp only;rw [y];rfl];dsimp only;rw [e];rfl
   . rcases bA.mp hd with rfl|hd
     . exact ⟨0,p,M,rfl,i,rfl⟩
     . exact l d hd
theorem OF {t:D} {c:List (D×D)} (h:t9 c t): ∀L:List (List Int×D),(∀q∈L,q∈bL t)-> ∃S,p9 t c L= .ok S/\ ∀d∈S,D8 c t d
 | [],_=>⟨[],rfl,λd h=>by cases h⟩
 |q::L,i=>by
  have e:=i q lE;obtain ⟨A,e1,o⟩:=OE c 0 λp u M v=>h q e p u M v
  obtain ⟨S,e2,w⟩:=OF h L λy g=>i y (gc _ g)
  refine ⟨A++S,?_,λd hd=>?_⟩
  . show (match ip t q 0 c with| .ok a=>_|r=>r)=_;rw [e1];dsimp only;rw [e2]
  . rcases mD.mp hd with hd|hd
    . obtain ⟨j,p,M,l,n,z⟩:=o d hd;exact ⟨q,j,p,M,e,l,n,h q e p (lu l) M n,by rw [z,yD]⟩
    . exact w d hd
def Yr {t:D} {a:List (D×D)} {hs:List D} (g:tk ns t=true) (i:ba t<=60) (j:num t<=1000) (l:p7 ns a) (n:a.length<=10) (h:t9 a t): ∃S,wT [bq a hs,t]= .ok (.ai S)/\ ∀d∈S,D8 a t d:=by
 obtain ⟨S,e,o⟩:=OF h (bL t) λq p=>p
 have r:jt [bq a hs,t]= .ok (.ai S):=by
  refine (Ov g i j l n).trans ?_;rw [show D5 t a= .ok S from e]
 refine ⟨S,?_,o⟩
 have v:(λc=>hI (jt c)) [bq a hs,t]= .ok (.ai S):=by
  show hI (jt [bq a hs,t])=_;rw [r];rfl
 refine zy ?_;show xV jt [.ah (bq a hs),.ah t,.un]=_;unfold xV;rw [jl (env':=[.ah (bq a hs),.ah t,.aw (.ai [])]) rfl];have u:X6 "Rules" "steps" 2 (λc=>hI (jt c)) (ag 0) (jb (ag 1) ae) [.ah (bq a hs),.ah t,.aw (.ai [])]= .ok (.ai S):=by decreasing_with exact rfl
 rw [jl (env':=[.ah (bq a hs),.ah t,.aw (.ai S)]) ((YT u).trans rfl)];rfl
end
section
variable {ns:List Str} {fs:List Int}
def zf (m k:Int) (h:0<=m/\m<2^140) (i:0<=k/\k<=1000): ∃c:Int,jB [.int m,.int k]= .ok (.int c)/\0<=c/\c<2^140:=by
 have d: ∀u:Slot,ap (cI 10) (cI 30) bS [.ah (.int m),.ah (.int k),u]= .ok (.int (10^30)):=λu=>jk rfl rfl (Xb (by decide))
 generalize e:(m*69621+(k+1)*1000003)%(10^30+57)=x;have g:0<=x/\x<2^110:=by omega
 refine ⟨x*x%(10^30+57),zy ?_,by omega,by omega⟩;show xX [.ah (.int m),.ah (.int k),.un]=_;unfold xX;rw [jl (env':=[.ah (.int m),.ah (.int k),.ah (.int x)]) ((jD (Xl (y6 (Jz (a:=141) (b:=30) rfl rfl (by omega) (by omega) (by omega)) (Jz (a:=30) (b:=30) (y6 rfl rfl) rfl (by omega) (by omega) (by omega))) (y6 (d _) rfl) (by omega))).trans (by rw [e];rfl))];exact qA (Xl (Jz (a:=111) (b:=111) rfl rfl (by omega) (by omega) (by omega)) (y6 (d _) rfl) (by omega))
def oK:Nat->Nat
 |0=>1
 |r+1=>1+3*oK r
structure Gt (ns:List Str) (fs:List Int) (r:Nat) (t:D):Prop where
 tk:tk ns t=true
 hg:ba t<=r+1
 nm:num t<=oK r
 bk: ∀x∈dZ t,x∈fs
def jin (r:Nat):1<=oK r:=by
 cases r with
 |zero=>exact bg _
 |succ r=>simp only [oK];omega
theorem JX {g:D} (hn:Ch ns g) (I:fs.length<=1000): ∀(n r:Nat) (m:Int),r+1<=n->(0<=m/\m<2^140)-> ∃t,jW n [.int m,g,.int r,.ai (fs.map .int)]= .ok t/\Gt ns fs r t
 |0,r,m,h1,hm=>by omega
 |n+1,r,m,h1,hm=>by
  generalize a:D.ai (fs.map .int)=j;have GS:dA j (.ai [])= .ok (.bl (!fs.isEmpty)):=by rw [<-a,N4];simp
  have hlen:bo [j]= .ok (.int (fs.length:Int)):=by rw [<-a];show al.ok (D.int ((fs.map D.int).length:Int))=_;rw [dQ]
  by_cases c:(!fs.isEmpty&&((m%5==0)|| (((r:Int)==0)&&decide (m%5<3))))=true
  . have tU:0<fs.length:=by
      simp only [dR] at c
      cases fs with
      |nil=>simp at c
      |cons x r=>simp
    have l:0<=m/5%(fs.length:Int)/\m/5%(fs.length:Int)<fs.length:=⟨nL _ (by omega),rK _ (by omega)⟩
    obtain ⟨d,J,v⟩:=C5 (ds:=fs.map .int) l.1 (by rw [dQ];exact l.2);obtain ⟨i,hi,rfl⟩:=hG.mp v;rw [a] at J;refine ⟨.int i,Bu ?_,⟨rfl,by simp [ba],jin r,by rw [N2];intro x w;simp only [bA,ei,or_false] at w;rw [w];exact hi⟩⟩;show wA (jW n) jB [.ah (.int m),.ah g,.ah (.int r),.ah j,.un,.un,.un]=_;unfold wA
    decreasing_with exact rfl
  . have c:(!fs.isEmpty&&((m%5==0)|| (((r:Int)==0)&&decide (m%5<3))))=false:=by simpa using c
    generalize L:m/5/5/4=o;have y:0<=o/\o<2^140:=by omega
    obtain ⟨z,hz,N⟩:=Iy hn (m/5%5) (by omega) (by omega)
    have O: ∃p:Int,0<=p/\p<=3/\(r=0->p=0)/\bW (aW (ap (ag 2) (cI 0) eO)) (jw 6 (cI 0)) bF
        [.ah (.int o),.ah g,.ah (.int r),.ah j,.ah (.int (m%5)),.ah (.int (m/5%5)),.ah (.int (m/5/5%4))]= .ok (.nx [.ah (.int o),.ah g,.ah (.int r),.ah j,.ah (.int (m%5)),.ah (.int (m/5%5)),.ah (.int p)]):=by
      by_cases B:r=0
      . subst B;refine ⟨0,by omega,by omega,λ_=>rfl,?_⟩
        decreasing_with exact rfl
      . refine ⟨m/5/5%4,by omega,by omega,λh=>absurd h B,?_⟩;have:((r:Int)==0)=false:=by simp;omega
        decreasing_with exact rfl
    obtain ⟨p,c1,c2,u,aeF⟩:=O
    obtain ⟨q,t7,Q,H⟩:=NX (js:=[1,3,0,2]) (fi:=eG (jb (ag 6) ae)) (fe:=jj 4 (jW n) (jb (jj 2 jB (jb (ag 3) (jb (ag 0) ae))) (jb (ag 1) (jb (ap (ag 4) (cI 1) eS) (jb (ag 2) ae)))))
      (env:=[.ah (.int o),.ah g,.ah (.int r),.ah j,.ah (.int (m%5)),.ah (.int (m/5%5)),.ah (.int p)]) (ds:=Qd 0 p.toNat) (cs:=[.ah g,.ah j,.ah (.int o),.ah (.int r)])
      (Gt ns fs (r-1)) (λd=> ∃k:Int,d= .int k/\0<=k/\k<10/\1<=r) rfl (W5 (jg rfl rfl) (by omega)) (λd J=>by
        obtain ⟨k,rfl,k0,U⟩:=Ze J
        exact ⟨k,rfl,k0,by omega,by
         rcases Nat.eq_zero_or_pos r with h|h; · rw [u h] at U;simp at U;omega
         . exact h⟩) (by rw [wP];exact NH (by omega)) (by
        rintro d acc ⟨k,rfl,k0,U,hr⟩;obtain ⟨m4,OG,hb⟩:=zf o k y (by omega);obtain ⟨t,e,hg⟩:=JX hn I n (r-1) m4 (by omega) hb;rw [a,show (((r-1:Nat):Int))=(r:Int)-1 by omega] at e;refine ⟨t,?_,hg⟩
        decreasing_with exact rfl)
    rw [wP] at Q;have hzl:([D.str z]++q).length<=20:=by simp;omega
    refine ⟨.ak (.str z::q),zy ?_,⟨ZH N (by omega) λt e=>(H t e).tk,?_,?_,?_⟩⟩
    . show wA (jW n) jB [.ah (.int m),.ah g,.ah (.int r),.ah j,.un,.un,.un]=_;unfold wA;subst L
      decreasing_with exact rfl
    . rw [qh];rcases Nat.eq_zero_or_pos r with h|h
      . have:q=[]:=GV (by rw [Q,u h];rfl);subst this;simp [bj]
      . have:=M.iL (ds:=q) (k:=r) λt e=>by have:=(H t e).hg;omega
        omega
    . rw [qr];have E:=jho (ts:=q) (k:=oK (r-1)) λt e=>(H t e).nm
      match r,u,E with
      |0,u,E=>
        have:q.length=0:=by rw [Q,u rfl];rfl
        rw [this] at E;simp only [oK];omega
      |r+1,u,E=>
        simp only [oK,show r+1-1=r from rfl] at E ⊢;have h3:q.length<=3:=by omega
        have:=Nat.mul_le_mul_right (oK r) h3;omega
    . intro x w;rw [Wf,XV] at w;obtain ⟨t,e,Y⟩:=Bt.mp w;exact (H t e).bk x Y
def Cp:D->Bool
 | .int _=>true
 |_=>false
def OH {t:D} (h:tk ns t=true):jX [t]= .ok (.bl (Cp t)):=by
 rcases qe h with ⟨i,rfl⟩| ⟨z,a,rfl,_⟩<;>rfl
theorem vX {n:Nat} (t:Slot): ∀(ds:List D) (a:List Int) (u:Slot),(∀d∈ds,jU n [d]= .ok (.ai ((dZ d).map .int))/\(dZ d).length<=num d)->a.length+nums ds<=2000->
  ∃(c:Slot),bh (wx (gN 2) (zw 1 (jj 1 (jU n) (jb (ag 2) ae)))) ds [t,.aw (.ai (a.map .int)),u]= .ok (.nx [t,.aw (.ai ((a++dw ds).map .int)),c])
 | [],a,u,_,_=>⟨u,by simp [bh,dw]⟩
 |d::r,a,u,g,h=>by
  obtain ⟨i,j⟩:=g d (by simp);simp only [nums] at h ⊢;obtain ⟨c,l⟩:=vX t r (a++dZ d) (.ah d) (λe o=>g e (by simp [o])) (by simp only [dr];omega);refine ⟨c,?_⟩
  have s:wx (gN 2) (zw 1 (jj 1 (jU n) (jb (ag 2) ae))) d [t,.aw (.ai (a.map .int)),u]= .ok (.nx [t,.aw (.ai ((a++dZ d).map .int)),.ah d]):=by
   rw [yE rfl];have p:jj 1 (jU n) (jb (ag 2) ae) [t,.aw (.ai (a.map .int)),.ah d]= .ok (.ai ((dZ d).map .int)):=jo (jg rfl rfl) rfl i;show (al.ok (a.map D.int)>>=λds=>jj 1 (jU n) (jb (ag 2) ae) [t,.aw (.ai (a.map .int)),.ah d]>>=_)=_;rw [p];refine (jn (by simp only [dQ];exact jz (by omega))).trans ?_;rw [C6];rfl
  rw [wc s,l];simp only [dw,i9]
theorem vW: ∀(n:Nat) (t:D),tk ns t=true->ba t<=n->num t<=1000->jU n [t]= .ok (.ai ((dZ t).map .int))
 |0,t,_,h,_=>by have:=JB t;omega
 |n+1,t,o,q,j=>by
  have c:aW (jj 1 jX (jb (ag 0) ae)) [.ah t,.un,.un]= .ok (Cp t):=jG (jo (jg rfl rfl) rfl (OH o));rcases qe o with ⟨i,rfl⟩| ⟨z,r,rfl,v,w,p⟩
  . refine zy ?_;show zn jX (jU n) [.ah (.int i),.un,.un]=_;unfold zn;rw [N2];exact Jn ((fy c).trans (qA (VJ (jg rfl rfl) (jz (by simp)))))
  . rw [qh] at q;rw [qr] at j
    have g: ∀d∈r,num d<=nums r:=λd e=>by
     obtain ⟨a,b,rfl⟩:=Iz e;rw [Kc];simp only [nums];omega
    obtain ⟨y,u⟩:=vX (.ah (.ak (.str z::r))) r [] .un (λd e=>⟨vW n d (p d e) (by have:=qI e;omega) (by have:=g d e;omega),N5 d (p d e)⟩) (by simp only [eM];omega);refine zy ?_;show zn jX (jU n) [.ah (.ak (.str z::r)),.un,.un]=_;unfold zn;have l:qv (ag 0) (zU (cI 1)) zZ e9 [.ah (.ak (.str z::r)),.aw (.ai []),.un]= .ok (.ak r):=qP rfl (xg rfl) rfl (show al.ok (D.ak (cutD (.str z::r) (some 1) none))=_ by rw [p5]);rw [jl ((dY c))];rw [jl rfl];rw [Wf];exact (jl ((XC (Xr l rfl)).trans u)).trans rfl
theorem OI: ∀(n:Nat) (t:D),tk ns t=true->ba t<=n->qW n [t]= .ok (.int ((num t:Nat):Int))
 |0,t,_,h=>by have:=JB t;omega
 |n+1,t,l,h=>by
  rcases qe l with ⟨i,rfl⟩| ⟨z,a,rfl,r,u,c⟩
  . refine zy ?_;show wB jX (qW n) [.ah (.int i)]=_;unfold wB;have hw:jX [.int i]= .ok (.bl true):=rfl;have:D.int ((num (.int i):Nat):Int)= .int 1:=by simp [num]
    rw [this]
    decreasing_with exact rfl
  . rw [qh] at h;have hw:jX [.ak (.str z::a)]= .ok (.bl false):=rfl
    have e:e9 (.ak (.str z::a)) (some 1) none= .ok (.ak a):=by
     show al.ok (D.ak (cutD (.str z::a) (some 1) none))=_;rw [p5]
    have v:zN false 1 [] (dU (qv (ag 0) (zU (cI 1)) zZ e9)) (gN 0) qz (jj 1 (qW n) (jb (ag 0) ae)) [.ah (.ak (.str z::a))]= .ok (.ai (a.map λd=>D.int ((num d:Nat):Int))):=
     kP (λd=> .int ((num d:Nat):Int)) (λd=>tk ns d=true/\ba d<=n) rfl (Xr (qP rfl (xg rfl) rfl e) rfl) (λd g=>⟨c d g,by have:=qI g;omega⟩) (jz (by omega)) (by
      rintro d o ⟨p,q⟩
      exact jo (jg rfl rfl) rfl (OI n d p q))
    have j:Dh [.ai (a.map λd=>D.int ((num d:Nat):Int))]= .ok (.int ((nums a:Nat):Int)):=by
     show (match Zg (a.map λd=>D.int ((num d:Nat):Int)) with|some w=>_|none=>_)=_;have:=VS (a.map λd=>((num d:Nat):Int));rw [sY] at this;rw [show (a.map λd=>D.int ((num d:Nat):Int))=a.map (D.int ∘ λd=>((num d:Nat):Int)) from rfl,this];show al.ok (D.int (eJ (a.map λd=>((num d:Nat):Int))))=_;rw [jez]
    have e1:D.int ((num (.ak (.str z::a)):Nat):Int)= .int (1+((nums a:Nat):Int)):=by rw [qr];simp
    rw [e1];refine zy ?_;show wB jX (qW n) [.ah (.ak (.str z::a))]=_;unfold wB
    decreasing_with exact rfl
structure Lf (ns:List Str) (a b:Int) (l:D):Prop where
 tl:tk ns l=true
 lt: ∃z ts,l= .ak (.str z::ts)
 hl:ba l<=3
 nl:num l<=13
 bk: ∀x∈dZ l,x=a\/x=b
def D9 (r:D):Prop:=ba r<=2/\num r<=12
def II:Sl->al aT:=(aq (bW (iE (aW (ap (ap (ap (ag 0) (ap (cI 10) (cI 8) bS) cA) (cI 2) a7) (cI 0) eO)) (aW (ap (app (jb (ag 3) ae) bo) (cI 1) nH))) (aJ (aD (jb (ag 3) (jb (ap (ag 3) (ap (cI 1) (ap (ap (ag 0) (ap (cI 10) (cI 9) bS) cA) (ap (app (jb (ag 3) ae) bo) (cI 1) eS) a7) aK) aX) ae)))) bF) (aJ (aD (jb (ag 3) (jb (jj 4 (jW 6) (jb (jj 2 jB (jb (ag 0) (jb (cI 2) ae))) (jb (ag 1) (jb (cI 1) (jb (jj 1 (jU 64) (jb (ag 3) ae)) ae))))) ae)))))
abbrev qi (m:Int) (c:D) (a b:Int) (l:Slot):Sl:=[.ah (.int m),.ah c,.ah (.ai [.int a,.int b]),l]
def jaf {c:D} (U:Ch ns c) (m:Int) (hm:0<=m/\m<2^140): ∃l r,wM [.int m,c]= .ok (.ak [l,r])/\Ru ns l r/\D9 r:=by
 obtain ⟨m1,e1,b1⟩:=zf m 1 hm (by omega);obtain ⟨m2,e2,b2⟩:=zf m 2 hm (by omega);obtain ⟨a,ha⟩: ∃a,a=m%1000:=⟨_,rfl⟩
 obtain ⟨b,hb⟩: ∃b,b=(m+1+m/1000%999)%1000:=⟨_,rfl⟩
 obtain ⟨N,el,B⟩:=JX (fs:=[a,b]) U (by simp) 6 2 m1 (by omega) b1;have H: ∀x∈dZ N,x=a\/x=b:=λx E=>by have:=B.bk x E;simpa using this
 have hg:=B.hg;have v:=B.nm;simp only [oK] at v;have hw:=OH B.tk;obtain ⟨z,hz,Y⟩:=Iy U (m/10000000%5) (by omega) (by omega)
 have w: ∃l,Lf ns a b l/\bW (aW (jj 1 jX (jb (ag 3) ae))) (jw 3 (aD (jb (ap (ag 1) (ap (ap (ag 0) (ap (cI 10) (cI 7) bS) cA) (cI 5) a7) aX) (jb (ag 3) ae)))) bF
     (qi m c a b (.ah N))= .ok (.nx (qi m c a b (.ah l))):=by
   rcases qe B.tk with ⟨i,rfl⟩| ⟨z0,g,rfl,_⟩
   . refine ⟨.ak [.str z,.int i],⟨ZH Y (by simp) λt ht=>?_,⟨_,_,rfl⟩,by simp [qh,bj,ba],by simp [qr,nums,num],λx E=>?_⟩,?_⟩
     . simp only [bA,ei,or_false] at ht;rw [ht];rfl
     . rw [Wf] at E;exact H x (by simpa [dw] using E)
     . refine (fy (jG rfl)).trans ?_
       decreasing_with exact rfl
   . refine ⟨_,⟨B.tk,⟨_,_,rfl⟩,by omega,by omega,H⟩,?_⟩;exact (dY (jG (jo (jg rfl rfl) rfl hw))).trans rfl
 obtain ⟨l,L,h6⟩:=w;have hhl:=L.hl;have hnl:=L.nl;have hbl:=vW 64 l L.tl (by omega) (by omega);have hbn:=N5 l L.tl;obtain ⟨zl,g,lt⟩:=L.lt;have n:(0<=a/\a<=999)/\(0<=b/\b<=999):=by omega
 have s1:jw 2 (aS (jb (ap (ag 0) (cI 1000) a7) (jb (ap (ap (ap (ag 0) (cI 1) aK) (ap (ap (ag 0) (cI 1000) cA) (cI 999) a7) aK) (cI 1000) a7) ae))) [.ah (.int m),.ah c,.un,.un]= .ok (.nx (qi m c a b .un)):=by
   subst ha hb
   decreasing_with exact rfl
 have s2:jw 3 (jj 4 (jW 6) (jb (jj 2 jB (jb (ag 0) (jb (cI 1) ae))) (jb (ag 1) (jb (cI 2) (jb (ag 2) ae))))) (qi m c a b .un)= .ok (.nx (qi m c a b (.ah N))):=by
   have el':jW 6 [.int m1,c,.int 2,.ai [.int a,.int b]]= .ok N:=el
   decreasing_with exact rfl
 have p: ∀ {d:D},II (qi m c a b (.ah l))= .ok (.rt true d)->wM [.int m,c]= .ok d:=λ{d} h=>by
   refine zy ?_;show yS (jW 6) jX jB (jU 64) [.ah (.int m),.ah c,.un,.un]=_;unfold yS;exact (jl s1).trans ((jl s2).trans ((jl h6).trans h))
 have q1:ap (ap (ap (ag 0) (ap (cI 10) (cI 8) bS) cA) (cI 2) a7) (cI 0) eO (qi m c a b (.ah l))= .ok (.bl (m/100000000%2==0)):=by decreasing_with exact rfl
 have q:app (jb (ag 3) ae) bo (qi m c a b (.ah l))= .ok (.int ((g.length+1:Nat):Int)):=by rw [lt];rfl
 have q2:ap (app (jb (ag 3) ae) bo) (cI 1) nH (qi m c a b (.ah l))= .ok (.bl (decide (1< ((g.length+1:Nat):Int)))):=jk q rfl rfl;have O:=FS (jG q1) (jG q2)
 by_cases I:((m/100000000%2==0)&&decide (1< ((g.length+1:Nat):Int)))=true
 . have Bf:0<g.length:=by
     simp only [dR,decide_eq_true_eq,bN] at I;omega
   rw [I] at O;have h1:=nL (m/1000000000) (b:=(g.length:Int)) (by omega);have h2:=rK (m/1000000000) (b:=(g.length:Int)) (by omega)
   obtain ⟨u,hu,o⟩: ∃u,aX l (.int (1+m/1000000000%g.length))= .ok u/\u∈g:=by
     obtain ⟨j,hj⟩:=FT h1;have bQ:j<g.length:=by omega
     have e:=IA (l:= .str zl::g) (k:=j+1) (cU (Nat.succ_lt_succ bQ));rw [lt,hj,Int.add_comm];exact ⟨_,e,pR bQ⟩
   have J:=L.tl;rw [lt] at J
   have hut:tk ns u=true:=by
     rcases qe J with ⟨i,h⟩| ⟨z0,us,h,_,_,t7⟩
     . cases h
     . cases h;exact t7 u o
   have hh1:ba u<=2:=by
     have:=qI o;rw [lt,qh] at hhl;omega
   have hn1:num u<=12:=by
     have:=WI o;rw [lt,qr] at hnl;omega
   refine ⟨l,u,p ?_,⟨L.tl,hut,L.lt,by omega,by omega,L.nl,by omega,λx E=>?_,a,b,n.1,n.2,L.bk⟩,hh1,hn1⟩
   . unfold II;refine Jn ((fy O).trans (qA (xa (ds:=[l,u]) (jg rfl (jg (jk rfl (jk rfl (jk (x:= .int (m/1000000000)) ?_ (jk q rfl (y:= .int 1) (z:= .int g.length) ?_) (yn (by omega))) rfl) hu) rfl)) (jz (by simp)))))
     . decreasing_with exact rfl
     . show al.ok (D.int (_-1))=_;congr 2;omega
   . rw [lt,Wf,XV];exact Bt.mpr ⟨u,o,E⟩
 . have I:((m/100000000%2==0)&&decide (1< ((g.length+1:Nat):Int)))=false:=by simpa using I
   rw [I] at O;obtain ⟨r,er,Q⟩:=JX (fs:=dZ l) U (by omega) 6 1 m2 (by omega) b2;have hg:=Q.hg;have v:=Q.nm;simp only [oK] at v;refine ⟨l,r,p ?_,⟨L.tl,Q.tk,L.lt,by omega,by omega,L.nl,by omega,Q.bk,a,b,n.1,n.2,L.bk⟩,by omega,by omega⟩;unfold II;refine (jl ((dY O).trans rfl)).trans ?_;have er':jW 6 [.int m2,c,.int 1,.ai ((dZ l).map .int)]= .ok r:=er
   decreasing_with exact rfl
end
section
variable {ns:List Str}
def jep: ∀t,tk ns t=true-> ∀q∈bL t,q.1.length+ba q.2<=ba t:=ze (λi q hq=>by
   rw [Jx] at hq;simp only [bA,ei,or_false] at hq
   subst hq;simp) λz e _ _ h q hq=>by
 rw [ZY] at hq;rcases bA.mp hq with rfl|hq
 . simp
 . obtain ⟨j,u,p,c,d,rfl⟩:=Q1 hq;have a:=Z6 c;have g:=(h u a).2 p d;have l:=qI a;rw [qh];simp only [bN];omega
def OJ {t r:D} {q:List Int×D} {M:As} (a:tk ns t=true) (c:q∈bL t) (d:tk ns r=true) (e: ∀x∈M,Pt ns q.2 x):ba (res t q r M)<=ba t+ba r:=by
 have g:=Od (φ:=lk M) (B:=ba q.2) (λi=>(Oq e i).2.1) r d;have h:=jep t a q c;have j:=(ZL (o:=sub (lk M) r) q.1 t q.2 a (vI t a q c)).1;unfold res;omega
def rO (ns:List Str) (a:List (D×D)):Prop:=p7 ns a/\a.length<=10/\ ∀p∈a,D9 p.2
def OK {j:List (D×D)} {t:D} (R:rO ns j) (g:tk ns t=true) (u:ba t<=58) (n:num t<=60):t9 j t:=λq h p i M o=>by
 obtain ⟨_,_,r⟩:=yL t g q h;have l:=uk r o;obtain ⟨a,_,b⟩:=YY g h (R.1 p i).tr l;have c:=OJ g h (R.1 p i).tr l;obtain ⟨d,e⟩:=R.2.2 p i;have:num p.2*num t<=12*60:=Nat.mul_le_mul e n;unfold bw;rw [decide_eq_false_iff_not];omega
def jiU {i:List (D×D)} {hs:List D} {t d:D} (R:rO ns i) (j:tk ns t=true) (y:ba t<=58) (h:D8 i t d): ∃(p:List Int) (k:Nat) (u:D),d= .ak [jV p,.int (k:Int),u]/\k<i.length/\p.length<=60/\tk ns u=true/\ba u<=ba t+2/\jh [bq i hs,t,.ak [jV p,.int (k:Int)]]= .ok u:=by
 obtain ⟨q,k,p,M,l,n,o,v,rfl⟩:=h;obtain ⟨z,_,w⟩:=yL t j q l;have g:=lu n;have r:=uk w o;obtain ⟨a,_,_⟩:=YY j l (R.1 p g).tr r;have c:=OJ j l (R.1 p g).tr r;obtain ⟨d,e⟩:=R.2.2 p g;refine ⟨q.1,k,_,rfl,(ic.mp n).1,by omega,a,by omega,?_⟩;rw [vh n j (by omega) R.1 l,o];dsimp only;rw [v];rfl
def jk5 {x y z:D} {env:Sl} {a b c:Nat}:g3 (gN a) (gN b) (gN c) (.ak [x,y,z]) env= .ok (((env.set a (.ah x)).set b (.ah y)).set c (.ah z)):=rfl
def Wk.snoc {O t u r:D} {c a:List D} (h:Wk O t c a):jh [O,i5 t a,r]= .ok u->Wk O t (c++[r]) (a++[u]):=by
 induction h with
 |nil=>exact λe=> .cons e .nil
 |cons h1 h2 d=>exact λe=> .cons h1 (d (by simpa [i5] using e))
def Wk.len {O t:D} {rs us:List D} (h:Wk O t rs us):us.length=rs.length:=by
 induction h with
 |nil=>rfl
 |cons h1 h2 a=>simp [a]
def jdW (t u:D) (a:List D):i5 t (a++[u])=u:=by
 show ((t::a)++[u]).getLast _=u;simp only [List.getLast_append,List.getLast_singleton,ne_eq,List.cons_ne_self,not_false_eq_true,List.isEmpty_cons,pV,dite_false,reduceIte,dif_neg]
abbrev IJ (p:List Int) (k:Nat):D:= .ak [jV p,.int (k:Int)]
def Cq {x y:Int} {b:Bool} (h:decide (y<x)=b):nH (.int x) (.int y)= .ok (.bl b):=h▸rfl
def Okt (ns:List Str) (n:Nat) (t:D):Prop:=tk ns t=true/\ba t<=6+2*n/\num t<=60
def OL (a:List (D×D)) (r:D):Prop:= ∃(p:List Int) (k:Nat),r= .ak [jV p,.int (k:Int)]/\k<a.length/\p.length<=60
structure Rw (ns:List Str) (ps:List (D×D)) (hs:List D) (t:D) (rs us:List D):Prop where
 wk:Wk (bq ps hs) t rs us
 ln:rs.length<=7
 ot: ∀i u,(t::us)[i]?=some u->Okt ns i u
 or: ∀r∈rs,OL ps r
abbrev qk (d:List (D×D)) (e:List D) (t:D) (m:Int) (g h S:List D) (cnt:Int) (a b c:Slot):Sl:=[.ah (bq d e),.ah t,.ah (.int m),.aw (.ai g),.aw (.ai (t::h)),.ah (.ai S),.ah (.int cnt),a,b,c]
def Ea:Sl->al Bool:=iE (aW (ap (ag 5) (aS ae) dA)) (aW (ap (app (jb (ge 3) ae) bo) (ag 6) ltI))
def OM:Sl->al aT:=gA 4 (gA 3 (aJ (aS (jb (ag 3) (jb (ag 4) ae)))))
def ON:Sl->al aT:=aq (bW (aW (ap (jj 1 (qW 64) (jb (ag 9) ae)) (cI 60) nH)) OM bF) (aq (qH 3 (aD (jb (ag 7) (jb (ag 8) ae)))) (aq (qH 4 (ag 9)) (jw 5 (jj 2 wT (jb (ag 0) (jb (ag 9) ae))))))
def Eb:Sl->al aT:=aq (jw 2 (jj 2 jB (jb (ag 2) (jb (cI 3) ae)))) (aq (cw (ap (ag 5) (ap (ag 2) (app (jb (ag 5) ae) bo) a7) aX) (g3 (gN 7) (gN 8) (gN 9))) ON)
def OO {g:List (D×D)} {h:List D} {t:D} {m:Int} {d e S:List D} {cnt:Int} {a b c:Slot}:OM (qk g h t m d e S cnt a b c)= .ok (.rt true (.ai [.ai d,.ai (t::e)])):=rfl
def jgF (t:D) (a:List D):(t::a)[a.length]?=some (i5 t a):=by
 rw [i5,List.getLast_eq_getElem];simp
theorem vy {j:List (D×D)} {l:List D} {t:D} {cnt:Int} (R:rO ns j) (hc:0<=cnt/\cnt<8): ∀(f:Nat) (m:Int) (e g S:List D) (a b c:Slot),0<=m/\m<2^140->Rw ns j l t e g->(e.length:Int)<=cnt->9<=f+e.length->(∀d∈S,D8 j (i5 t g) d)->
  ∃q v,Rw ns j l t q v/\(zX f Ea Eb (qk j l t m e g S cnt a b c)= .ok (.rt true (.ai [.ai q,.ai (t::v)]))\/ ∃m' S' a' b' c',zX f Ea Eb (qk j l t m e g S cnt a b c)= .ok (.nx (qk j l t m' q v S' cnt a' b' c')))
 |0,m,e,g,S,a,b,c,Q,h,hr,hf,U=>by omega
 |f+1,m,e,g,S,a,b,c,Q,h,hr,hf,U=>by
  have E:Ea (qk j l t m e g S cnt a b c)= .ok (!S.isEmpty&&decide ((e.length:Int)<cnt)):=by
   unfold Ea;exact FS (jG (jk rfl rfl (N4 S))) (jG (jk (x:= .int e.length) (y:= .int cnt) rfl rfl rfl))
  cases I:(!S.isEmpty&&decide ((e.length:Int)<cnt)) with
  |false=>
   rw [I] at E;exact ⟨e,g,h,.inr ⟨m,S,a,b,c,Ya E⟩⟩
  |true=>
   rw [I] at E;simp only [dR,Bool.not_eq_true',decide_eq_true_eq] at I
   have GS:0<S.length:=by cases S with|nil=>simp at I|cons x r=>simp
   obtain ⟨z,em,bm⟩:=zf m 3 Q (by omega);have h0:=nL z (b:=(S.length:Int)) (by omega);have h1:=rK z (b:=(S.length:Int)) (by omega);obtain ⟨d,hd,L⟩:=C5 (ds:=S) (i:=z%(S.length:Int)) h0 h1;have hl:=h.wk.len;have N:=h.ot g.length _ (jgF t g);have ol1:=N.1;have ol2:=N.2.1;have hr7:=h.ln;obtain ⟨p,k,u,rfl,hk,hp,J,hu,hw⟩:=jiU (hs:=l) R N.1 (by omega) (U d L);have H:=OI 64 u J (by omega);have n: ∀ {o:al aT},ON (qk j l t z e g S cnt (.ah (jV p)) (.ah (.int (k:Int))) (.ah u))=o->Eb (qk j l t m e g S cnt a b c)=o:=λh=>(jl (jD (jo (jg rfl (jg rfl rfl)) rfl em))).trans ((jl (NF (jk rfl (jk (x:= .int z) (y:= .int S.length) rfl rfl (yn (by omega))) hd) jk5)).trans h)
   by_cases Y:(60:Int)< (num u:Int)
   . exact ⟨e,g,h,.inl (K5 E (n (Jn ((fy (jG (jk (jo (jg rfl rfl) rfl H) rfl (Cq (decide_eq_true Y))))).trans OO))))⟩
   . obtain ⟨S2,e2,hS2⟩:=Yr (hs:=l) J (by omega) (by omega) R.1 R.2.1 (OK R J (by omega) (by omega))
     have O:Eb (qk j l t m e g S cnt a b c)= .ok (.nx (qk j l t z (e++[IJ p k]) (g++[u]) S2 cnt (.ah (jV p)) (.ah (.int (k:Int))) (.ah u))):=by
      refine n ((jl ((dY (jG (jk (jo (jg rfl rfl) rfl H) rfl (Cq (decide_eq_false Y))))).trans rfl)).trans ?_);refine .trans (jl (Zx (ds:=e) (d:=IJ p k) rfl rfl (fH (by omega:_<5000) (by decide)))) ?_;exact (jl (Zx (ds:=t::g) (d:=u) rfl rfl (fH (by simp;omega:_<5000) (by decide)))).trans (jD (jo (jg rfl (jg rfl rfl)) rfl e2))
     have h':Rw ns j l t (e++[IJ p k]) (g++[u]):=by
      refine ⟨h.wk.snoc hw,?_,λi w B=>?_,λr hr=>?_⟩
      . simp;omega
      . by_cases bQ:i< (t::g).length
        . rw [<-Cg,ig bQ] at B;exact h.ot i w B
        . rw [<-Cg,gP (by omega)] at B
          have:i=g.length+1:=by
           have:=(ic.mp B).1;simp only [bN,eM] at this bQ;omega
          subst this;simp at B;subst B;exact ⟨J,by omega,by omega⟩
      . rcases mD.mp hr with hr|hr
        . exact h.or r hr
        . simp only [bA,ei,or_false] at hr;exact ⟨p,k,hr,hk,hp⟩
     rw [K6 E O];exact vy R hc f z _ _ S2 _ _ _ bm h' (by simp;omega) (by simp;omega) (by rwa [jdW])
def IK {d:List (D×D)} {hs:List D} {t:D} {m:Int} (R:rO ns d) (l:tk ns t=true) (y:ba t<=6) (o:num t<=60) (z:0<=m/\m<2^140): ∃g j,yB [bq d hs,t,.int m]= .ok (.ai [.ai g,.ai (t::j)])/\Rw ns d hs t g j:=by
 obtain ⟨S,e,p⟩:=Yr (hs:=hs) l (by omega) (by omega) R.1 R.2.1 (OK R l (by omega) (by omega))
 have q:Rw ns d hs t [] []:=⟨.nil,by simp,λi u n=>by
   cases i with
   |zero=>simp at n;subst n;exact ⟨l,by omega,o⟩
   |succ i=>simp at n,λr v=>by cases v⟩
 obtain ⟨g,j,w,h⟩:=vy (cnt:=m%8) R (by omega) 20 (m/8) [] [] S .un .un .un (by omega) q (by simp;omega) (by simp) p;refine ⟨g,j,zy ?_,w⟩;show J4 wT jB (qW 64) [.ah (bq d hs),.ah t,.ah (.int m),.un,.un,.un,.un,.un,.un,.un]=_;unfold J4;refine (jl rfl).trans ((jl rfl).trans ((jl (Wg (Ak rfl rfl (by omega)))).trans ((jl (jD (jo (jg rfl (jg rfl rfl)) rfl e))).trans ?_)));rcases h with h| ⟨B,E,a,b,c,h⟩
 . exact Jn h
 . exact (jl h).trans OO
def jhM {f:T1} {env:Sl} {d:D} (h:f env= .ok d):Dv f env= .ok none:=by
 show (f env>>=_)=_;rw [h];rfl
abbrev IL (p t:D) (c:Slot) (u:Slot:= .un):Sl:=[.ah p,.ah t,c,u]
def IM {p t:D} (u:tk ns p=true) (l:tk ns t=true) (O:ba p<=60) (v:ba t<=60) (w:num p<=1000) (y:num t<=1000):Ag [p,t]= .ok (mf (fX p t)):=by
 unfold fX;have n:=Kx u l (by omega) (by omega) w
 have r: ∀M,(mp p t).bind (b6 [])=some M-> ∀q∈M,Pt ns t q:=λM e q h=>by
  cases e1:mp p t with
  |none=>rw [e1] at e;cases e
  |some a=>
   rw [e1] at e;rcases Zy a [] M e q h with z|z
   . cases z
   . exact D4 p t a l e1 q z
 generalize (mp p t).bind (b6 [])=o at n r;refine zy ?_;show DF qp jY (IL p t .un)=_;unfold DF;refine .trans (jl (YT (jo (jg rfl (jg rfl rfl)) rfl n))) ?_
 cases o with
 |none=>exact (jl ((dY (jG (jk rfl rfl rfl))).trans rfl)).trans rfl
 |some M=>
  have c:=r M rfl
  have j:Ab (Dv (jj 1 (λB=>hI (jY B)) (jb (ap (ag 2) (ag 3) oy) ae))) 3 (ky M) (lend (IL p t (.aw (.aQ (ky M) (vl M)))))= .ok none:=by
   refine ui _ λk E=>?_
   obtain ⟨i,H,rfl⟩:=hG.mp E;obtain ⟨d,g⟩:=Yp H;obtain ⟨I,J,L⟩:=c _ (Z7 g)
   have N:kA (.aw (.aQ (ky M) (vl M)))= .ah (.fq (ky M) (vl M)):=if_pos (gB.mpr λd g=>by
     obtain ⟨q,h,rfl⟩:=hG.mp g
     exact jjR _ (c q h).1)
   refine jhM (d:=d) (env:=[_,_,kA (.aw (.aQ (ky M) (vl M))),.ah (.int i)]) (jo (jg (jk (x:= .fq (ky M) (vl M)) (by rw [N];rfl) rfl (show (match bU (ky M) (vl M) (.inl i) with|some d=>al.ok d|none=> .aj)= .ok d by rw [WT,g])) rfl) rfl ?_);show hI (jY [d])= .ok d;rw [WQ (wZ _ I),show bw d=false by unfold bw;dsimp only at J L;simp;omega];rfl
  refine .trans (jl (env':=IL p t (.aw (.aQ (ky M) (vl M))) ((ky M).getLast?.elim .un λk=> .ah (kD k))) ((fy (jG (jk rfl rfl rfl))).trans ?_)) rfl;refine (jn (show allI (ky M)=true from jfI _)).trans ((congrArg (· >>=_) j).trans ?_);show tL 3 (ky M) _ none=_;unfold tL
  cases (ky M).getLast? with|none=>rfl|some k=>rfl
def jd3 {d x e:D} (h:xT d x=some e):ba e+1<=ba d:=by
 cases x with
 |int i=>
  simp only [xT] at h
  split at h
  . have:=qI (lu h);rw [Yu d];omega
  . cases h
 |_=>cases h
theorem OP: ∀(c:List D) (d e:D),gS d c=some e->c.length+1<=ba d
 | [],d,e,_=>JB d
 |x::r,d,e,h=>by
  simp only [gS] at h
  cases a:xT d x with
  |none=>rw [a] at h;cases h
  |some u=>
   rw [a] at h;have g:=OP r u e h;have i:=jd3 a;simp only [bN];omega
def jhw {t:D} (h:tk ns t=true):(bc t).length<=9:=by
 rcases qe h with ⟨i,rfl⟩| ⟨z,c,rfl,_,a,_⟩
 . simp [bc]
 . simpa [bc] using a
def rP (ns:List Str) (a:List (D×D)) (T x:D):Prop:= ∀c,jh [bq a c,T,x]= .exc "NoStep"
def J9 {c:List (D×D)} {T:D} {k:Nat} {a:List D} (d:tk ns T=true) (e:k<c.length) (g: ∀x∈a,Zb x=true) (h:gS T a=none):rP ns c T (.ak [.ak a,.int (k:Int)]):=λi=>
 UF (cU e) (by rw [Qu (wZ T d) g,h];rfl)
def IN {a:List (D×D)} {T p:D} {k:Nat} (c:k<a.length) (h:dW "tuple" p= .ok (.bl false)):rP ns a T (.ak [p,.int (k:Int)]):=λd=>UF (cU c) (jeq h)
def JN {d:List (D×D)} {T x:D} {c:Bool} (e:dW "tuple" x= .ok (.bl c)) (g: ∀a b,x= .ak [a,b]->Zb b=true) (h:iV d.length x=false):rP ns d T x:=λi=>jiH e g h
abbrev nn (c:List (D×D)) (d:List D) (T:D) (m a k:Int):Sl:=[.ah (.int m),.ah (bq c d),.ah T,.ah (.ai (c.map rl)),.ah (.int a),.ah (.int k)]
def OQ:Sl->al aT:=aq (bW (aW (ap (jj 2 Ag (jb (ap (ap (ag 3) (ag 5) aX) (cI 0) aX) (jb (ag 2) ae))) cN ri)) (aJ (aD (jb (aD ae) (jb (ag 5) ae)))) bF) (aJ (aD (jb (ap (aD (jb (cI 0) ae)) (cI 61) zK) (jb (ag 5) ae))))
def OR:Sl->al aT:=aJ (aD (jb (aD (jb (ap (cI 9) (ap (ag 0) (cI 9) a7) aK) ae)) (jb (ag 5) ae)))
def OS:Sl->al aT:=aJ (aD (jb (aD (jb (ap (fx (cI 1)) (ap (ag 0) (cI 9) a7) eS) ae)) (jb (ag 5) ae)))
def OT:Sl->al aT:=aJ (aD (jb (aD ae) (jb (ap (app (jb (ag 3) ae) bo) (ap (ag 0) (ap (cI 10) (cI 30) bS) a7) aK) ae)))
def OU:Sl->al aT:=aJ (aD (jb (aD ae) (jb (ap (fx (cI 1)) (ap (ag 0) (ap (cI 10) (cI 30) bS) a7) eS) ae)))
def OV:Sl->al aT:=retS (ap (aS (jb (aD (jb (aD ae) (jb (cB false) ae))) (jb (aD (jb (aD (jb (cB false) ae)) (jb (ag 5) ae))) (jb (aD (jb (aD (jb (cB true) ae)) (jb (ag 5) ae))) (jb (aD (jb (aD (jb cN ae)) (jb (ag 5) ae))) ae))))) (ap (ag 0) (cI 4) a7) aX)
def OW:Sl->al aT:=retS (ap (aS (jb (aD (jb (aD ae) ae)) (jb (aD (jb (aD ae) (jb (ag 5) (jb (ag 2) ae)))) (jb (aS (jb (aD ae) (jb (ag 5) ae))) (jb (cS "0") (jb cN (jb (ag 5) (jb (aD (jb (aS ae) (jb (ag 5) ae))) (jb (aD (jb cN (jb (ag 5) ae))) (jb (aD (jb (cS "") (jb (ag 5) ae))) ae)))))))))) (ap (ag 0) (cI 9) a7) aX)
def fD (c:Int) (g h:TZ):Sl->al aT:=aq (bW (aW (ap (ag 4) (cI c) eO)) g bF) h
def Cr:Sl->al aT:=aq (bW (aW (ap (ag 4) (cI 3) ltI)) OQ bF) (fD 3 OR (fD 4 OS (fD 5 OT (fD 6 OU (fD 7 OV OW)))))
variable {ps:List (D×D)} {hs:List D} {T:D} {m way k:Int}
def oM {c:Int} {g h:TZ} {a:Bool} {x:D} (e:(way==c)=true) (d:g (nn ps hs T m way k)= .ok (.rt a x)):fD c g h (nn ps hs T m way k)= .ok (.rt a x):=by
 unfold fD;exact Jn ((fy (jG (jk rfl rfl (gr.trans (by rw [e]))))).trans d)
def eY {c:Int} {g h:TZ} {o:al aT} (e:(way==c)=false) (a:h (nn ps hs T m way k)=o):fD c g h (nn ps hs T m way k)=o:=by
 unfold fD;exact (jl ((dY (jG (jk rfl rfl (gr.trans (by rw [e]))))))).trans a
def OX {L:List D} {n j:Int} (a:0<n) (c:(L.length:Int)=n) (h: ∀x∈L,rP ns ps T x): ∃x,aX (.ai L) (.int (j%n))= .ok x/\rP ns ps T x:=by
 obtain ⟨x,e,d⟩:=C5 (i:=j%n) (nL _ (by omega)) (by rw [c];exact rK _ a);exact ⟨x,e,h x d⟩
def jfE (R:rO ns ps) (g:tk ns T=true) (hh:ba T<=40) (hn:num T<=60) {kn:Nat} (d:kn<ps.length) (hw:0<=way): ∃y x,Cr (nn ps hs T m way (kn:Int))= .ok (.rt y x)/\rP ns ps T x:=by
 have Q:=cU d;have H:=R.1 _ (pR d);have c:aX (.ai (ps.map rl)) (.int (kn:Int))= .ok (rl ps[kn]):=p8 (by rw [gY,Q];rfl)
 by_cases U:way<3
 . have a:=H.hl;have b:=H.nl;have hf:=IM H.tl g (by omega) (by omega) (by omega) (by omega);have B:jj 2 Ag (jb (ap (ap (ag 3) (ag 5) aX) (cI 0) aX) (jb (ag 2) ae)) (nn ps hs T m way (kn:Int))= .ok (mf (fX ps[kn].1 T)):=jo (jg (jk (jk rfl rfl c) rfl om) (jg rfl rfl)) rfl hf;have I:aW (ap (ag 4) (cI 3) ltI) (nn ps hs T m way (kn:Int))= .ok true:=jG ((jk rfl rfl rfl).trans (congrArg (λb=>al.ok (D.bl b)) (decide_eq_true U)))
   have run: ∀ {y x},OQ (nn ps hs T m way (kn:Int))= .ok (.rt y x)->Cr (nn ps hs T m way (kn:Int))= .ok (.rt y x):=λh=>by
     unfold Cr;exact Jn ((fy I).trans h)
   cases e:fX ps[kn].1 T with
   |none=>
     rw [e] at B;refine ⟨true,.ak [.ak [],.int (kn:Int)],run (Jn ((fy (jG (jk B rfl rfl))))),λJ=>?_⟩
     have h1:(([],T):List Int×D)∈bL T:=by
       rcases qe g with ⟨i,rfl⟩| ⟨z,ts,rfl,_⟩
       . rw [Jx];simp
       . rw [ZY];simp
     have Y:=vh (hs:=J) Q g (by omega) R.1 h1;rw [e] at Y;exact Y
   |some M=>
     rw [e] at B;refine ⟨true,.ak [.ak (dq 61 (.int 0)),.int (kn:Int)],run ((jl ((dY (jG (jk B rfl rfl))))).trans rfl),J9 g d (λx c=>by rw [List.eq_of_mem_replicate c];rfl) ?_⟩
     cases z:gS T (dq 61 (.int 0)) with
     |none=>rfl
     |some e=>have:=OP _ _ _ z;simp only [List.length_replicate] at this;omega
 . have I:aW (ap (ag 4) (cI 3) ltI) (nn ps hs T m way (kn:Int))= .ok false:=jG ((jk rfl rfl rfl).trans (congrArg (λb=>al.ok (D.bl b)) (decide_eq_false U)))
   have run: ∀ {o},(fD 3 OR (fD 4 OS (fD 5 OT (fD 6 OU (fD 7 OV OW))))) (nn ps hs T m way (kn:Int))=o->Cr (nn ps hs T m way (kn:Int))=o:=λh=>by
     unfold Cr;exact (jl ((dY I))).trans h
   have u: ∀i:Int,i<0\/9<=i->gS T [.int i]=none:=λi hi=>by
     have hk9:=jhw g
     have:xT T (.int i)=none:=by
       simp only [xT]
       by_cases h0:0<=i
       . rw [if_pos h0,n5 (by omega)]
       . rw [if_neg h0]
     simp only [gS];rw [this]
   have sc: ∀i:Int,∀x∈[D.int i],Zb x=true:=λi x c=>by
     simp only [bA,ei,or_false] at c;rw [c];rfl
   by_cases j:(way==3)=true
   . have N:=nL m (b:=9) (by omega);exact ⟨true,_,run (oM j (qA (xa (jg (xa (jg (jk rfl (jk rfl rfl (yn (by omega))) rfl) rfl) (jz (by simp))) (jg rfl rfl)) (jz (by simp))))),J9 g d (sc _) (u _ (by omega))⟩
   have j:(way==3)=false:=by simpa using j
   by_cases l:(way==4)=true
   . have N:=nL m (b:=9) (by omega);exact ⟨true,_,run (eY j (oM l (qA (xa (jg (xa (jg (jk rfl (jk rfl rfl (yn (by omega))) rfl) rfl) (jz (by simp))) (jg rfl rfl)) (jz (by simp)))))),J9 g d (sc _) (u _ (by omega))⟩
   have l:(way==4)=false:=by simpa using l
   have pw: ∀ {O:Sl},ap (cI 10) (cI 30) bS O= .ok (.int (10^30)):=rfl
   have v: ∀i:Int,i<0\/(ps.length:Int)<=i->rP ns ps T (.ak [.ak [],.int i]):=λi hi=>JN rfl (λa b e=>by cases e;rfl) (by
     simp only [iV,IB,decide_eq_false_iff_not];omega)
   by_cases r:(way==5)=true
   . have N:=nL m (b:=10^30) (by omega);exact ⟨true,_,run (eY j (eY l (oM r (qA (xa (jg rfl (jg (jk rfl (jk rfl pw (yn (by omega))) rfl) rfl)) (jz (by simp))))))),v _ (by rw [dQ];omega)⟩
   have r:(way==5)=false:=by simpa using r
   by_cases w:(way==6)=true
   . have N:=nL m (b:=10^30) (by omega);exact ⟨true,_,run (eY j (eY l (eY r (oM w (qA (xa (jg rfl (jg (jk rfl (jk rfl pw (yn (by omega))) rfl) rfl)) (jz (by simp)))))))),v _ (by omega)⟩
   have w:(way==6)=false:=by simpa using w
   by_cases E:(way==7)=true
   . obtain ⟨x,p,q⟩:=OX (ns:=ns) (ps:=ps) (T:=T) (n:=4) (L:=[.ak [.ak [],.bl false],.ak [.ak [.bl false],.int (kn:Int)],.ak [.ak [.bl true],.int (kn:Int)],.ak [.ak [.aU],.int (kn:Int)]]) (by omega) rfl (λx c=>by
       simp only [bA,ei,or_false] at c;rcases c with rfl|rfl|rfl|rfl
       . exact JN rfl (λa b e=>by cases e;rfl) rfl
       . exact J9 g d (λx c=>by simp only [bA,ei,or_false] at c;rw [c];rfl) rfl
       . exact J9 g d (λx c=>by simp only [bA,ei,or_false] at c;rw [c];rfl) rfl
       . exact J9 g d (λx c=>by simp only [bA,ei,or_false] at c;rw [c];rfl) rfl)
     exact ⟨false,x,run (eY j (eY l (eY r (eY w (oM E (Jv (jk rfl (jk rfl rfl (yn (by omega))) p))))))),q⟩
   have E:(way==7)=false:=by simpa using E
   obtain ⟨x,p,q⟩:=OX (ns:=ns) (ps:=ps) (T:=T) (n:=9) (L:=[.ak [.ak []],.ak [.ak [],.int (kn:Int),T],.ai [.ak [],.int (kn:Int)],.str "0",.aU,.int (kn:Int),.ak [.ai [],.int (kn:Int)],.ak [.aU,.int (kn:Int)],.ak [.str "",.int (kn:Int)]]) (by omega) rfl (λx c=>by
     simp only [bA,ei,or_false] at c;rcases c with rfl|rfl|rfl|rfl|rfl|rfl|rfl|rfl|rfl
     . exact JN rfl (λa b e=>by cases e) rfl
     . exact JN rfl (λa b e=>by cases e) rfl
     . exact JN rfl (λa b e=>by cases e) rfl
     . exact JN rfl (λa b e=>by cases e) rfl
     . exact JN rfl (λa b e=>by cases e) rfl
     . exact JN rfl (λa b e=>by cases e) rfl
     . exact IN d rfl
     . exact IN d rfl
     . exact IN d rfl)
   exact ⟨false,x,run (eY j (eY l (eY r (eY w (eY E (Jv (jk rfl (jk rfl rfl (yn (by omega))) p))))))),q⟩
def IP (R:rO ns ps) (e:tk ns T=true) (g:ba T<=40) (h:num T<=60) (o:0<ps.length) {m:Int} (p:0<=m): ∃x,yC [.int m,bq ps hs,T]= .ok x/\rP ns ps T x:=by
 have q:=R.2.1;have r:=nL (m/14) (b:=(ps.length:Int)) (by omega);have u:=rK (m/14) (b:=(ps.length:Int)) (by omega);obtain ⟨c,x,d,i⟩:=jfE (way:=m%14) R e g h (kn:=(m/14%(ps.length:Int)).toNat) (by omega) (by omega);rw [show (((m/14%(ps.length:Int)).toNat:Nat):Int)=m/14%(ps.length:Int) by omega] at d;have v:zB [bq ps hs]= .ok (.ai (ps.map rl)):=rfl
 have a:J5 zB Ag [.ah (.int m),.ah (bq ps hs),.ah T,.un,.un,.un]= .ok (.rt c x):=by
  unfold J5;have j:jw 3 (X6 "Rules" "told" 1 zB (ag 1) pC) [.ah (.int m),.ah (bq ps hs),.ah T,.un,.un,.un]= .ok (.nx [.ah (.int m),.ah (bq ps hs),.ah T,.ah (.ai (ps.map rl)),.un,.un]):=by decreasing_with exact rfl
  have l:cw (app (jb (ag 0) (jb (cI 14) ae)) zx) (g2 (gN 0) (gN 4)) [.ah (.int m),.ah (bq ps hs),.ah T,.ah (.ai (ps.map rl)),.un,.un]= .ok (.nx [.ah (.int (m/14)),.ah (bq ps hs),.ah T,.ah (.ai (ps.map rl)),.ah (.int (m%14)),.un]):=(Wg (Ak rfl rfl (by omega))).trans rfl
  have n:cw (app (jb (ag 0) (jb (app (jb (ag 3) ae) bo) ae)) zx) (g2 (gN 0) (gN 5)) [.ah (.int (m/14)),.ah (bq ps hs),.ah T,.ah (.ai (ps.map rl)),.ah (.int (m%14)),.un]= .ok (.nx (nn ps hs T (m/14/(ps.length:Int)) (m%14) (m/14%(ps.length:Int)))):=by
   refine (Wg (Ak rfl ?_ (by omega))).trans rfl;show al.ok (D.int ((ps.map rl).length:Int))=_;rw [dQ]
  exact (jl j).trans ((jl l).trans ((jl n).trans d))
 refine ⟨x,?_,i⟩
 cases c with
 |true=>exact zy a
 |false=>exact Bu a
def dk (z:Str) (x:D):Nat->D
 |0=>x
 |k+1=> .ak [.str z,dk z x k]
theorem kY (z:Str) (x:D) (j:Nat): ∀k,dk z (dk z x j) k=dk z x (k+j)
 |0=>by simp [dk]
 |k+1=>by rw [show k+1+j=(k+j)+1 by omega];simp only [dk];rw [kY z x j k]
def jkr (z:Str) (x:D): ∀k,dk z (.ak [.str z,x]) k=dk z x (k+1):=λk=>kY z x 1 k
theorem IQ {z:Str} (a:z∈ns) {x:D} (c:tk ns x=true): ∀k,tk ns (dk z x k)=true
 |0=>c
 |k+1=>ZH a (by simp) λt d=>by simp at d;rw [d];exact IQ a c k
theorem YR (z:Str) (x:D): ∀k,ba (dk z x k)=k+ba x/\num (dk z x k)=k+num x
 |0=>by simp [dk]
 |k+1=>by
  obtain ⟨a,b⟩:=YR z x k;simp only [dk,qh,qr,bj,nums];omega
variable {n0 n1 n2 n3 n4:Str}
abbrev zr (z:Str):D:= .ak [.str z]
abbrev ez (n0 n1 n2 n3 n4:Str):D:= .ai ([n0,n1,n2,n3,n4].map .str)
theorem YG {k0:Slot}: ∀(ds:List D) (x:D) (u:Slot),∃a,bh (wx (gN 3) (jw 2 (aD (jb (ap (ag 0) (cI 0) aX) (jb (ag 2) ae))))) ds [.ah (ez n0 n1 n2 n3 n4),k0,.ah x,u]= .ok (.nx [.ah (ez n0 n1 n2 n3 n4),k0,.ah (dk n0 x ds.length),a])
 | [],x,u=>⟨u,rfl⟩
 |d::ds,x,u=>by
  obtain ⟨a,h⟩:=YG (k0:=k0) ds (.ak [.str n0,x]) (.ah d);refine ⟨a,?_⟩;have hs:wx (gN 3) (jw 2 (aD (jb (ap (ag 0) (cI 0) aX) (jb (ag 2) ae)))) d [.ah (ez n0 n1 n2 n3 n4),k0,.ah x,u]= .ok (.nx [.ah (ez n0 n1 n2 n3 n4),k0,.ah (.ak [.str n0,x]),.ah d]):=rfl;rw [wc hs,h,jkr];rfl
def OY {i:Int} (k:Nat) (a:i=(k:Int)+1) (e:k<=1000):zS [ez n0 n1 n2 n3 n4,.int i]= .ok (dk n0 (zr n1) k):=by
 obtain ⟨g,h⟩:=YG (n0:=n0) (n1:=n1) (n2:=n2) (n3:=n3) (n4:=n4) (k0:= .ah (.int i)) (Qd 0 (k:Int).toNat) (zr n1) .un;rw [wP,rb] at h;have c:eG (jb (ap (ag 1) (cI 1) eS) ae) [.ah (ez n0 n1 n2 n3 n4),.ah (.int i),.ah (zr n1),.un]= .ok (Qd 0 (k:Int).toNat):=W5 (jg (jk (x:= .int i) (y:= .int 1) rfl rfl (show _=al.ok (D.int (k:Int)) by rw [a];show al.ok (D.int ((k:Int)+1-1))=_;rw [Int.add_sub_cancel])) rfl) (by omega);refine Bu ?_;show xZ [.ah (ez n0 n1 n2 n3 n4),.ah (.int i),.un,.un]=_;unfold xZ;exact .trans (jl (jD (d:=zr n1) rfl)) ((jl (G9 c h)).trans rfl)
def cr (z:Str) (x:D):D:= .ak (.str z::dq 9 x)
def wd (n0 n1 n2 n3:Str) (s r:Nat):D:= .ak [.str n3,dk n0 (zr n1) s,cr n2 (cr n2 (cr n2 (zr n1))),cr n2 (cr n2 (zr n1)),dk n0 (zr n1) r,cr n2 (zr n1),cr n2 (zr n1),cr n2 (zr n1),cr n2 (zr n1),cr n2 (zr n1)]
def UG {i j:Int} (s r:Nat) (a:i=(s:Int)+1) (c:j=(r:Int)+1) (hs:s<=1000) (e:r<=1000):zP [ez n0 n1 n2 n3 n4,.int i,.int j]= .ok (wd n0 n1 n2 n3 s r):=by
 have g:zS [ez n0 n1 n2 n3 n4,.int i]= .ok (dk n0 (zr n1) s):=OY s a hs;have h:zS [ez n0 n1 n2 n3 n4,.int j]= .ok (dk n0 (zr n1) r):=OY r c e;refine zy ?_;show yR zS [.ah (ez n0 n1 n2 n3 n4),.ah (.int i),.ah (.int j),.un,.un,.un,.un]=_;unfold yR;refine .trans (jl (jD (d:=zr n1) rfl)) ?_;refine .trans (jl (jD (d:=zr n1) rfl)) ?_;refine .trans (jl (jD (d:=zr n1) rfl)) ?_;refine .trans (jl (env':=[.ah (ez n0 n1 n2 n3 n4),.ah (.int i),.ah (.int j),.ah (cr n2 (zr n1)),.ah (cr n2 (cr n2 (zr n1))),.ah (cr n2 (cr n2 (cr n2 (zr n1)))),.ah (.int 2)]) rfl) ?_;exact qA (xa (ds:=[.str n3,dk n0 (zr n1) s,cr n2 (cr n2 (cr n2 (zr n1))),cr n2 (cr n2 (zr n1)),dk n0 (zr n1) r,cr n2 (zr n1),cr n2 (zr n1),cr n2 (zr n1),cr n2 (zr n1),cr n2 (zr n1)]) (jg rfl (jg (jo (ds:=[ez n0 n1 n2 n3 n4,.int i]) rfl rfl g) (jg rfl (jg rfl (jg (jo (ds:=[ez n0 n1 n2 n3 n4,.int j]) rfl rfl h) rfl))))) (jz (by simp)))
end
section
variable {n0 n1 n2 n3 O:Str}
abbrev gT (n0 n1 n2 n3 O:Str):List Str:=[n0,n1,n2,n3,O]
def Kg (z:Str) (x:D):ba (cr z x)=1+ba x/\num (cr z x)=1+9*num x:=by
 unfold cr;rw [qh,qr];simp only [dq,bj,nums];omega
def IR {a:List Str} {z:Str} (c:z∈a) {x:D} (d:tk a x=true):tk a (cr z x)=true:=ZH c (by simp) λt e=>by rw [List.eq_of_mem_replicate e];exact d
def UI {a:List Str} {z:Str} (c:z∈a):tk a (zr z)=true:=ZH c (by simp) λt d=>by cases d
def jgC (z:Str):ba (zr z)=1/\num (zr z)=1:=by simp [zr,qh,qr,bj,nums]
def uT (s r:Nat):tk (gT n0 n1 n2 n3 O) (wd n0 n1 n2 n3 s r)=true:=by
 have a:tk (gT n0 n1 n2 n3 O) (cr n2 (zr n1))=true:=IR (by simp) (UI (by simp));have c:tk (gT n0 n1 n2 n3 O) (cr n2 (cr n2 (zr n1)))=true:=IR (by simp) a;have g:tk (gT n0 n1 n2 n3 O) (cr n2 (cr n2 (cr n2 (zr n1))))=true:=IR (by simp) c;have d: ∀k,tk (gT n0 n1 n2 n3 O) (dk n0 (zr n1) k)=true:=IQ (by simp) (UI (by simp));refine ZH (by simp) (by simp) λt e=>?_
 simp only [bA,ei,or_false] at e;rcases e with rfl|rfl|rfl|rfl|rfl|rfl|rfl|rfl|rfl
 . exact d s
 . exact g
 . exact c
 . exact d r
 all_goals exact a
def Jm {s r:Nat} (L:s<=40) (g:r<=40):ba (wd n0 n1 n2 n3 s r)<=50/\num (wd n0 n1 n2 n3 s r)=964+s+r:=by
 have a:=jgC n1;have b:=Kg n2 (zr n1);have c:=Kg n2 (cr n2 (zr n1));have d:=Kg n2 (cr n2 (cr n2 (zr n1)));have e:=YR n0 (zr n1) s;have f:=YR n0 (zr n1) r;unfold wd;rw [qh,qr];simp only [bj,nums];omega
theorem UX (z:Str) (x:D) (a:([],x)∈bL x): ∀k,(dq k (0:Int),x)∈bL (dk z x k)
 |0=>a
 |k+1=>by
  show _∈bL (.ak [.str z,dk z x k]);refine gc _ ?_;exact Aq _ (hG.mpr ⟨_,UX z x a k,rfl⟩)
def Y0 {ns:List Str} {t:D} (h:tk ns t=true):(([],t):List Int×D)∈bL t:=by
 rcases qe h with ⟨i,rfl⟩| ⟨z,a,rfl,_⟩
 . rw [Jx];simp
 . rw [ZY];simp
def IS {s r:Nat} {p:List Int} {e:D} (h:(p,e)∈bL (dk n0 (zr n1) s)):(0::p,e)∈bL (wd n0 n1 n2 n3 s r):=by
 refine gc _ ?_;exact Aq _ (hG.mpr ⟨_,h,rfl⟩)
theorem OZ (z:Str) (x o:D): ∀k,putAt o (dq k (0:Int)) (dk z x k)=dk z o k
 |0=>rfl
 |k+1=>by
  show putAt o (0::dq k 0) (.ak [.str z,dk z x k])=_;show D.ak [.str z,putAt o (dq k 0) (dk z x k)]=_;rw [OZ z x o k];rfl
def O0 {s r:Nat} (o:D) (p:List Int):putAt o (0::p) (wd n0 n1 n2 n3 s r)= .ak [.str n3,putAt o p (dk n0 (zr n1) s),cr n2 (cr n2 (cr n2 (zr n1))),cr n2 (cr n2 (zr n1)),dk n0 (zr n1) r,cr n2 (zr n1),cr n2 (zr n1),cr n2 (zr n1),cr n2 (zr n1),cr n2 (zr n1)]:=by
 unfold wd;rw [Jw];rfl
def gv (n0 n1:Str):List (D×D):=[(.ak [.str n0,.int 1],.int 1),(zr n1,.ak [.str n0,zr n1])]
def qs:p7 (gT n0 n1 n2 n3 O) (gv n0 n1):=λp d=>by
 simp only [gv,bA,ei,or_false] at d;rcases d with rfl|rfl
 . exact ⟨ZH (by simp) (by simp) λt c=>(by simp only [bA,ei,or_false] at c;rw [c];rfl),rfl,⟨_,_,rfl⟩,by simp [qh,bj,ba],by simp [ba],by simp [qr,nums,num],by simp [num],λx a=>by simpa [dZ,dw] using a,1,1,by omega,by omega,λx a=>by simpa [dZ,dw] using a⟩
 . exact ⟨UI (by simp),ZH (by simp) (by simp) λt c=>(by simp only [bA,ei,or_false] at c;rw [c];exact UI (by simp)),⟨_,_,rfl⟩,by simp [zr,qh,bj],by simp [zr,qh,bj],by simp [zr,qr,nums],by simp [zr,qr,nums],λx a=>by simp [zr,dZ,dw] at a,1,1,by omega,by omega,λx a=>by simp [zr,dZ,dw] at a⟩
abbrev Cs (s:Nat):List Int:=0::dq s 0
def O1:fX (zr n1) (zr n1)=some []:=by
 unfold fX;rw [VH,if_pos rfl];rfl
def jj1 (n0:Str) (u:D):fX (.ak [.str n0,.int 1]) (.ak [.str n0,u])=some [(1,u)]:=by
 unfold fX;rw [VH,if_pos rfl,Zc,vU];rfl
def O2 (s r:Nat):res (wd n0 n1 n2 n3 s r) (Cs s,zr n1) (.ak [.str n0,zr n1]) []=wd n0 n1 n2 n3 (s+1) r:=by
 unfold res
 have:sub (lk []) (.ak [.str n0,zr n1])=dk n0 (zr n1) 1:=by
  rw [ZI];simp [ZI,dk]
 rw [this,O0,OZ,kY];rfl
def jka (s r:Nat):res (wd n0 n1 n2 n3 (s+1) r) ([0],dk n0 (zr n1) (s+1)) (.int 1) [(1,dk n0 (zr n1) s)]=wd n0 n1 n2 n3 s r:=by
 unfold res
 have:sub (lk [(1,dk n0 (zr n1) s)]) (.int 1)=dk n0 (zr n1) s:=by
  rw [sub_int];rfl
 rw [this,O0];rfl
variable {L:List D}
def O6 {s r:Nat} (i:s<=30) (j:r<=30):jh [bq (gv n0 n1) L,wd n0 n1 n2 n3 s r,.ak [jV (Cs s),.int 1]]=if 1000<965+s+r then .exc "TooGreat" else .ok (wd n0 n1 n2 n3 (s+1) r):=by
 obtain ⟨a,b⟩:=Jm (n0:=n0) (n1:=n1) (n2:=n2) (n3:=n3) (s:=s) (r:=r) (by omega) (by omega);have g:(Cs s,zr n1)∈bL (wd n0 n1 n2 n3 s r):=IS (UX n0 (zr n1) (Y0 (ns:=[n1]) (UI (by simp))) s);have h:=vh (ns:=gT n0 n1 n2 n3 n0) (hs:=L) (k:=1) rfl (uT s r) (by omega) qs g;rw [show ((1:Nat):Int)=1 from rfl] at h;rw [h,O1];dsimp only;rw [O2];obtain ⟨c,d⟩:=Jm (s:=s+1) (r:=r) (by omega) (by omega)
 have:bw (wd n0 n1 n2 n3 (s+1) r)=decide (1000<965+s+r):=by
   unfold bw;rw [decide_eq_decide,d];omega
 rw [this]
 by_cases e:1000<965+s+r
 . rw [decide_eq_true e,if_pos rfl,if_pos e]
 . rw [decide_eq_false e,if_neg (by simp),if_neg e]
def IT {s r:Nat} (g:s<=30) (i:r<=30) (j:964+s+r<=1000):jh [bq (gv n0 n1) L,wd n0 n1 n2 n3 (s+1) r,.ak [jV [0],.int 0]]= .ok (wd n0 n1 n2 n3 s r):=by
 obtain ⟨a,b⟩:=Jm (n0:=n0) (n1:=n1) (n2:=n2) (n3:=n3) (s:=s+1) (r:=r) (by omega) (by omega);have e:(([0],dk n0 (zr n1) (s+1)):List Int×D)∈bL (wd n0 n1 n2 n3 (s+1) r):=IS (Y0 (ns:=[n0,n1]) (IQ (by simp) (UI (by simp)) (s+1)));have h:=vh (ns:=gT n0 n1 n2 n3 n0) (hs:=L) (k:=0) rfl (uT (s+1) r) (by omega) qs e;rw [show ((0:Nat):Int)=0 from rfl] at h;rw [h,show fX (.ak [.str n0,.int 1]) (dk n0 (zr n1) (s+1))=some [(1,dk n0 (zr n1) s)] from jj1 n0 _];dsimp only;rw [jka];obtain ⟨c,d⟩:=Jm (s:=s) (r:=r) (by omega) (by omega)
 have:bw (wd n0 n1 n2 n3 s r)=false:=by
  unfold bw;rw [decide_eq_false_iff_not,d];omega
 rw [this];rfl
end
section
variable {ns:List Str}
theorem vq {t:D} {q:List Int×D}: ∀(c:List (D×D)) (k:Nat),(∃L,ip t q k c= .ok L)\/ip t q k c= .exc "TooGreat"
 | [],k=> .inl ⟨[],rfl⟩
 |p::c,k=>by
  have d:(∃L,stI t q k p= .ok L)\/stI t q k p= .exc "TooGreat" :=by
    unfold stI
    split
    . split
      . exact .inr rfl
      . exact .inl ⟨_,rfl⟩
    . exact .inl ⟨_,rfl⟩
  show (∃L,(match stI t q k p with| .ok a=>(match ip t q (k+1) c with| .ok b=>al.ok (a++b)|r=>r)|r=>r)= .ok L)\/(match stI t q k p with| .ok a=>(match ip t q (k+1) c with| .ok b=>al.ok (a++b)|r=>r)|r=>r)= .exc "TooGreat";rcases d with ⟨a,e⟩|e
  . rw [e];dsimp only;rcases vq c (k+1) with ⟨b,e2⟩|e2
    . rw [e2];exact .inl ⟨_,rfl⟩
    . rw [e2];exact .inr rfl
  . rw [e];exact .inr rfl
theorem O7 {t:D} {q:List Int×D} {M:As} {p:D×D} (g:fX p.1 q.2=some M) (i:bw (res t q p.2 M)=true): ∀(d:List (D×D)) (k:Nat),p∈d->ip t q k d= .exc "TooGreat"
 |p'::d,k,h=>by
  show (match stI t q k p' with| .ok a=>(match ip t q (k+1) d with| .ok b=>al.ok (a++b)|r=>r)|r=>r)= .exc "TooGreat";rcases bA.mp h with rfl|h
  . have:stI t q k p= .exc "TooGreat" :=by
     unfold stI;rw [g];dsimp only;rw [i];rfl
    rw [this]
  . have j:=O7 g i d (k+1) h
    cases e:stI t q k p' with
    |ok a=>dsimp only;rw [j]
    |exc c=>
     unfold stI at e
     split at e
     . split at e
       . cases e;rfl
       . cases e
     . cases e
    |aj=>
     unfold stI at e
     split at e
     . split at e<;>cases e
     . cases e
theorem O8 {t:D} {c:List (D×D)} {q:List Int×D} {M:As} {p:D×D} (d:p∈c) (g:fX p.1 q.2=some M) (i:bw (res t q p.2 M)=true): ∀L:List (List Int×D),q∈L->p9 t c L= .exc "TooGreat"
 |q'::L,h=>by
  show (match ip t q' 0 c with| .ok a=>(match p9 t c L with| .ok b=>al.ok (a++b)|r=>r)|r=>r)= .exc "TooGreat";rcases bA.mp h with rfl|h
  . rw [O7 g i c 0 d]
  . rcases vq (t:=t) (q:=q') c 0 with ⟨a,e⟩|e
    . rw [e];dsimp only;rw [O8 d g i L h]
    . rw [e]
variable {U Y J N I:Str} {Q:List D}
def YN {s r:Nat} (h:s<=30) (i:r<=30) (j:1000<965+s+r) (l:964+s+r<=1000):jt [bq (gv U Y) Q,wd U Y J N s r]= .exc "TooGreat" :=by
 obtain ⟨a,b⟩:=Jm (n0:=U) (n1:=Y) (n2:=J) (n3:=N) (s:=s) (r:=r) (by omega) (by omega);have e:(Cs s,zr Y)∈bL (wd U Y J N s r):=IS (UX U (zr Y) (Y0 (ns:=[Y]) (UI (by simp))) s);obtain ⟨c,d⟩:=Jm (n0:=U) (n1:=Y) (n2:=J) (n3:=N) (s:=s+1) (r:=r) (by omega) (by omega)
 have g:bw (wd U Y J N (s+1) r)=true:=by
  unfold bw;rw [decide_eq_true_eq,d];omega
 refine (Ov (ns:=gT U Y J N U) (uT s r) (by omega) (by omega) qs (by simp [gv])).trans ?_;rw [show D5 (wd U Y J N s r) (gv U Y)= .exc "TooGreat" from O8 (p:=(zr Y,.ak [.str U,zr Y])) (by simp [gv]) O1 (by rw [O2];exact g) _ e]
abbrev An (a:List (D×D)) (Q:List D) (t:D) (i:Int) (k:D) (e:Slot):Sl:=[.ah (bq a Q),.ah t,.ah (.int i),.ah k,e]
def IU:Sl->al aT:=fR (aW (ap (ag 2) (cI 0) eO)) (KJ (yN "Rules" "steps" 2 [] jt (ag 0) (jb (ag 1) ae))) (KJ (yN "Rules" "end" 3 [] qX (ag 0) (jb (ag 1) (jb (cI 3) ae))))
def IV:Sl->al aT:=jw 3 (aS (jb (fU [("TooGreat",false),("NoPath",false),("NoRule",false),("NoStep",true),("TooLong",false)] (ag 4)) (jb (fU [("TooGreat",true),("NoPath",false),("NoRule",false),("NoStep",false),("TooLong",false)] (ag 4)) (jb (fU [("TooGreat",false),("NoPath",true),("NoRule",false),("NoStep",false),("TooLong",false)] (ag 4)) ae))))
def uC {f:T1} {env:Sl} {c:Str} (h:f env= .exc c):KJ f env= .exc c:=by
 show (f env>>=_)=_;rw [h];rfl
def uZ {a:List (D×D)} {t:D} {i:Int} (c:i=0\/i=1) (h:jt [bq a Q,t]= .exc "TooGreat"):q8 [bq a Q,t,.int i]= .ok (.bl true):=by
 have d:qX [bq a Q,t,.int 3]= .exc "TooGreat" :=jfd h
 have e:IU (An a Q t i (.ai []) .un)= .exc "TooGreat" :=by
  unfold IU;rcases c with rfl|rfl
  . exact Ws (b:=true) rfl (uC ((Zd (ds:=[t]) rfl rfl rfl rfl).trans h))
  . exact Ws (b:=false) rfl (uC ((Zd (ds:=[t,.int 3]) rfl rfl rfl rfl).trans d))
 refine zy ?_;show zD jt qX [.ah (bq a Q),.ah t,.ah (.int i),.un,.un]=_;unfold zD;refine (jl (env':=An a Q t i (.ai []) .un) rfl).trans ?_;refine (jl (env':=An a Q t i (.ai [.bl false,.bl true,.bl false]) .un) ?_).trans rfl;show hJ ["TooGreat", "NoPath", "NoRule", "NoStep", "TooLong"] IU 4 IV _=_;unfold hJ;rw [e];show (if (["TooGreat", "NoPath", "NoRule", "NoStep", "TooLong"]:List Str).contains "TooGreat" =true then _ else _)=_;rw [if_pos (by decide)];have g:IV (An a Q t i (.ai []) (.ah (.du "TooGreat")))= .ok (.nx (An a Q t i (.ai [.bl false,.bl true,.bl false]) (.ah (.du "TooGreat")))):=rfl;show (IV (An a Q t i (.ai []) (.ah (.du "TooGreat")))>>=_)=_;rw [g];rfl
theorem QE {k:Nat}: ∀ds:List D,(∀d∈ds,D.cy d=true/\D.dX d<=k)->D.b7 ds=true/\D.cW ds<=k
 | [],_=>⟨rfl,i8 _⟩
 |d::ds,h=>by
  obtain ⟨a,b⟩:=QE ds λx g=>h x (gc _ g)
  obtain ⟨c,e⟩:=h d lE;simp only [D.b7,D.cW,c,a,Bool.and_self];exact ⟨trivial,by omega⟩
def Se (d:D):Prop:=D.cy d=true/\D.dX d<=190
def Se.ne {d:D} (h:Se d):dA d d= .ok (.bl false):=by
 have:dA d d= .ok (.bl (!df d d)):=jn (c:=sV d d) (.inl ⟨h.1,h.1,h.2⟩);rw [this,M.gC d h.1];rfl
def Pa {e:List D} (h: ∀t∈e,tk ns t=true/\ba t<=60):D.cy (.ai e)=true/\D.dX (.ai e)<=61:=by
 obtain ⟨a,b⟩:=QE (k:=60) e λt g=>by
  obtain ⟨c,d⟩:=uq t (h t g).1;exact ⟨c,by have:=(h t g).2;omega⟩
 exact ⟨a,by show D.cW e+1<=61;omega⟩
def Pb {ts:List D} (h: ∀t∈ts,tk ns t=true/\ba t<=60):Se (.ai [.ai ts,.ai []]):=by
 obtain ⟨a,b⟩:=Pa h
 obtain ⟨c,d⟩:=QE (k:=61) [.ai ts,.ai []] λx e=>by
  simp only [bA,ei,or_false] at e;rcases e with rfl|rfl
  . exact ⟨a,b⟩
  . exact ⟨rfl,by show 0+1<=61;omega⟩
 exact ⟨c,by show D.cW _+1<=190;omega⟩
def mi {t:T0} {g:TZ} {env:Sl} (h:t env= .ok false):bW t g bF env= .ok (.nx env):=(dY h).trans rfl
def mj {p q:List D} (h:p.length+q.length<=100):aK (.ai p) (.ai q)= .ok (.ai (p++q)):=jn (jz (by omega))
variable {U Y J N I:Str} {Q:List D}
abbrev IW (a:D) (m:Int) (O:D) (R:Int) (b:D) (c d e g:Slot):Sl:=[.ah a,.ah (.int m),.ah O,.ah (.int R),.ah b,c,d,e,g]
abbrev Ao:D:= .ak [.ak [.int 0],.int 0]
abbrev Ec:D:= .ak [.ak [.int 0,.int 9],.int 1]
def grR:Sl->al D:=zN false 1 [] (eG (jb (ap (ag 3) (cI 1) aK) ae)) (gN 0) qz (aD (jb (ap (aD (jb (cI 0) ae)) (ap (aD (jb (cI 0) ae)) (ap (cI 9) (ag 0) aK) zK) aK) (jb (cI 1) ae)))
def IX:Sl->al D:=zN false 1 [0,3] (eG (jb (ap (ag 3) (cI 1) aK) ae)) (gN 0) qz (jj 3 zP (jb (ag 1) (jb (ap (cI 10) (ag 0) aK) (jb (ap (cI 28) (ag 2) eS) ae))))
def Kp {m R:Int} {rows A us:List D} {x b l:D} (o:j8 (.obj "Rules" [] []) [.ai ((gv U Y).map rl)]= .ok (.aU,bq (gv U Y) Q)) (v:m%3=R)
  (w:zP [ez U Y J N I,.int 10,.int (28-R)]= .ok b) (c:grR (IW (ez U Y J N I) m (bq (gv U Y) Q) R b .un .un .un .un)= .ok (.ai rows))
  (e:IX (IW (ez U Y J N I) m (bq (gv U Y) Q) R b (.ah (.ai rows)) .un .un .un)= .ok (.ai (b::us))) (h:rows=A++[x]) (z:cutD rows none (some (-1))=A) (B:cutD rows (some (-1)) none=[x])
  (j:Wk (bq (gv U Y) Q) b A us) (hA:A.length<=10) (q:jY [b]= .ok b) (E:jh [bq (gv U Y) Q,i5 b us,x]= .exc "TooGreat")
  (H:jh [bq (gv U Y) Q,i5 b us,Ao]= .ok l) (L:zP [ez U Y J N I,.int (9+R),.int (28-R)]= .ok l) (st:jt [bq (gv U Y) Q,i5 b us]= .exc "TooGreat")
  (np:jh [bq (gv U Y) Q,i5 b us,Ec]= .exc "NoStep") (sz: ∀t∈l::b::us,tk ns t=true/\ba t<=60):zR [ez U Y J N I,.int m]= .ok (.bl true):=by
 generalize n:bq (gv U Y) Q=O at*;have lw:=j.len;have a1:jE [O,b,.ai A]= .ok (.ai [.ai (b::us),.ai []]):=by subst n;exact IH (WR j q (by omega))
 have a2:jE [O,b,.ai (A++[Ao])]= .ok (.ai [.ai ((b::us)++[l]),.ai []]):=by subst n;exact IH (WR (j.snoc H) q (by simp only [dr,bN,eM];omega))
 have a3:jE [O,b,.ai ((A++[x])++[.aU,Ao])]= .ok (.ai [.aU,.ai [.bl false,.bl true,.bl false]]):=by
  subst n;refine kX (g:=true) ?_;rw [i9];exact ZG j E (by omega)
 have a4:jE [O,b,.ai ((A++[Ec])++[x])]= .ok (.ai [.aU,.ai [.bl true,.bl false,.bl false]]):=by
  subst n;refine kX (g:=false) ?_;rw [i9];exact ZG j np (by omega)
 have r: ∀i,i=0\/i=1->q8 [O,i5 b us,.int i]= .ok (.bl true):=λi hi=>by subst n;exact uZ hi st
 have e1:=Pb (ns:=ns) (ts:=b::us) λt ht=>sz t (gc _ ht)
 have e2:=Pb (ns:=ns) (ts:=(b::us)++[l]) λt ht=>by
  rcases mD.mp ht with ht|ht
  . exact sz t (gc _ ht)
  . simp only [bA,ei,or_false] at ht;rw [ht];exact sz l lE
 have a:aX (.ai (b::us)) (.int (-1))= .ok (i5 b us):=OB rfl;have rl5:rows.length<=11:=by rw [h,dr];simp only [bN,eM];omega
 refine zy ?_;show xY j8 zP jE q8 [.ah (ez U Y J N I),.ah (.int m),.un,.un,.un,.un,.un,.un,.un]=_;unfold xY;have p:=congrArg (λl=>al.ok (D.ai l)) z;have u:A.length+1<=100:=by omega
 refine .trans (jl (jD (ku (ds:=[.ai ((gv U Y).map rl)]) rfl rfl o))) ?_;refine .trans (jl (jD (jk (x:= .int m) (y:= .int 3) rfl rfl ((yn (by omega)).trans (by rw [v]))))) ?_;refine .trans (jl (jD (jo (ds:=[ez U Y J N I,.int 10,.int (28-R)]) rfl rfl w))) ?_;refine .trans (jl (jD c)) ?_;refine .trans (jl (jD e)) ?_;refine .trans (jl (mi (jG (jk (jo (ds:=[O,b,.ai A]) (jg rfl (jg rfl (jg (qP (x:= .ai rows) rfl rfl rfl p) rfl))) rfl a1) rfl e1.ne)))) ?_;refine .trans (jl (mi (Wz (b:=false) (b2:=false) (qQ (b:=true) (jG (jo (ds:=[O,i5 b us,.int 0]) (jg rfl (jg (jk rfl rfl a) rfl)) rfl (r 0 (.inl rfl))))) (qQ (b:=true) (jG (jo (ds:=[O,i5 b us,.int 1]) (jg rfl (jg (jk rfl rfl a) rfl)) rfl (r 1 (.inr rfl)))))))) ?_;refine .trans (jl (jD (d:=Ao) rfl)) ?_;refine .trans (jl (jD (jo (ds:=[ez U Y J N I,.int (9+R),.int (28-R)]) rfl rfl L))) ?_;refine .trans (jl (mi (jG (jk (jo (ds:=[O,b,.ai (A++[Ao])]) (jg rfl (jg rfl (jg (jk (qP (x:= .ai rows) rfl rfl rfl p) rfl (mj u)) rfl))) rfl a2) (VJ (ds:=[.ai ((b::us)++[l]),.ai []]) (jg (jk (x:= .ai (b::us)) rfl rfl (mj (by simp only [bN,eM];omega))) rfl) (jz (by simp))) e2.ne)))) ?_;refine .trans (jl (mi (jG (jk (jo (ds:=[O,b,.ai (rows++[.aU,Ao])]) (jg rfl (jg rfl (jg (jk rfl rfl (mj (by simp only [bN,eM];omega))) rfl))) rfl (by rw [h];exact a3)) rfl rfl)))) ?_;exact qA (jk (jo (ds:=[O,b,.ai ((A++[Ec])++[x])]) (jg rfl (jg rfl (jg (jk (jk (qP (x:= .ai rows) rfl rfl rfl p) rfl (mj u)) (qP (x:= .ai rows) rfl rfl rfl (congrArg (λl=>al.ok (D.ai l)) B)) (mj (by simp only [dr,bN,eM];omega))) rfl))) rfl a4) rfl rfl)
end
section
variable {H E y B w:Str} {v:List D}
abbrev my (s:Nat):D:= .ak [jV (Cs s),.int 1]
def Ct (H E y B:Str) (r:Nat):D->D
 | .int k=>wd H E y B (9+k.toNat) r
 |d=>d
def KD {m:Int} {O b:D} {c:Slot} {R r:Nat} (h:R<=2) (i:r+R=27):IX (IW (ez H E y B w) m O (R:Int) b c .un .un .un)= .ok (.ai ((Qd 0 ((R:Int)+1).toNat).map (Ct H E y B r))):=by
 unfold IX;refine kP (cs:=[.ah (ez H E y B w),.ah (.int (R:Int))]) (Ct H E y B r) (λd=> ∃k:Int,d= .int k/\0<=k/\k<=2) rfl (W5 (j:=(R:Int)+1) (jg rfl rfl) (by omega)) (λd e=>?_) (by rw [wP];exact jz (by omega)) ?_
 . obtain ⟨k,rfl,a,b⟩:=Ze e;exact ⟨k,rfl,a,by omega⟩
 . rintro d g ⟨k,rfl,a,b⟩;refine jo (ds:=[ez H E y B w,.int (10+k),.int (28-(R:Int))]) rfl rfl ?_;exact UG (9+k.toNat) r (by omega) (by omega) (by omega) (by omega)
def jkt {s r:Nat} (a:s<=30) (c:r<=30):tk (gT H E y B w) (wd H E y B s r)=true/\ba (wd H E y B s r)<=60:=⟨uT s r,by have:=(Jm (n0:=H) (n1:=E) (n2:=y) (n3:=B) (s:=s) (r:=r) (by omega) (by omega)).1;omega⟩
def IY {s r:Nat} (c:s<=30) (d:r<=30) (e:964+s+r<=1000):jY [wd H E y B s r]= .ok (wd H E y B s r):=by
 obtain ⟨a,b⟩:=Jm (n0:=H) (n1:=E) (n2:=y) (n3:=B) (s:=s) (r:=r) (by omega) (by omega);rw [WQ (wZ (ns:=gT H E y B H) _ (uT s r)),if_neg];unfold bw;rw [decide_eq_true_eq,b];omega
def IZ {s r:Nat}:jh [bq (gv H E) v,wd H E y B (s+1) r,Ec]= .exc "NoStep" :=
 UF (k:=1) (pr:=(zr E,.ak [.str H,zr E])) rfl (by
  rw [Qu (wZ (ns:=gT H E y B H) _ (uT (s+1) r)) (λx a=>by
   simp only [bA,ei,or_false] at a
   rcases a with rfl|rfl<;>rfl)];rfl)
def I0 {s r:Nat} (a:s<=30) (c:r<=30) (h:965+s+r<=1000):jh [bq (gv H E) v,wd H E y B s r,my s]= .ok (wd H E y B (s+1) r):=(O6 a c).trans (if_neg (by omega))
def Je {s r:Nat} (a:s<=30) (c:r<=30) (h:1000<965+s+r):jh [bq (gv H E) v,wd H E y B s r,my s]= .exc "TooGreat" :=(O6 a c).trans (if_pos h)
def jhH (e: ∀z∈gT H E y B w,isNm (.str z)=true) (m:Int):zR [ez H E y B w,.int m]= .ok (.bl true):=by
 obtain ⟨v,d⟩:=Oa (ns:=gT H E y B w) rfl e (ps:=gv H E) qs (by simp [gv]);have g:m%3=0\/m%3=1\/m%3=2:=by omega
 have ok: ∀(s r:Nat),s<=30->r<=30->tk (gT H E y B w) (wd H E y B s r)=true/\ba (wd H E y B s r)<=60:=λs r a b=>jkt a b
 rcases g with h|h|h
 . refine Kp (ns:=gT H E y B w) (b:=wd H E y B 9 27) (l:=wd H E y B 8 27) (rows:=[my 9]) (A:=[]) (us:=[]) (x:=my 9) d h (UG 9 27 rfl rfl (by omega) (by omega)) rfl (KD (R:=0) (r:=27) (by omega) (by omega)) rfl rfl rfl .nil (by simp) (IY (by omega) (by omega) (by omega)) (Je (by omega) (by omega) (by omega)) (IT (s:=8) (by omega) (by omega) (by omega)) (UG 8 27 rfl rfl (by omega) (by omega)) (YN (by omega) (by omega) (by omega) (by omega)) IZ λt c=>?_
   simp only [bA,ei,or_false] at c;rcases c with rfl|rfl<;>exact ok _ _ (by omega) (by omega)
 . refine Kp (ns:=gT H E y B w) (b:=wd H E y B 9 26) (l:=wd H E y B 9 26) (rows:=[my 9,my 10]) (A:=[my 9]) (us:=[wd H E y B 10 26]) (x:=my 10) d h (UG 9 26 rfl rfl (by omega) (by omega)) rfl (KD (R:=1) (r:=26) (by omega) (by omega)) rfl rfl rfl (.cons (I0 (by omega) (by omega) (by omega)) .nil) (by simp) (IY (by omega) (by omega) (by omega)) (Je (by omega) (by omega) (by omega)) (IT (s:=9) (by omega) (by omega) (by omega)) (UG 9 26 rfl rfl (by omega) (by omega)) (YN (by omega) (by omega) (by omega) (by omega)) IZ λt c=>?_
   simp only [bA,ei,or_false] at c;rcases c with rfl|rfl|rfl<;>exact ok _ _ (by omega) (by omega)
 . refine Kp (ns:=gT H E y B w) (b:=wd H E y B 9 25) (l:=wd H E y B 10 25) (rows:=[my 9,my 10,my 11]) (A:=[my 9,my 10]) (us:=[wd H E y B 10 25,wd H E y B 11 25]) (x:=my 11) d h (UG 9 25 rfl rfl (by omega) (by omega)) rfl (KD (R:=2) (r:=25) (by omega) (by omega)) rfl rfl rfl (.cons (I0 (by omega) (by omega) (by omega)) (.cons (I0 (by omega) (by omega) (by omega)) .nil)) (by simp) (IY (by omega) (by omega) (by omega)) (Je (by omega) (by omega) (by omega)) (IT (s:=10) (by omega) (by omega) (by omega)) (UG 10 25 rfl rfl (by omega) (by omega)) (YN (by omega) (by omega) (by omega) (by omega)) IZ λt c=>?_
   simp only [bA,ei,or_false] at c;rcases c with rfl|rfl|rfl|rfl<;>exact ok _ _ (by omega) (by omega)
end
section
variable {ns:List Str}
def Wk.take {O t:D} {d c:List D} (h:Wk O t d c): ∀k,k<=d.length->Wk O t (d.take k) (c.take k)/\(t::c)[k]?=some (i5 t (c.take k)):=by
 induction h with
 |nil=>
  intro k hk;have:k=0:=by simpa using hk
  subst this;exact ⟨.nil,rfl⟩
 | @cons t u r d c h1 h2 e=>
  intro k hk
  cases k with
  |zero=>exact ⟨.nil,rfl⟩
  |succ k=>
   obtain ⟨a,b⟩:=e k (by simpa using hk);refine ⟨.cons h1 a,?_⟩;rw [o6,b];simp [i5]
def jgS {g:List (D×D)} {e:List D} (h: ∀r∈e,OL g r):Se (.ai e):=by
 obtain ⟨a,b⟩:=QE (k:=2) e λr i=>by
  obtain ⟨p,k,rfl,_⟩:=h r i;obtain ⟨c,d⟩:=KK p;have e1:D.cy (jV p)=true:=d;have e2:D.dX (jV p)=1:=by show D.cW _+1=1;rw [c]
  refine ⟨by show D.b7 [jV p,.int (k:Int)]=true;simp [D.b7,e1,L6],?_⟩;show D.cW [jV p,.int (k:Int)]+1<=2;simp [D.cW,e2,D.dX]
 exact ⟨a,by show D.cW e+1<=190;omega⟩
def Pc {f:T1} {env:Sl} {a b:Nat} {x y:D} (h:f env= .ok (.ai [x,y])):cw f (tN (gN a) (gN b)) env= .ok (.nx ((env.set a (.ah x)).set b (.ah y))):=by
 show (f env>>=_)=_;rw [h];rfl
def uQ:Sl->al aT:=(aq (jw 7 (jj 2 wl (jb (ag 6) (jb (ap (ag 5) (cI 1) aK) ae)))) (aq (jw 8 (ap (ap (ag 3) (ap (ag 7) (app (jb (ag 3) ae) bo) a7) aX) (cI 0) aX)) (aq (jw 9 (aS (jb (ap (ap (ag 7) (cI 8) cA) (cI 1000) a7) (jb (ap (ap (ap (ag 7) (cI 8) cA) (cI 500) aK) (cI 1000) a7) ae)))) (aq (jw 10 (aD (jb (ap (ag 2) (ap (ap (ag 7) (cI 8000) cA) (cI 5) a7) aX) (jb (jj 4 (jW 6) (jb (jj 2 jB (jb (ag 7) (jb (cI 1) ae))) (jb (ag 2) (jb (cI 2) (jb (ag 9) ae))))) (jb (ag 8) ae))))) (aq (cw (jj 3 yB (jb (ag 4) (jb (ag 10) (jb (jj 2 jB (jb (ag 7) (jb (cI 2) ae))) ae)))) (tN (gN 14) (gN 15))) (aq (jw 11 (app (jb (ag 14) ae) VL)) (aq (cw (jj 3 jE (jb (ag 4) (jb (ag 10) (jb (ag 11) ae)))) (tN (gN 16) (gN 17))) (aq (bW (g8 (aW (ap (ag 17) (aS ae) dA)) (g8 (bx (aW (bv "list" (ag 16)))) (g8 (aW (ap (ag 16) (ag 15) dA)) (aW (ap (ag 11) (ag 14) dA))))) (aJ (cB false)) bF) (aq (jw 12 (ap (ap (ag 7) (cI 40000) cA) (ap (app (jb (ag 14) ae) bo) (cI 1) aK) a7)) (aq (jw 13 (ap (ap (qv (ag 14) zZ (zU (ag 12)) e9) (aS (jb (jj 3 yC (jb (jj 2 jB (jb (ag 7) (jb (cI 4) ae))) (jb (ag 4) (jb (ap (ag 15) (ag 12) aX) ae)))) ae)) aK) (qv (ag 14) (zU (ap (ag 12) (cI 1) aK)) zZ e9) aK)) (aq (bW (aW (ap (ap (jj 3 jE (jb (ag 4) (jb (ag 10) (jb (ag 13) ae)))) (cI 1) aX) (aS (jb (cB true) (jb (cB false) (jb (cB false) ae)))) dA)) (aJ (cB false)) bF) (bW (aW (ap (ap (jj 3 jE (jb (ag 4) (jb (ag 10) (jb (ag 14) ae)))) (cI 0) aX) (ag 15) dA)) (aJ (cB false)) bF))))))))))))
abbrev Pd (S:D) (lead:Int) (p:D) (o:List (D×D)) (q:List D) (j i:D) (r u v a c d e g h l n:Slot):Sl:=[.ah S,.ah (.int lead),.ah p,.ah (.ai (o.map rl)),.ah (bq o q),.ah j,.ah i,r,u,v,a,c,d,e,g,h,l,n]
def jeJ {S H:D} {lead:Int} {e:List (D×D)} {hs:List D} (hn:Ch ns H) (R:rO ns e) (h0:0<e.length) (j:Nat) (hj:j<=63) (i:Int) (s7 s8 s9 N O Q U Y s15 s16 s17:Slot): ∃u7 u8 u9 u10 u11 u12 u13 u14 u15 u16 u17,uQ (Pd S lead H e hs (.int (j:Int)) (.int i) s7 s8 s9 N O Q U Y s15 s16 s17)= .ok (.nx (Pd S lead H e hs (.int (j:Int)) (.int i) u7 u8 u9 u10 u11 u12 u13 u14 u15 u16 u17)):=by
 obtain ⟨n,en,bn⟩:=Wp i ((j:Int)+1) (by omega);obtain ⟨m1,e1,b1⟩:=zf n 1 bn (by omega);obtain ⟨m2,e2,b2⟩:=zf n 2 bn (by omega);obtain ⟨m4,e4,b4⟩:=zf n 4 bn (by omega);have hlp:=R.2.1;have k0:=nL n (b:=(e.length:Int)) (by omega);have k1:=rK n (b:=(e.length:Int)) (by omega);have hkn:(n%(e.length:Int)).toNat<e.length:=by omega
 obtain ⟨p,hp⟩: ∃p,e[(n%(e.length:Int)).toNat]?=some p:=⟨_,cU hkn⟩
 have ru:=R.1 p (lu hp)
 have hpx:aX (.ai (e.map rl)) (.int (n%(e.length:Int)))= .ok (rl p):=by
  have:=p8 (l:=e.map rl) (k:=(n%(e.length:Int)).toNat) (x:=rl p) (by rw [gY,hp];rfl);rw [show (((n%(e.length:Int)).toNat:Nat):Int)=n%(e.length:Int) by omega] at this;exact this
 have hp0:aX (rl p) (.int 0)= .ok p.1:=om;obtain ⟨a,ha⟩: ∃a,a=n/8%1000:=⟨_,rfl⟩
 obtain ⟨b,hb⟩: ∃b,b=(n/8+500)%1000:=⟨_,rfl⟩
 obtain ⟨z,hz,hzn⟩:=Iy hn (n/8000%5) (by omega) (by omega);obtain ⟨t0,et,gt⟩:=JX (fs:=[a,b]) hn (by simp) 6 2 m1 (by omega) b1;have et':jW 6 [.int m1,H,.int 2,.ai [.int a,.int b]]= .ok t0:=et;obtain ⟨T,I⟩: ∃T,T=D.ak [.str z,t0,p.1]:=⟨_,rfl⟩
 have g1:=gt.hg;have g2:=gt.nm;simp only [oK] at g2;have g3:=ru.hl;have g4:=ru.nl
 have tT:tk ns T=true:=by
  rw [I];refine ZH hzn (by simp) λt J=>?_
  simp only [bA,ei,or_false] at J;rcases J with rfl|rfl
  . exact gt.tk
  . exact ru.tl
 have hh:ba T<=6:=by rw [I,qh];simp only [bj];omega
 have hnT:num T<=60:=by rw [I,qr];simp only [nums];omega
 obtain ⟨h,o,u,rw⟩:=IK (hs:=hs) R tT hh hnT b2;have l7:=rw.ln;have lw:=rw.wk.len
 have bd:jY [T]= .ok T:=by
  rw [WQ (wZ T tT),if_neg];unfold bw;rw [decide_eq_true_eq];omega
 have a1:jE [bq e hs,T,.ai h]= .ok (.ai [.ai (T::o),.ai []]):=IH (WR rw.wk bd (by omega))
 have ot: ∀t∈T::o,tk ns t=true/\ba t<=60:=λt J=>by
  obtain ⟨q,L⟩:=List.getElem?_of_mem J;have h1:=rw.ot q t L;have h2:=(ic.mp L).1;simp only [bN] at h2;exact ⟨h1.1,by have:=h1.2.1;omega⟩
 have v:Se (.ai (T::o)):=by
  obtain ⟨c,d⟩:=Pa ot;exact ⟨c,by omega⟩
 have seR:=jgS rw.or;obtain ⟨B,E⟩: ∃q:Int,q=n/40000%((h.length:Int)+1):=⟨_,rfl⟩
 have c0:=nL (n/40000) (b:=(h.length:Int)+1) (by omega);have c1:=rK (n/40000) (b:=(h.length:Int)+1) (by omega);rw [<-E] at c0 c1;obtain ⟨q,L⟩: ∃q:Nat,B=(q:Int):=⟨B.toNat,by omega⟩
 subst L;obtain ⟨wk2,r⟩:=rw.wk.take q (by omega);obtain ⟨w,hw⟩: ∃w,w=i5 T (o.take q):=⟨_,rfl⟩
 rw [<-hw] at r;have ow:=rw.ot q w r;have ow2:=ow.2.1;obtain ⟨x,ex,hx⟩:=IP (hs:=hs) R ow.1 (by omega) ow.2.2 h0 b4.1
 have a2:jE [bq e hs,T,.ai ((h.take q++[x])++h.drop (q+1))]= .ok (.ai [.aU,.ai [.bl true,.bl false,.bl false]]):=by
  refine kX (g:=false) ?_;rw [i9];exact ZG wk2 (by rw [<-hw];exact hx hs) (by rw [sg];omega)
 have hxw:aX (.ai (T::o)) (.int (q:Int))= .ok w:=p8 r;refine ⟨.ah (.int n),.ah p.1,.ah (.ai [.int a,.int b]),.ah T,.ah (.ai h),.ah (.int (q:Int)),.ah (.ai ((h.take q++[x])++h.drop (q+1))),.ah (.ai h),.ah (.ai (T::o)),.ah (.ai (T::o)),.ah (.ai []),?_⟩;unfold uQ;refine .trans (jl (jD (jo (ds:=[.int i,.int ((j:Int)+1)]) rfl rfl en))) ?_;refine .trans (jl (jD (jk (jk rfl (jk (x:= .int n) (y:= .int (e.length:Int)) rfl (congrArg (λk:Nat=>al.ok (D.int (k:Int))) (dQ rl)) (yn (by omega))) hpx) rfl hp0))) ?_;refine .trans (jl (jD (d:= .ai [.int a,.int b]) (by subst ha hb;decreasing_with exact rfl))) ?_;refine .trans (jl (jD (d:=T) (by subst I;decreasing_with exact rfl))) ?_;refine .trans (jl (Pc (jo (ds:=[bq e hs,T,.int m2]) (jg rfl (jg rfl (jg (jo (ds:=[.int n,.int 2]) rfl rfl e2) rfl))) rfl u))) ?_;refine .trans (jl (jD (d:= .ai h) rfl)) ?_;refine .trans (jl (Pc (jo (ds:=[bq e hs,T,.ai h]) rfl rfl a1))) ?_;refine .trans (jl (mi (Wz (b:=false) (b2:=false) (jG (jk (x:= .ai []) (y:= .ai []) rfl rfl rfl)) (Wz (b:=false) (b2:=false) (qQ (b:=true) (jG (VP rfl rfl))) (Wz (b:=false) (b2:=false) (jG (jk (x:= .ai (T::o)) (y:= .ai (T::o)) rfl rfl v.ne)) (jG (jk (x:= .ai h) (y:= .ai h) rfl rfl seR.ne))))))) ?_;refine .trans (jl (jD (jk (x:= .int (n/40000)) (y:= .int ((h.length:Int)+1)) (by decreasing_with exact rfl) rfl ((yn (by omega)).trans (by rw [<-E]))))) ?_;refine .trans (jl (jD (jk (jk (x:= .ai (h.take q)) (y:= .ai [x]) (qP (x:= .ai h) rfl rfl rfl (congrArg (λl=>al.ok (D.ai l)) (Oo h q))) (VJ (ds:=[x]) (jg (jo (ds:=[.int m4,bq e hs,w]) (jg (jo (ds:=[.int n,.int 4]) rfl rfl e4) (jg rfl (jg (jk rfl rfl hxw) rfl))) rfl ex) rfl) (jz (by simp))) (mj (by rw [sg];simp only [bN,eM];omega))) (qP (x:= .ai h) rfl rfl rfl (congrArg (λl=>al.ok (D.ai l)) (uG h (q+1)))) (mj (by rw [dr,sg,CL];simp only [bN,eM];omega))))) ?_;refine .trans (jl (mi (jG (jk (jk (jo (ds:=[bq e hs,T,.ai ((h.take q++[x])++h.drop (q+1))]) rfl rfl a2) rfl rfl) rfl rfl)))) ?_;exact mi (jG (jk (jk (jo (ds:=[bq e hs,T,.ai h]) rfl rfl a1) rfl rfl) rfl v.ne))
end
abbrev Jf (S:D) (lead:Int) (c:D) (a b:Slot):Sl:=[.ah S,.ah (.int lead),.ah c,a,b,.un,.un,.un,.un,.un,.un,.un,.un,.un,.un,.un,.un,.un]
theorem Vr: ∀(ds:List D) (k:Nat) (d:D),d∈jJ k ds-> ∃(j:Nat) (x:D),d= .ak [.int (j:Int),x]/\j<k+ds.length/\x∈ds
 | [],k,d,h=>by simp [jJ] at h
 |y::r,k,d,h=>by
  simp only [jJ,bA] at h;rcases h with rfl|h
  . exact ⟨k,y,rfl,by simp,by simp⟩
  . obtain ⟨j,x,a,e,c⟩:=Vr r (k+1) d h;exact ⟨j,x,a,by simp only [bN];omega,gc _ c⟩
def oN (a:List Int) (hlen:a.length<=63) (hb: ∀i∈a,sT i<=2^20):oB [.eN (a.map D.int)]= .ok (.bl true):=by
 have Pe: ∀k,k<=1000->k<=aP:=λk h=>jz (by omega)
 obtain ⟨c0,hc0⟩: ∃c:Int,aX (.ai (a.map D.int++[.int 0])) (.int 0)= .ok (.int c):=by
  cases a with
  |nil=>exact ⟨0,tX _ _⟩
  |cons c r=>exact ⟨c,tX _ _⟩
 have Jk:pY (.eN (a.map D.int)) (.ai [.int 0])= .ok (.ai (a.map D.int++[.int 0])):=jn (by simp only [dQ,bN,eM];exact Pe _ (by omega));obtain ⟨lead,U,hl0⟩:=Wp c0 0 (by omega);obtain ⟨g,n,o,u,v,Iw,hN,_⟩:=km lead;have hn:Ch (gT g n o u v) (ez g n o u v):=⟨rfl,rfl,hN⟩
 have hgr:zR [ez g n o u v,.int (lead/100000000000000000000000)]= .ok (.bl true):=jhH hN _;have JF:GW (.eN (a.map D.int)) none (some 10)= .ok (.ai (cutD (a.map D.int) none (some 10))):=rfl;generalize hS:D.eN (a.map D.int)=S at*;have hcn:ap (cI 1) (ap (ap (ag 1) (ap (cI 10) (cI 20) bS) cA) (cI 4) a7) aK (Jf S lead (ez g n o u v) .un .un)= .ok (.int (1+lead/100000000000000000000%4)):=by decreasing_with exact rfl
 obtain ⟨ts,t7,hl,hR⟩:=NX (js:=[2,1]) (fi:=eG (jb (ap (cI 1) (ap (ap (ag 1) (ap (cI 10) (cI 20) bS) cA) (cI 4) a7) aK) ae)) (fe:=jj 2 wM (jb (jj 2 jB (jb (ag 2) (jb (ag 0) ae))) (jb (ag 1) ae)))
  (env:=(Jf S lead (ez g n o u v) .un .un)) (ds:=Qd 0 (1+lead/100000000000000000000%4).toNat) (cs:=[.ah (ez g n o u v),.ah (.int lead)])
  (λd=> ∃p,d=rl p/\Ru (gT g n o u v) p.1 p.2/\D9 p.2) (λd=> ∃k:Int,d= .int k/\0<=k/\k<10) rfl (W5 (jg hcn rfl) (by omega)) (λd hd=>by
   obtain ⟨k,rfl,k0,k1⟩:=Ze hd
   exact ⟨k,rfl,k0,by omega⟩) (by rw [wP];exact Pe _ (by omega)) (by
   rintro d acc ⟨k,rfl,k0,k1⟩;obtain ⟨m4,OG,hb4⟩:=zf lead k hl0 (by omega);obtain ⟨l,r,hr,ru,sm⟩:=jaf hn m4 hb4
   exact ⟨_,jo (ds:=[.int m4,ez g n o u v]) (jg (jo (ds:=[.int lead,.int k]) rfl rfl OG) rfl) rfl hr,(l,r),rfl,ru,sm⟩)
 rw [wP] at hl
 obtain ⟨w,rfl,B⟩: ∃w:List (D×D),ts=w.map rl/\ ∀p∈w,Ru (gT g n o u v) p.1 p.2/\D9 p.2:=by
  clear hl t7
  induction ts with
  |nil=>exact ⟨[],rfl,λp Y=>by cases Y⟩
  |cons t r ih=>
   obtain ⟨p,rfl,Y⟩:=hR t (by simp);obtain ⟨w,rfl,B⟩:=ih λx hx=>hR x (by simp [hx])
   refine ⟨p::w,rfl,λq hq=>?_⟩;rcases bA.mp hq with e|e
   . rw [e];exact Y
   . exact B q e
 rw [dQ] at hl;have R:rO (gT g n o u v) w:=⟨λp Y=>(B p Y).1,by omega,λp Y=>(B p Y).2⟩
 obtain ⟨hs,hmk⟩:=Oa hn.2.1 hn.2.2 R.1 (by omega);have JG: ∀x∈cutD (a.map D.int) none (some 10),x∈a.map D.int:=λx hx=>List.mem_of_mem_drop (List.mem_of_mem_take hx)
 have Nv:(cutD (a.map D.int) none (some 10)).length<=63:=by
  unfold cutD;rw [sg,CL,dQ];omega
 generalize JW:cutD (a.map D.int) none (some 10)=z at*
 obtain ⟨iH,l1,v5,v6,v7,v8,v9,E,H,I,J,L,N,O,Q,rfl,_⟩:=Ku (body:=wx (g2 (gN 5) (gN 6)) uQ)
  (λds env=> ∃(v5 v6 v7 v8 v9 E H I J L N O Q:Slot),env=[.ah S,.ah (.int lead),.ah (ez g n o u v),.ah (.ai (w.map rl)),.ah (bq w hs),v5,v6,v7,v8,v9,E,H,I,J,L,N,O,Q]/\ ∀d∈ds,∃(j:Nat) (i:Int),d= .ak [.int (j:Int),.int i]/\j<=63)
  (by
   rintro d ds env ⟨v5,v6,v7,v8,v9,E,H,I,J,L,N,O,Q,rfl,hd⟩;obtain ⟨j,i,rfl,hj⟩:=hd d (by simp);obtain ⟨w7,w8,w9,w10,w11,w12,w13,w14,w15,w16,w17,h3⟩:=jeJ (S:=S) (lead:=lead) hn R (by omega) (hs:=hs) j hj i v7 v8 v9 E H I J L N O Q
   refine ⟨_,NE rfl h3,_,_,_,_,_,_,_,_,_,_,_,_,_,rfl,λx hx=>hd x (by simp [hx])⟩)
  (jJ 0 z) (Jf S lead (ez g n o u v) (.ah (.ai (w.map rl))) (.ah (bq w hs)))
  ⟨.un,.un,.un,.un,.un,.un,.un,.un,.un,.un,.un,.un,.un,rfl,λd hd=>by
   obtain ⟨j,x,rfl,hj,hx⟩:=Vr z 0 d hd;obtain ⟨i,_,rfl⟩:=hG.mp (JG x hx)
   exact ⟨j,i,rfl,by omega⟩⟩
 refine zy ?_;show DH wl ye j8 zR wM yB jE jB (jW 6) yC [.ah S,.un,.un,.un,.un,.un,.un,.un,.un,.un,.un,.un,.un,.un,.un,.un,.un,.un]=_;unfold DH;refine .trans (jl (jD (jo (ds:=[.int c0,.int 0]) (jg (jk (jk (x:=S) (y:= .ai [.int 0]) rfl rfl Jk) rfl hc0) rfl) rfl U))) ?_;refine .trans (jl (jD (jo (ds:=[.int lead]) rfl rfl Iw))) ?_;refine .trans (jl (jD t7)) ?_;refine .trans (jl (jD (ku (ds:=[.ai (w.map rl)]) rfl rfl hmk))) ?_;refine .trans (jl (G9 (by decreasing_with exact rfl) l1)) ?_;exact qA (jo (ds:=[ez g n o u v,.int (lead/100000000000000000000000)]) (jg rfl (jg (by decreasing_with exact rfl) rfl)) rfl hgr)
end G
structure PySem.W.Fast:Prop where
 (tw14118762014645395458 te6140422165292303554 tw17501850437838901985 tw729694867980754897 tw15070210010106430311 tw7352720720582053409 tw4833680030029975418 tw12323734268578818031 tw16435418805550996553 tw5992254873317916612 tw10743790054177566997 tw4884963590930322845 tw1079725627362343561 tw18215468316283861984 tw10397765712024076997 tw2814201178185204422 tw14678817756411157965 tw9524282873019989346 tw9415430124314690994 tw8566390612043777506 tw9056433639149669943 tw4145939726723394116 tw12156249958741457011 tw12535894300064237312 tw11436883358121847124 tw2316209033729942092 tw1337808958556030066 tw13756411324512297098 tw16363437470771847010 tw138489039072965512 tw12880278060230719137 tw8324410582951332210 tw1123404553104357655 tw14653904440428334629 tw13525416096819589319 tw14368049795764042150 tw13819239167978896784 tw6826079254687534486 tw13771545204083758700 tw13589443981053318931 tw17583674644750756699 tw6408154051478484203 tw15908606883049149220 tw14087488219490629625 tw12782274766132769841 tw12735143806044654946 tw2623910027245793170 tw2880243388321862379 tw15116508893141545172 tw14448791214976993046 tw14080931637221753414 tw9318450989408414824 tw8168979808742143976 tw10033035631488465122 te8826598010212033250 te12069480914416459141 te10502228271568042310 te18333206242897646415 te8533572448466814933 te9781430366018571011 te7277098662336912769 te12394931517756652370 te11489118446362539074 te2109199198582359166 te14818794475065490261 te7717749395360415389 te1864785831297290046 te18035434325779050711 te5953287386656344718 te5390597977018565996 te14897010367994575665 te6930397653733797292 te1836103635037526962 te3038463941220517946 te14313602829788990084 te6185504826824726778 te16470469684899784379 te8636391669710904696 te16716799636289280214 te4239319875719585793 te6877593883399541097 te12480936051322391286 te7873377605200628053 te8567455429860040958 te2528373051243457925 te13890292967497456575 te14774434672352407955 te16618642537466818933 te11845551815766619948 te6057314362534724951 te5884005839450168208 te6159714306586148251 te11130052535749147758 te3789830828787147392 te15886933121799599541 te14028336783671188981 te4152120725721721747 te6011367310524185980 te6924491235345359143 te11543852553243459880 te6731522499048177473 te7310854437735913415 te14657920968816410711 te17982608644187223269 te10294313015285330703 te3474899229389650392 te6676365396683179616 te1398682746430681191 te13845239810949363116 te16310314144414814111 te18385977824588404183 te16595468862032583684 te4280278940277778486 te10211422682111394850 te10881188318845218338 te6198682809416866039 te17829968619203822066 te10339008017893855114 te15922991395185693485 te6711843207962432963 te6647195706070868198 te1879826171195242569 te14108106646542074699 te5832233999466333829 te6809768279852823482 te2700516389408678235 te11387381873059234769 te2601445090999533027 te1778602500730046199 te14714996286672973655 te12600590832116545505 te589717574972311161 te15318152025620227146 te8703237132826739070 te17981116909663669751 te2367978984842225079 te1199937683635301618 te7643211676603419739 te17776529504284287022 te12897402114877685502 te12109765537171812936 te11202275290775036996 te3675140266027352473 te7371248117507205023 te17184000633235332065 te11714605791950214639 te16927295501921488154 te9512746011088618074 te938499810698376585 te2429189749316849296 te6115809706996378861 te1161888046660688023 te11970736249967345852 te13497287052813330710 te1890463494800166582 te9159816636473788157 te11017871713863646512 te4824454237987703715 te4983412994565255927 te6377589690087680310 te3586062913501973621 te3383437449713820719 te5790508844163785395 te7868081329816989093 te2877405794504074758 te2241926480283917670 te1109202430384349404 te7341989360235900788 te8647401922452214767 te3689940394465388669 te10466928988166664049 te10764223661264211441 te13272754400280187184 te5621062030327403643 te6824528263259626366 te1309872343905635372 te5623429389379109063 te4128379739214873602 te1054559366906382054 te17604189998978231656 te1372678096189690722 te275157490821061972 te3946165851493434091 te11989056109272820212 te9549303193467553639 te109810574812864811 te17325719168500766558 te8450409191731719952 te7731722311154195087 te3505489346722481239 te6024655083623668951 te7168313171632778076 te17418187744221217668 te14685083053703800261 te8367402400585512446 te16554920530957641985 te1229334580977007534 te12445291771004252477 te14125708034028265655 te339927334981548487 te5072136935956374942 te13673128766713932270 te5042903793017949099 te17580572785829333264 te4864953676236863058 te343545083591117068 te14505051086081832704 te14389618312162803679 te13664740409401765908 te15134769498980300022 te16633224179393272716 te14126471438267809673 te8817111704104197567 te14306932895608278323 te6001607667521295698 te10534597489557042052:True)
open PySem PySem.W PyProof.Rows
set_option maxRecDepth 100000 in
set_option maxHeartbeats 0 in
theorem PySem.Challenge.cw_endwise_k23_rows_walked_holds : PySem.Challenge.rw_endwise_k23_rows_walked.Holds := by
  w_on; o_law; k_head; (case hw => w_witness2)
  k_fill
  refine M.og (l := PySem.Challenge.rw_endwise_k23_rows_walked) (n := 63) (k := 72) (x := "_law_script") (F := G.oB) rfl (by decide) rfl ⟨rfl, by decide, by decide⟩ (fun w h Y => PySem.W.kIn_of Y) ?F G.oN
  case F =>
    intro w mg fa h KX Gn hmg
    refine' G.all_mk KX Gn hmg ?d0 ?d1 ?d2 ?d3 ?d4 ?d5 ?d6 ?d7 ?d8 ?d9 ?Hx ?Hy ?Hz ?HA ?HB ?HC ?HD ?HE ?HF ?HG ?DR ?HH ?DU ?DV ?HI ?HJ ?HK ?HL ?HM ?HN ?HP ?HQ ?DX ?HR ?DY ?HS ?HU ?HV ?DZ ?HW ?D0 ?HX ?HY ?D1 ?HZ ?Ia ?Ib ?Ie ?Ig ?Ih ?Ii ?Ij ?z0 ?z1 ?z2 ?z3 ?z4 ?z5 ?z6 ?z7 ?z8 ?z9 ?Ik ?Il ?Im ?Io ?Ip ?fV ?gL ?hZ ?iW ?ia ?iX ?iY ?J8 ?Q3 ?Zi ?Q2 ?QV ?xI ?yg ?Kh ?Kk ?ml ?oO ?oP ?oQ ?nq ?eX ?cC ?dh ?fB ?cE ?di ?ci ?eL ?fE ?fF ?fG ?eZ ?b9 ?dj ?cF ?oR ?oS ?oU ?nu ?wv ?xB ?xA ?xz ?wW ?zG ?wt ?wr ?wq ?zW ?wu ?xy ?xx ?xw ?wV
    (case J8 => k_is)
    (case d0 | d1 | d2 | d3 | d4 | d5 | d6 | d7 | d8 | d9 | Hx | Hy | Hz | HA | HB | HC => exact ⟨_, by k_is, ⟨_, _, _, _, _, _, _, _, _, by k_is, by k_is⟩, by k_is⟩)
    (case HD => exact ⟨_, by k_is, by k_is, ⟨_, _, _, _, _, _, _, _, _, by k_is, by k_is⟩, by k_is⟩)
    (case HE | HF | HG | DR | HH | DU | DV | HI => exact ⟨_, by k_is, ⟨_, _, _, _, _, _, _, _, _, by k_is, by k_is⟩, by k_is⟩)
    (case HJ => exact ⟨_, by k_is, by k_is, ⟨_, _, _, _, _, _, _, _, _, by k_is, by k_is⟩, by k_is⟩)
    (case HK | HL | HM => exact ⟨_, by k_is, ⟨_, _, _, _, _, _, _, _, _, by k_is, by k_is⟩, by k_is⟩)
    (case HN | HP => exact ⟨_, by k_is, by k_is, ⟨_, _, _, _, _, _, _, _, _, by k_is, by k_is⟩, by k_is⟩)
    (case HQ | DX => exact ⟨_, by k_is, ⟨_, _, _, _, _, _, _, _, _, by k_is, by k_is⟩, by k_is⟩)
    (case HR => exact ⟨_, by k_is, by k_is, ⟨_, _, _, _, _, _, _, _, _, by k_is, by k_is⟩, by k_is⟩)
    (case DY => exact ⟨_, _, _, _, _, _, _, _, _, _, _, _, _, _, _, _, by k_is, by k_is, by k_is, by k_is, by k_is, by k_is⟩)
    (case HS | HU | HV | DZ | HW | D0 | HX | HY | D1 | HZ => exact ⟨_, by k_is, ⟨_, _, _, _, _, _, _, _, _, by k_is, by k_is⟩, by k_is⟩)
    (case Ia => exact ⟨_, by k_is, by k_is, ⟨_, _, _, _, _, _, _, _, _, by k_is, by k_is⟩, by k_is⟩)
    (case Ib | Ie => exact ⟨_, by k_is, ⟨_, _, _, _, _, _, _, _, _, by k_is, by k_is⟩, by k_is⟩)
    (case Ig | Ih | Ii | Ij => k_is)
    (case z0 | z1 | z2 | z3 | z4 | z5 | z6 | z7 | z8 | z9 | Ik | Il | Im | Io | Ip => show _ = _; k_is)
    (case fV | gL | hZ | iW | ia | iX | iY => exact ⟨_, by k_is⟩)
    (case Q3 | Zi | Q2 | QV | xI | yg | Kh | Kk | ml | oO | oP | oQ | nq | eX => k_is)
    (case cC | dh | fB | cE | di => show _ = _; k_exc)
    (case ci | eL | fE | fF | fG | eZ => kernel_rfl)
    (case b9 | dj => decide)
    (case cF | oR | oS | oU | nu => exact ⟨by kernel_rfl, by k_is, by k_is, by k_is, by k_is, by k_is, by k_is, by k_is⟩)
    (case wv | xB | xA | xz | wW | zG | wt | wr | wq | zW | wu | xy | xx | xw | wV => kernel_rfl)

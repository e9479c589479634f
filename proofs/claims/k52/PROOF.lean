import PyProof.Rows.All
import Wide.All
import OpenK.AllK
import Wide.FinOn
import Lean
import PyProof.TupleKey
import PyProof.IsRules
import PyProof.DictKeyH
import PyProof.EqAt
import PyProof.EqKinds
import PyProof.TupleCall
import PyProof.Cells
import PyProof.NeKinds
import KE.IntBitsLaws
import KE.KDictList
import KE.KRevIter
import KE.KSortTup
import KE.KDictSum
import PyProof.EnumMake
import PyProof.EnumFor
import PyProof.LayNew
import PyProof.Rows.EnumRows
import PyProof.SumAny
import PyProof.ListRange
import PyProof.FString5
import PyProof.CollectIter
import PyProof.TupleOfSeq
import PyProof.Rows.Tup
import OpenK.KRaise
import PyProof.StationsW
import KE.KTryMore
import PyProof.NsDelKeeps
import KE.KEqDict
import PyProof.ExcArgs
import PyProof.Draws
import PyProof.ZipIter
import PyProof.Rows.ZipGen
import PyProof.DictWalks
import PyProof.Conv_int_bool
import PyProof.Rows.SeqMore
import PyProof.Rows.SetFrom
import PyProof.SetRoads
import PyProof.MeetsSeq2
import PyProof.FactsAll.NoneType_1
import PyProof.DictFindH
import PyProof.DictRoadsH
import PyProof.AttrMissHeap
import KE.KDictOf
import PyProof.Rows.StrJoin2
import PyProof.FactsAll.object_1
import PyProof.ReprRoads
import PyProof.CallFns
import PyProof.Rows.FactsT3
import PyProof.MeetsDict
import KE.KItemsList
import PySem.Challenge.RW_endwise_k52_calls_paper
open Option renaming some -> ae, none -> ah
open Bool renaming true -> af, false -> ag
open Decidable renaming decide -> aD
open PySem renaming Value -> aJ
open PySem renaming Addr -> ar
open PySem renaming model -> aN
open Array renaming getElem?_toList -> hH, getElem?_eq_getElem -> lH, length_toList -> gW, getD_eq_getD_getElem? -> DR, getElem?_eq_some_iff -> DV, forIn_toList -> EK, mem_toList_iff -> Hi, toArray_toList -> IA, toList_push -> K6
open Bool renaming and_eq_true -> fD, and_eq_true_iff -> og, false_ne_true -> Af, eq_iff_iff -> vk, false_eq_true -> FN, true_and -> Dw, and_false -> E7, or_false -> E5, not_eq_true -> Ly
open Classical renaming byContradiction -> Lx
open False renaming elim -> mT
open ForInStep renaming yield -> Fg
open Function renaming comp_def -> tL
open Int renaming toNat_natCast -> AD, emod_lt_of_pos -> Ba, emod_nonneg -> A9, fdiv_eq_ediv_of_nonneg -> Ha, le_of_lt -> Cr
open List renaming length -> ao, getElem?_eq_getElem -> cW, length_map -> cX, mem_cons -> cM, size_toArray -> eW, getElem?_eq_some_iff -> iZ, mem_append -> fj, mem_map -> dz, map_map -> dF, mem_cons_of_mem -> g9, getElem?_append_right -> mG, getElem?_append_left -> mC, mem_cons_self -> g8, length_cons -> gG, map_cons -> fI, mem_of_getElem? -> lf, getElem?_map -> hU, length_append -> lh, mem_append_right -> mU, mem_singleton -> lQ, getElem?_set_self -> oj, mem_range -> iD, map_append -> lP, mem_append_left -> o8, range -> gH, all_eq_true -> nF, append_assoc -> oD, nodup_append -> oI, getElem?_set_ne -> rE, mem_iff_getElem? -> sI, getElem?_replicate -> Ap, getElem_mem -> rB, nodup_nil -> pD, append_nil -> rH, nodup_cons -> rJ, foldl_cons -> r9, lookup -> nJ, map_congr_left -> AA, drop_eq_getElem_cons -> CS, pairwise_iff_getElem -> Dp, zip_cons_cons -> Az, pairwise_cons -> AE, any_eq_true -> tM, not_mem_nil -> tW, pairwise_map -> AF, drop_eq_nil_of_le -> CW, take_of_length_le -> DN, lookup_cons -> Al, mem_flatMap -> Ax, filter_cons -> A1, getElem?_eq_none -> Cb, mem_filterMap -> Bj, mem_of_mem_take -> DX, mem_of_mem_drop -> DY, length_nil -> wh, find?_cons -> zx, length_range -> BR, all_cons -> tw, getElem?_cons_succ -> FE, length_take -> Bo, ext_getElem? -> Ca, nodup_range -> Do, filterMap_cons -> EO, getElem_of_mem -> F6, getElem?_take_of_lt -> Hw, any_map -> Ay, length_set -> CF, nil_append -> Ey, drop_of_length_le -> Ld, replicate -> Cy, toArray -> BE, take_append_drop -> Lu, length_filter_le -> MA, mem_filter -> EN, contains_cons -> JF, getElem?_drop -> Ls, any_eq_false -> Hh, length_drop -> Hz, all_map -> Fn
open List.Pairwise renaming nil -> Iq
open List.cons renaming injEq -> GF
open Nat renaming le_refl -> bz, lt_of_lt_of_le -> dZ, le_trans -> cn, ne_of_lt -> di, zero_le -> fH, le_add_left -> ma, le_add_right -> qa, ne_of_gt -> oq, lt_succ_self -> tq, lt_irrefl -> rC, le_of_succ_le -> AC, le_succ -> pd, lt_succ_of_lt -> BN, lt_trans -> sB, lt_of_succ_le -> Dr, le_of_not_lt -> CK, add_le_add_left -> EZ, lt_of_le_of_lt -> EY, not_lt_zero -> DU, le_of_lt -> Bf, zero_add -> Dq, lt_of_le_of_ne -> Lq, le_of_lt_succ -> Lm, succ_pos -> FW
open Ne renaming symm -> gM
open Option renaming map_eq_some_iff -> CH, isSome_iff_exists -> Hv, isSome_map -> HI, getD_none -> HC
open Option.some renaming inj -> i3
open PyProof.Rows renaming boot_tuple -> oX, slot_tuple_getitem -> xh, callWith_type1 -> Bi, boot_all -> Go, envOfC -> i5, seqObj -> i7, boot_bool -> Ml, boot_isinstance -> Fl, get?_update_seq -> Fx, AllBare -> rD, boot_int -> Rr, boot_any -> Rs
open PyProof.Rows.F renaming entry_set_update_loop -> PP
open PySem renaming wpAny_bind -> ax, wpAny_pure -> aP, starEach -> bx, sizeLine -> ba, mainGlobals -> ci, wpAny_holding -> gk, Shared -> bT, tupleKeyHash -> gC, wpAny_newObj_type -> nM, boot_len -> mn, wpAny_call_entry -> nK, attributeBase -> lL, compareOp -> gp, wpAny_callSpecial?_slot -> tu, backTo -> fh, wpAny_truthy_bool -> pz, bootBuiltins -> lW, assignEach -> i4, sizeLine_eq -> my, keywordEach -> mB, sysModules -> lJ, foldedSetIterable -> so, Program -> fW, wpAny_dictEpoch -> rS, wpAny_mono -> lU, swapsWith -> kw, mem_of_lookup -> xb, wpAny_dictEntries -> tJ, IsTupleKey -> mL, codeAny_builtin -> sL, wpAny_typeNameOfWhole_itemiter -> Gd, binaryOp -> iG, wpAny_forIn_list -> td, wpAny_field -> ox, wpAny_typeNameOfWhole_keyiter -> Fz, wpAny_pyIter_list -> vH, wpAny_setState_of -> AO, wpAny_rule -> oF, wpAny_Call_Name_kw -> Bn, wpAny_setField_rec -> BY, Keyword -> iy, wpAny_typeNameOf_itemiter -> Ge, wpAny_passesOwn -> vG, wpAny_typeNameOf_keyiter -> FA, backToKw -> mz, wpAny_seqItems -> vr, carriedByValue -> AQ, wpAny_specialOf -> Bb, codeAny_mono -> tt, wpAny_notOrdered_dict -> Fy, plainId_quiet -> AS, ofAClassStatement -> D0, Around -> hJ, codeAny -> lZ, wpAny_fieldsOf -> BG, wpAny_isInstance -> Cc, SetTable -> oO, Builtin -> mF, wpAny_typeOf -> xi, call_meetsIn -> Ab, holding -> mS, wpAny_execs_nil -> Cf, wpAny_updateSeq -> CY, wpAny_attempt -> BF, wpAny_isOneOf_itemiter -> L9, intKind -> nG, sliceBounds -> yo, wpAny_pyIter_enum -> FD, wpAny_setField -> Dt, rawInt -> lK, wpAny_isOneOf_keyiter -> IG, wpAny_askSetting -> FM, codeAny_call_builtin -> IY, behindInMarks -> Cs, strLen_append -> C8, call_meets -> yE, wpAny_loadPart' -> Ff, scanBound -> tP, Paired -> mR, PassesOwn -> vF, wpAny_call -> Bm, standAt -> rF, getItem -> rL, assign -> oo
open PySem.Builtin.Dict renaming showsAll -> IF
open PySem.Builtin.Dict_items renaming ownedTupleFields -> Ri, ownsTuple -> Rh
open PySem.Builtin.Frozenset renaming difference -> Lb, isAnySet -> La, addrOf -> Lc, slot1 -> Pp
open PySem.Builtin.Int renaming intBits -> As
open PySem.Builtin.List renaming listTooLong -> E6, listSameRef -> Rj
open PySem.Builtin.Slice renaming slicePlaces -> Hy, sliceAdjust -> Nt
open PySem.Builtin.SmallTypes renaming nextOf -> O8
open PySem.Builtin.Str renaming strSliceIndices -> rR, occurrences -> Hc
open PySem.Builtin.Tuple renaming tupleItemsOf -> Nu
open PySem.Calls renaming callWith_builtin -> HF, spliced_cons -> Hr, spliced_nil -> Hq
open PySem.F renaming slot_dict_keyiterator_next -> Ds, slot_dict_get -> tv, slot_dict_itemiterator_next -> El, plainAttrs_list -> CZ, entry_dict_get -> CI, plainAttrs_dict -> Ec, slot_tuple_iterator_next -> FH, excBase_ValueError -> Gp, plain_extend_loop -> En, slot_NoneType_hash -> FP, args_dict_keyiterator_next_1 -> OD, entry_dict_keyiterator_next -> OC, slot_list_getattribute -> Le, args_dict_get_2 -> HL, called_set -> BS, type_dict_get -> LM, slot_list_extend -> HG, slot_dict_setdefault -> P2
open PySem.Heap renaming get?_push_of_some -> cc, get?_push_size -> dA, lt_size -> b7, SameBut -> iw, get?_update_other -> sA, get?_update_self -> sy, size_push -> su, get?_push_cases -> IL
open PySem.Heap.SameBut renaming update -> rT
open PySem.Heap.TracedAtW renaming there -> O2
open PySem.MeetsSeq2 renaming wpAny_forIn_array -> Pn
open PySem.NameKind renaming free -> Aj, cell -> Ak
open PySem.Obj renaming mapSeq -> lM, data_mapFields -> FC, putSet -> D1
open PySem.Paired renaming length -> sg
open PySem.PassesOwn renaming never -> gE
open PySem.SeqAt.EqAt renaming of_refs -> EL
open PySem.SeqAt.RcAt renaming lists_lengths -> Ix
open PySem.SetTable renaming below -> ik, turns -> sN, sizeAbove -> DZ, toList_insertAt -> Lr, insertAt_perm -> Lw, grown -> F0
open PySem.SetTable.below renaming go -> FX
open PySem.SetTable.layClean renaming free -> FY
open PySem.SetTable.probe renaming go -> tU
open PySem.Shared renaming TypeIs -> FQ
open PySem.Value renaming ref -> cg, none -> lI, bool -> o7, type -> vu, isInt_shape -> GI
open PySem.W renaming Frag -> bK, nsIn -> cH, kitOne -> gJ, mg_none_of -> mM, keepIn -> lc, findIn -> ix, mg_of -> lR, kia_one -> ot, emptyDict -> tm, excIn -> rW, instObj -> te, fnOf -> rK, makesIn -> wr, plainGet -> Bl, hasDictIn -> Ct, callWith_K -> E2, codeIn -> Bp, plainOver -> EW, exmOne -> DD, plainGet_of -> Hj, lookIn -> EU, looks_findIn -> EX, kitx_list -> Ho, specialIn -> Cv, isFn -> EV, takerIn -> Hk, OpenLaw -> CJ
open PySem.W.Looks renaming ld -> AK
open True renaming intro -> o9
theorem ak{P:Prop}(h:P:=by omega):P:=h
theorem aE{P:Prop}(h:P:=by simp):P:=h
theorem au{P:Prop}(h:P:=by decide):P:=h
theorem cu{P:Prop}(h:P:=by decide+kernel):P:=h
theorem aZ{P:Prop}(h:P:=by simp_all):P:=h
theorem dX{P:Prop}(h:P:=by grind):P:=h
theorem cf{P:Prop}(h:P:=by simp;omega):P:=h
theorem bg{P:Prop}(h:P:=by assumption):P:=h
theorem bF{P:Prop}{Q:P->Prop}(h:∀x,Q x:=by intro z;cases z):∀x,Q x:=h
theorem aa{A:Sort u}{a:A}:a=a:=rfl
noncomputable section
set_option compiler.extract_closed false
set_option tactic.hygienic false
set_option bootstrap.genMatcherCode false
set_option genSizeOfSpec false
def rA{x c:Int}(h:c≠0:=by decide):0<=x%c:=A9 _ h
def B9{x c:Int}(h:0<c:=by decide):x%c<c:=Ba _ h
def bv{c:Type}{P:List c->Prop}(d:P [])(e:∀a l,P l->P (a::l)):∀l,P l:=λl=>l.rec d e
def lT{P:Nat->Prop}(a:P 0)(c:∀n,P n->P (n+1)):∀n,P n:=λn=>n.rec a c
set_option Elab.async false
set_option linter.all false
set_option maxRecDepth 100000
set_option maxHeartbeats 4000000
namespace M
open PySem PyProof.Rows
open PySem.SeqAt (EqAt RcAt)
inductive NK where
 |int (i:Int)|str (x:Str)|ap (l:List NK)
inductive NV where
 |bo|key (k:NK)|bl (b:Bool)
mutual
noncomputable def NK.beq:NK->NK->Bool
 |.int i,.int j=>aD (i=j)
 |.str x,.str y=>aD (x=y)
 |.ap l,.ap m=>NK.vj l m
 |_,_=>ag
noncomputable def NK.vj:List NK->List NK->Bool
 |[],[]=>af
 |a::l,b::m=>NK.beq a b&&NK.vj l m
 |_,_=>ag
end
mutual
theorem NK.beq_iff:∀(a b),NK.beq a b=af↔a=b
 |.int _,.int _|.str _,.str _=>⟨λh=>congrArg _ (of_decide_eq_true h),λh=>by cases h;exact decide_eq_true aa⟩
 |.ap l,.ap m=>⟨λh=>congrArg _ ((NK.gZ l m).mp h),λh=>by cases h;exact(NK.gZ l l).mpr aa⟩
 |.int _,.str _|.int _,.ap _|.str _,.int _|.str _,.ap _|.ap _,.int _|.ap _,.str _=>⟨λh=>(by cases h),λh=>(by cases h)⟩
theorem NK.gZ:∀(l m),NK.vj l m=af↔l=m
 |[],[]=>⟨λx=>rfl,λx=>rfl⟩
 |[],_::_|_::_,[]=>⟨λh=>(by cases h),λh=>(by cases h)⟩
 |a::l,b::m=>by rw[GF,<-NK.beq_iff a b,<-NK.gZ l m];exact og
end
instance M0:DecidableEq NK:=λa b=>decidable_of_iff _ (NK.beq_iff a b)
mutual
def NK.at(h:Heap):NK->aJ->Prop
 |.int i,v=>∃t,v=.int i t
 |.str x,v=>∃t,v=.str x t
 |.ap l,v=>∃a c,v=.ref a/\IsTup h a c/\NK.mQ h l c.toList
def NK.mQ(h:Heap):List NK->List aJ->Prop
 |[],a=>a=[]
 |k::l,a=>∃u c,a=u::c/\NK.at h k u/\NK.mQ h l c
end
mutual
def NK.dj:NK->Nat
 |.ap l=>NK.de l+1
 |_=>0
def NK.de:List NK->Nat
 |[]=>0
 |k::l=>max (NK.dj k) (NK.de l)
end
mutual
def NK.draws:NK->Nat
 |.ap l=>NK.fb l+1
 |_=>1
def NK.fb:List NK->Nat
 |[]=>0
 |k::l=>NK.draws k+NK.fb l
end
mutual
def NK.hash(w:World):NK->Int
 |.int i=>hashInt i
 |.str x=>hashStr w x
 |.ap l=>reduceHash (Builtin.Tuple.tupleHashOf (NK.g7 w l))
def NK.g7(w:World):List NK->List Int
 |[]=>[]
 |k::l=>NK.hash w k::NK.g7 w l
end
def NK.ind{P:NK->Prop}(h1:∀i,P (.int i))(h2:∀x,P (.str x))(h3:∀l,(∀k∈l,P k)->P (.ap l))(k):P k:=
 NK.rec h1 h2 h3 (λy h=>by cases h) (λk l hk hl q a=>by
  rcases cM.mp a with e|e
  .simp_all
  .exact hl q e) k
def cP:NK.at h (.int i) v↔ ∃t,v=.int i t:=by simp only[NK.at]
def cQ:NK.at h (.str x) v↔ ∃t,v=.str x t:=by simp only[NK.at]
def cz:NK.at h (.ap l) v↔ ∃a c,v=.ref a/\IsTup h a c/\NK.mQ h l c.toList:=by simp only[NK.at]
def fA:NK.mQ h [] a↔a=[]:=by simp only[NK.mQ]
def cU:NK.mQ h (k::l) c↔ ∃u a,c=u::a/\NK.at h k u/\NK.mQ h l a:=by simp only[NK.mQ]
def KU:∀{l}{a},NK.mQ h l a->ao a=ao l:=
 @(
  bv (@(λa x=>by rw[fA.mp x];rfl)) λk l c a x=>by
  obtain⟨u,d,rfl,_,y⟩:=cU.mp x
  rw[gG,gG,c y])
theorem KW:∀{l}{a}{j:Nat}{k}{u},NK.mQ h l a->l[j]?=ae k->a[j]?=ae u->NK.at h k u:=
 @(
  bv (@(λa j k u x c d=>by cases c)) λg l e a j k u x c d=>by
  obtain⟨i,m,rfl,n,y⟩:=cU.mp x
  cases j with
  |zero=>simp_all
  |succ j=>exact e y c d)
def vp:∀{l},k∈l->NK.dj k<=NK.de l:=
 @(
  bv bF λc l a h=>by
  simp only[NK.de];rcases cM.mp h with e|e
  .rw[e];omega
  .have:=a e;omega)
def M3(x):∀(y)(v),NK.at h x v->NK.at h y v->x=y:=by
 induction x using NK.ind with
 |h1 i=>
  intro y v g c;obtain⟨t,rfl⟩:=cP.mp g
  cases y with
  |int j=>obtain⟨p,e⟩:=cP.mp c;cases e;rfl
  |str z=>obtain⟨p,e⟩:=cQ.mp c;cases e
  |ap l=>obtain⟨a,d,e,_⟩:=cz.mp c;cases e
 |h2 z=>
  intro y v g c;obtain⟨t,rfl⟩:=cQ.mp g
  cases y with
  |int j=>obtain⟨p,e⟩:=cP.mp c;cases e
  |str z=>obtain⟨p,e⟩:=cQ.mp c;cases e;rfl
  |ap l=>obtain⟨a,d,e,_⟩:=cz.mp c;cases e
 |h3 l J=>
  intro y v g c;obtain⟨a,d,rfl,⟨o,L,_,n,N⟩,E⟩:=cz.mp g
  cases y with
  |int j=>obtain⟨p,e⟩:=cP.mp c;cases e
  |str z=>obtain⟨p,e⟩:=cQ.mp c;cases e
  |ap m=>
   obtain⟨O,H,e,⟨Q,q,_,U,r⟩,I⟩:=cz.mp c;cases e;rw[L]at q;cases q;rw[N]at r;cases r;congr 1;apply Ca;intro j;have e1:=KU E;have e2:=KU I
   by_cases B:j<ao l
   .have u:j<ao m:=by omega
    have w:j<d.toList.length:=by omega
    rw[cW B,cW u];congr 1;exact J _ (rB B) _ _ (KW E (cW B) (cW w)) (KW I (cW u) (cW w))
   .simp_all
def S9:∀{l}{a},(∀k∈l,∀v,NK.at h k v->NK.at c k v)->NK.mQ h l a->NK.mQ c l a:=
 @(
  bv (@(λa z x=>fA.mpr (fA.mp x))) λk l d a f x=>by
  obtain⟨u,g,e,i,y⟩:=cU.mp x
  exact cU.mpr ⟨u,g,e,f k g8 u i,d (λq j=>f q (g9 _ j)) y⟩)
def M4(d:∀a c,IsTup h a c->IsTup g a c)(k):∀v,NK.at h k v->NK.at g k v:=by
 induction k using NK.ind with
 |h1 i=>exactλv x=>cP.mpr (cP.mp x)
 |h2 z=>exactλv x=>cQ.mpr (cQ.mp x)
 |h3 l j=>
  intro v x;obtain⟨a,c,e,t,y⟩:=cz.mp x;exact cz.mpr ⟨a,c,e,d a c t,S9 j y⟩
def Yz{s:bT}(h:IsTup s.heap a c):s.TypeIs (.ref a) "tuple" :=let ⟨o,d,e,_⟩:=h;⟨o,d,e⟩
section
variable{Y:fW}
def Ta(k):∀(A)(E)(s)(v)(Q),NK.at s.heap k v->A.units+k.dj<cLine->Q (k.hash w) {s with toks:=s.toks+k.draws}->wpAny (aN Y w) A (pyHash v) Q E s:=by
 induction k using NK.ind with
 |h1 i=>
  intro A E s v Q x m q;obtain⟨t,rfl⟩:=cP.mp x;exact wpAny_pyHash_int q
 |h2 z=>
  intro A E s v Q x m q;obtain⟨t,rfl⟩:=cQ.mp x;exact wpAny_pyHash_str q
 |h3 l L=>
  intro A E s v Q x m q;obtain⟨a,N,rfl,t,y⟩:=cz.mp x;simp only[NK.dj]at m;simp only[NK.hash,NK.draws]at q;obtain⟨o,O,hc,n,U⟩:=id t;refine PySem.W.pyHash_slot (Yz t) F.slot_tuple_hash F.entry_tuple_hash (F.args_tuple_hash_1 _) au (.inr ak) ?_;refine ax (aP (ax (wpAny_tupleItemsOf O U (ax ?_))));rw[<-EK];refine td _ (λrest r h=>∃done rl,done++rl=l/\NK.mQ s.heap rl rest/\r=(NK.g7 w done).toArray/\h={s with toks:=s.toks+NK.fb done}) _ ?_ ?_ _ _ ⟨[],l,rfl,y,rfl,rfl⟩
  .rintro u rest r h ⟨done,rl,p,j,rfl,rfl⟩
   cases rl with
   |nil=>have:=fA.mp j;cases this
   |cons c rl=>
    obtain⟨u',us,e,B,H⟩:=cU.mp j;obtain⟨rfl,rfl⟩:=List.cons.inj e;have I:c∈l:=by rw[<-p];simp
    have J:=vp I;refine ax (L c I A.in1 E {s with toks:=s.toks+NK.fb done} u _ B dX ?_);refine aP ⟨done++[c],rl,by simp[p],H,?_,?_⟩
    .have:∀d:List NK,NK.g7 w (d++[c])=NK.g7 w d++[c.hash w]:=λd=>by
      induction d with
      |nil=>simp[NK.g7]
      |cons b d g=>simp[NK.g7,g]
     simp_all
    .have:∀d:List NK,NK.fb (d++[c])=NK.fb d+c.draws:=λd=>by
      induction d with
      |nil=>simp[NK.fb]
      |cons b d g=>simp[NK.fb,g];omega
     grind
  .rintro r h ⟨done,rl,p,j,rfl,rfl⟩
   have e0:rl=[]:=by
    cases rl with
    |nil=>rfl
    |cons c rl=>obtain⟨_,_,e,_⟩:=cU.mp j;cases e
   refine lU (wpAny_ret_mkInt (Q:=λv h=>∃n t,v=.int n t/\Q (reduceHash n) h) ?_) (by rintro fin h ⟨v,e,n,t,e2,q⟩;exact⟨n,t,by rw[e,e2],q⟩) (λf f x=>x)
   grind
end
def M5{c:Type}[BEq c][LawfulBEq c]{d:Type}{f:c->d}(e:∀a b,f a=f b->a=b)(a b)[Decidable (f a=f b)]:(a==b)=aD (f a=f b):=by grind
def Td(x):∀(A)(y)(u v),NK.at s.heap x u->NK.at s.heap y v->A.units+x.dj<cLine->EqAt A s u v (aD (x=y)):=by
 induction x using NK.ind with
 |h1 i=>
  intro A y u v n g o;obtain⟨t,rfl⟩:=cP.mp n;simp only[NK.dj]at o
  cases y with
  |int j=>
   obtain⟨r,rfl⟩:=cP.mp g;rw[<-M5 (f:=NK.int) (λa b e=>by cases e;rfl)];exact EqAt.int_int _ _ _ _
  |str z=>obtain⟨r,rfl⟩:=cQ.mp g;rw[decide_eq_false (by intro e;cases e)];exact EqAt.int_str _ _ _ _
  |ap l=>obtain⟨a,d,rfl,p,_⟩:=cz.mp g;rw[decide_eq_false (by intro e;cases e)];exact EqAt.int_tuple _ _ p ak
 |h2 z=>
  intro A y u v n g o;obtain⟨t,rfl⟩:=cQ.mp n;simp only[NK.dj]at o
  cases y with
  |int j=>obtain⟨r,rfl⟩:=cP.mp g;rw[decide_eq_false (by intro e;cases e)];exact EqAt.str_int _ _ _ _
  |str N=>
   obtain⟨r,rfl⟩:=cQ.mp g;rw[<-M5 (f:=NK.str) (λa b e=>by cases e;rfl)];exact EqAt.str_str _ _ _ _
  |ap l=>obtain⟨a,d,rfl,p,_⟩:=cz.mp g;rw[decide_eq_false (by intro e;cases e)];exact EqAt.str_tuple _ _ p ak
 |h3 l O=>
  intro A y u v n g o;obtain⟨a,d,rfl,p,B⟩:=cz.mp n;simp only[NK.dj]at o
  cases y with
  |int j=>obtain⟨r,rfl⟩:=cP.mp g;rw[decide_eq_false (by intro e;cases e)];exact EqAt.tuple_int _ _ p ak
  |str N=>obtain⟨r,rfl⟩:=cQ.mp g;rw[decide_eq_false (by intro e;cases e)];exact EqAt.tuple_str _ _ p ak
  |ap m=>
   obtain⟨Q,c,rfl,U,E⟩:=cz.mp g
   by_cases z:a=Q
   .subst z;rw[decide_eq_true (M3 _ _ _ n g)];exact EqAt.same _
   .have H:=KU B;have I:=KU E
    have q:=RcAt.tuples (A:=A) (e:=λj=>aD (l[j]?=m[j]?)) p U ak (λj h1 h2=>by
     have w:j<ao l:=by rw[<-H,gW];exact h1
     have J:j<ao m:=by rw[<-I,gW];exact h2
     have Y:d.toList[j]?=ae d[j]:=by rw[hH];exact lH h1
     have g2:c.toList[j]?=ae c[j]:=by rw[hH];exact lH h2
     have hd:=vp (rB w);have:=O l[j] (rB w) A.in1 m[j] d[j] c[j] (KW B (cW w) Y) (KW E (cW J) g2) (by show A.units+1+l[j].dj<cLine;omega);rw[cW w,cW J]
     simpa using this)
    have e:((gH (min d.size c.size)).all (λj=>aD (l[j]?=m[j]?))&&d.size==c.size)=aD (NK.ap l=NK.ap m):=by
     rw[<-gW,<-gW,H,I];rw[vk,fD,nF,decide_eq_true_iff]
     constructor
     .rintro⟨h1,h2⟩;have L:ao l=ao m:=by simpa using h2
      congr 1;apply Ca;intro j
      by_cases hj:j<ao l
      .simpa using h1 j (iD.mpr ak)
      .rw[Cb ak,Cb ak]
     .intro h;cases h;exact⟨λj k=>by simp,by simp⟩
    rw[<-e];exact EL z q
section
variable{U:fW}{w:World}{A:hJ}{E:aJ->bT->Prop}
def Te(k):∀(n)(v)(Q),NK.at s.heap k v->k.dj<=n->Q af s->wpAny (aN U w) A (eqIsQuiet n v) Q E s:=by
 induction k using NK.ind with
 |h1 i=>intro n v Q x _ q;obtain⟨t,rfl⟩:=cP.mp x;cases n<;>exact aP q
 |h2 z=>intro n v Q x _ q;obtain⟨t,rfl⟩:=cQ.mp x;cases n<;>exact aP q
 |h3 l I=>
  intro n v Q x J q;obtain⟨a,L,rfl,p,N⟩:=cz.mp x;simp only[NK.dj]at J;obtain⟨n,rfl⟩:∃m,n=m+1:=⟨n-1,by omega⟩
  obtain⟨o,O,hc,nn,Y⟩:=id p;rw[eqIsQuiet.eq_def];refine ax (Bb (Yz p) F.slot_tuple_eq.lookup ?_);refine ax (Cc (Yz p) (by first|rfl|decide|exact isSubtype_type "tuple" _) ?_);refine ax (vr O Y (ax ?_));rw[<-EK];refine td _ (λrest r c=>r=(ah,())/\c=s/\∃rl,NK.mQ s.heap rl rest/\∀k∈rl,k∈l) _ ?_ ?_ _ _ ⟨rfl,rfl,l,N,λb h=>h⟩
  .rintro u rest r c ⟨rfl,rfl,rl,j,y⟩
   cases rl with
   |nil=>have:=fA.mp j;cases this
   |cons B rl=>
    obtain⟨u',us,e,d,g⟩:=cU.mp j;obtain⟨rfl,rfl⟩:=List.cons.inj e;have H:=y B g8;have Tf:=vp H;refine ax (I B H n u _ d ak ?_);exact aP ⟨rfl,rfl,rl,g,λq hq=>y q (g9 _ hq)⟩
  .rintro r c ⟨rfl,rfl,_⟩;exact aP q
end
noncomputable def et(e)(w): HeapKind e w NK where
  is := λh k a => NK.at h k (.ref a) /\ k.dj <= 8
  hash := NK.hash w
  draws := NK.draws
  room := λA => A.units + 8 < cLine
  inj := λx y => M3 _ _ _ x.1 y.1
  keeps := λ{h B k a d o H I} x j l m => ⟨M4 (by rintro b p ⟨ob, g, r, n, c⟩; exact⟨ob, m.extBut b ob (λz => by
    subst z
    rw[j]at g; cases g
    rw[l]at c; cases c) g, r, n, c⟩) k _ x.1, x.2⟩
  pyHash := λ{A E s k a Q} u x q => Ta k A E s _ Q x.1 (by have := x.2; omega) q
  eqBool := λ{A E s x y a b Q} u i v q => Td x A y _ _ i.1 v.1 (by have := i.2; omega) _ _ _ _ q
  quiet := λ{A E s k a Q} x q => Te k 8 _ Q x.1 x.2 q
noncomputable def bH(c)(w):HeapKind c w (List NK) where
 is:=λh l a=>(et c w).is h (.ap l) a
 hash:=λl=>(et c w).hash (.ap l)
 draws:=λl=>(et c w).draws (.ap l)
 room:=(et c w).room
 inj:=λx y=>by cases(et c w).inj x y;rfl
 keeps:=λx g i j=>(et c w).keeps x g i j
 pyHash:=λd x q=>(et c w).pyHash d x q
 eqBool:=λ{A E s x y a b Q} d m n q=>(et c w).eqBool d m n (by
  have:aD (NK.ap x=NK.ap y)=aD (x=y):=by
   by_cases z:x=y
   .subst z;simp
   .rw[decide_eq_false z,decide_eq_false (λe=>z (NK.ap.inj e))]
  rw[this];exact q)
 quiet:=λx q=>(et c w).quiet x q
end M
section
open PySem
abbrev YG(x:Str):Prop:=(x==("__debug__" :Str))=ag
abbrev YF(x:Str):Prop:=(x==("__classdict__" :Str))=ag
abbrev YE:=Str->Option aJ
abbrev Wp:=ar->Prop
abbrev Wo:=aJ->bT->Prop
theorem Vj{l:List Str}(h:l.Nodup:=by decide+kernel):l.Nodup:=h
end
namespace L2
open PySem PySem.Spec PyProof.Rows
abbrev dY:=Sum Int Str
noncomputable def Bc:dY->aJ->Bool
 |.inl k,v=>Value.isInt k v
 |.inr x,v=>Value.isStrOf x v
noncomputable def GH(w:World):dY->Int
 |.inl k=>hashInt k
 |.inr x=>hashStr w x
theorem ze:∀{k}{v},Bc k v=af->(∃i t,k=Sum.inl i/\v=Value.int i t)\/(∃x t,k=Sum.inr x/\v=Value.str x t)
 |.inl i,v,h=>by
  obtain⟨t,e⟩:=GI h;exact .inl ⟨i,t,rfl,e⟩
 |.inr x,v,h=>by
  obtain⟨t,e⟩:=Value.isStrOf_shape h;exact .inr ⟨x,t,rfl,e⟩
def Tg(i)(t):Bc (.inl i) (.int i t)=af:=by simp[Bc,Value.isInt]
def Th(x)(t):Bc (.inr x) (.str x t)=af:=by simp[Bc,Value.isStrOf]
def Ti(a b):aD ((Sum.inl a:dY)=Sum.inl b)=(a==b):=by grind
def Tj(a b):aD ((Sum.inr a:dY)=Sum.inr b)=aD (a=b):=by simp_all
def Tl(a)(b):aD ((Sum.inl a:dY)=Sum.inr b)=ag:=by simp_all
def Tn(a)(b):aD ((Sum.inr a:dY)=Sum.inl b)=ag:=by simp_all
def wJ(c)(w):PySem.KeyKind c w dY where
 is:=Bc
 hash:=GH w
 inj:=λv a b l g=>by
  rcases ze l with⟨i,t,rfl,rfl⟩|⟨x,t,rfl,rfl⟩
  .rcases ze g with⟨j,u,rfl,e⟩|⟨y,u,rfl,e⟩
   .injection e with e1 _;rw[e1]
   .exact nomatch e
  .rcases ze g with⟨j,u,rfl,e⟩|⟨y,u,rfl,e⟩
   .exact nomatch e
   .injection e with e1 _;rw[e1]
 byValue:=λk v h=>by
  rcases ze h with⟨i,t,rfl,rfl⟩|⟨x,t,rfl,rfl⟩<;>rfl
 pyHash:=λd h=>by
  rcases ze d with⟨i,t,rfl,rfl⟩|⟨x,t,rfl,rfl⟩
  .exact wpAny_pyHash_int h
  .exact wpAny_pyHash_str h
 eqBool:=λm d h=>by
  rcases ze m with⟨i,t,rfl,rfl⟩|⟨x,t,rfl,rfl⟩
  .rcases ze d with⟨j,u,rfl,rfl⟩|⟨y,u,rfl,rfl⟩
   .rw[Ti]at h;exact wpAny_eqBool_int h
   .rw[Tl]at h;exact SeqAt.EqAt.int_str i t y u _ _ _ _ h
  .rcases ze d with⟨j,u,rfl,rfl⟩|⟨y,u,rfl,rfl⟩
   .rw[Tn]at h;exact SeqAt.EqAt.str_int x t j u _ _ _ _ h
   .rw[Tj]at h;exact wpAny_eqBool_str h
 «strs» :=λk x t v h=>by
  rcases ze h with⟨i,u,rfl,e⟩|⟨y,u,rfl,e⟩
  .exact nomatch e
  .injection e with e1 _;subst e1;cases v<;>rfl
def kO(a)(w)(i)(t):(wJ a w).is (.inl i) (.int i t)=af:=Tg i t
def kN(a)(w)(x)(t):(wJ a w).is (.inr x) (.str x t)=af:=Th x t
inductive V where
 |bo|bl (b:Bool)|int (i:Int)|str (x:Str)|Be (b:Array UInt8)|se (b:UInt64)|ref (a:ar)|ty (n:String)
 deriving DecidableEq
def aR:V->aJ->Prop
 |.bo,u=>u=lI
 |.bl b,u=>u=o7 b
 |.int i,u=>∃t,u=Value.int i t
 |.str x,u=>∃t,u=Value.str x t
 |.Be b,u=>∃t,u=Value.bytes b t
 |.se b,u=>∃t,u=Value.float b t
 |.ref a,u=>u=cg a
 |.ty n,u=>u=vu n
abbrev aW:List V->List aJ->Prop:=mR aR
def aW.length(r:aW xs us):xs.length=us.length:=sg r
theorem aW.get:∀{a}{c}{i:Nat}{x},aW a c->a[i]?=ae x->∃u,c[i]?=ae u/\aR x u
 |_,_,_,_,.nil,e=>by simp at e
 |_,_,0,_,.cons r _,e=>by simp_all
 |_,_,i+1,x,.cons _ t,e=>by
  obtain⟨u,h1,h2⟩:=aW.get t (by simpa using e)
  simp_all
theorem aW.set(r:aR x u):∀{a}{c}(i),aW a c->aW (a.set i x) (c.set i u)
 |_,_,_,.nil=>.nil
 |_,_,0,.cons _ t=>.cons r t
 |_,_,i+1,.cons q t=>.cons q (aW.set r i t)
def aW.append:∀{a c}{d e},aW a d->aW c e->aW (a++c) (d++e):=by
 intro _ _ _ _ r s
 induction r with
 |nil=>exact s
 |cons r _ g=>exact .cons r g
theorem aW.take:∀{a}{c}(n),aW a c->aW (a.take n) (c.take n)
 |_,_,0,_|_,_,_+1,.nil=>.nil
 |_,_,n+1,.cons r t=>.cons r (aW.take n t)
theorem aW.drop:∀{a}{c}(n),aW a c->aW (a.drop n) (c.drop n)
 |_,_,0,r=>r
 |_,_,_+1,.nil=>.nil
 |_,_,n+1,.cons _ t=>aW.drop n t
def eP:Option V->Option aJ->Prop
 |some v,ae u=>aR v u
 |none,ah=>True
 |_,_=>False
def KV{a:Type}:List (a×V)->List (a×aJ)->Prop:=mR λ(p:a×V) (q:a×aJ)=>p.1=q.1/\aR p.2 q.2
noncomputable def kV:dY->V
 |.inl i=>.int i
 |.inr x=>.str x
inductive HO where
 |al (xs:List V)
 |ap (xs:List V)
 |dK (kvs:List (dY×V))|dT (kvs:List (List M.NK×V))
 |set (S:Int->Bool) (n:Nat)
 |ins (C dx:ar) (fs:List (Str×V))
 |aG (x:ar)
 |xd (fs:List (Str×V))
 |met (f x:ar)
 |EM (lo hi:Int)
 |bQ (o:Obj) (u:HO)
 |si (ps:Array aJ)
 |ext (φ:Heap->Prop)
abbrev Hp:=ar->Option HO
noncomputable def aQ(H:Hp)(a:ar)(o:HO):Hp:=λb=>if b=a then ae o else H b
def jv:aQ H a o a=ae o:=by delta aQ;rw[if_pos aa]
def jz(h:b≠a):aQ H a o b=H b:=by delta aQ;rw[if_neg h]
def M6{H:Hp}(h:H a=ae o)(c:H b=ae u)(d:o≠u):a≠b:=by grind
def qi{H:Hp}(h:H a=ae o)(c:H b=ah):a≠b:=by grind
mutual
def fX(H:Hp):M.NK->V->Prop
 |.int i,v=>v=.int i
 |.str x,v=>v=.str x
 |.ap l,v=>∃b a,v=.ref b/\H b=ae (.ap a)/\ff H l a
def ff(H:Hp):List M.NK->List V->Prop
 |[],a=>a=[]
 |k::l,a=>∃u c,a=u::c/\fX H k u/\ff H l c
end
def GJ(H:Hp):M.NV->V->Prop
 |.bo,v=>v=.bo
 |.key k,v=>fX H k v
 |.bl b,v=>v=.bl b
def ff.mono:∀{l}{a},(∀k∈l,∀v,fX H k v->fX c k v)->ff H l a->ff c l a:=
 @(
  bv (@(λa z x=>by simp only[ff]at x ⊢;exact x)) λk l d a f x=>by
  obtain⟨u,g,e,h,y⟩:=x
  exact⟨u,g,e,f k g8 u h,d (λq i=>f q (g9 _ i)) y⟩)
def fX.mono(d:∀b a,H b=ae (.ap a)->g b=ae (.ap a))(k):∀v,fX H k v->fX g k v:=by
 induction k using M.NK.ind with
 |h1 _|h2 _=>intro v x;simp only[fX]at x ⊢;exact x
 |h3 l h=>
  intro v x;obtain⟨b,c,e,j,y⟩:=x;exact⟨b,c,e,d b c j,ff.mono h y⟩
def GJ.mono(c:∀b a,H b=ae (.ap a)->d b=ae (.ap a))(x:GJ H k v):GJ d k v:=by
 cases k with
 |bo=>exact x
 |key k=>exact fX.mono c k v x
 |bl b=>exact x
def TK(H:Hp)(k:List M.NK)(b:ar):Prop:=fX H (.ap k) (.ref b)/\(M.NK.ap k).dj<=8
def TK.keep(c:∀b a,H b=ae (.ap a)->d b=ae (.ap a))(x:TK H k b):TK d k b:=⟨fX.mono c _ _ x.1,x.2⟩
section
variable(P:fW)(w:World)
def bC(H:Hp)(h:Heap)(a:ar):HO->Prop
 |.al e=>e.length<=ba/\∃(c:List aJ)(n:Nat),aW e c/\h.get? a=ae {cls:=.type "list",data:=.seq c.toArray n}
 |.ap e=>e.length<=ba/\∃c:List aJ,aW e c/\IsTup h a c.toArray
 |.dK d=>d.length<=ba/\(a==lJ)=ag/\∃j,KV d j/\h.DictOf (wJ P w) a j
 |.dT d=>d.length<=ba/\(a==lJ)=ag/\∃e:List (List M.NK×ar×aJ),
  mR (λ(p:List M.NK×V) (q:List M.NK×ar×aJ)=>p.1=q.1/\TK H p.1 q.2.1/\aR p.2 q.2.2) d e/\
  ∃o l y,h.get? a=ae o/\o.ExactDict/\o.data=.dict l y/\l.toList=e.map (entryOfKey (M.bH P w))/\(e.map (·.1)).Nodup
 |.set S n=>h.SetOf (nG P w) a S n
 |.ins C dx fs=>H dx=ae (.aG a)/\fs.length<=1000/\dx≠a/\h.get? a=ae (te C dx)/\
  ∃g,h.Ns1 dx g/\(∀f,eP (fs.lookup f) (g f))/\PySem.Within g (fs.map (·.1))
 |.aG _=>∃o,h.get? a=ae o
 |.xd fs=>∃g,h.Ns1 a g/\∀f,eP (fs.lookup f) (g f)
 |.EM lo z=>∃t u v,h.get? a=ae {cls:=.type "range",data:=.fields #[.int lo t,.int z u,.int 1 v]}
 |.bQ o u=>h.get? a=ae o/\bC H h a u
 |.si B=>h.get? a=ae {cls:=.none,data:=.fields B}
 |.met f x=>h.get? a=ae (PySem.W.methodObj (.ref f) (.ref x))
 |.ext i=>i h/\(∃o,h.get? a=ae o)/\∀m r:Heap,i m->(∀o,m.get? a=ae o->r.get? a=ae o)->i r
def eA(H:Hp)(h:Heap):Prop:=∀a o,H a=ae o->bC P w H h a o
end
section
variable{a:ar}
def bC.lt(x:bC P w H h a o):a<h.objs.size:=by
 cases o with
 |al d=>obtain⟨_,_,_,_,e⟩:=x;exact b7 e
 |ap d=>obtain⟨_,_,_,p⟩:=x;exact p.lt
 |dK _|dT _=>obtain⟨_,_,_,_,o,_,_,e,_⟩:=x;exact b7 e
 |set S n=>obtain⟨o,_,_,_,e,_⟩:=x;exact b7 e
 |ins C dx fs=>obtain⟨_,_,_,e,_⟩:=x;exact b7 e
 |aG y=>obtain⟨_,e⟩:=x;exact b7 e
 |xd fs=>obtain⟨_,⟨_,_,_,e,_⟩,_⟩:=x;exact b7 e
 |EM lo g=>obtain⟨_,_,_,e⟩:=x;exact b7 e
 |bQ ob u=>obtain⟨e,_⟩:=x;exact b7 e
 |si _|met _ _=>exact b7 (x)
 |ext j=>obtain⟨_,⟨_,e⟩,_⟩:=x;exact b7 e
def mR.Cd:∀{c}{d},mR F c d->(∀a b,F a b->G a b)->mR G c d:=by
 intro _ _ r f
 induction r with
 |nil=>exact .nil
 |cons r _ e=>exact .cons (f _ _ r) e
def bC.bq(x:bC P w H h a o)(k:∀b u,(b=a\/H b=ae (.aG a))->h.get? b=ae u->J.get? b=ae u)
  (L:∀b,H b=ae (.aG a)->I b=ae (.aG a)) (N:∀b l,H b=ae (.ap l)->I b=ae (.ap l)):bC P w I J a o:=by
 induction o with
 |al l=>obtain⟨z,j,n,r,e⟩:=x;exact⟨z,j,n,r,k _ _ (.inl aa) e⟩
 |ap l=>obtain⟨z,j,r,ob,e,c⟩:=x;exact⟨z,j,r,ob,k _ _ (.inl aa) e,c⟩
 |dK m=>obtain⟨z,y,O,r,ob,g,i,e,c⟩:=x;exact⟨z,y,O,r,ob,g,i,k _ _ (.inl aa) e,c⟩
 |dT m=>
  obtain⟨z,y,l,r,ob,g,i,e,c⟩:=x;exact⟨z,y,l,mR.Cd r λp q z=>⟨z.1,z.2.1.keep N,z.2.2⟩,ob,g,i,k _ _ (.inl aa) e,c⟩
 |set S n=>obtain⟨ob,g,i,t,e,c⟩:=x;exact⟨ob,g,i,t,k _ _ (.inl aa) e,c⟩
 |ins C dx fs=>
  obtain⟨d,z,ne,e,B,⟨E,g,i,e2,c⟩,r⟩:=x;exact⟨L _ d,z,ne,k _ _ (.inl aa) e,B,⟨E,g,i,k _ _ (.inr d) e2,c⟩,r⟩
 |aG y=>obtain⟨ob,e⟩:=x;exact⟨ob,k _ _ (.inl aa) e⟩
 |xd fs=>obtain⟨B,⟨E,g,i,e,c⟩,r⟩:=x;exact⟨B,⟨E,g,i,k _ _ (.inl aa) e,c⟩,r⟩
 |EM lo U=>obtain⟨t,u,v,e⟩:=x;exact⟨t,u,v,k _ _ (.inl aa) e⟩
 |bQ ob u Q=>obtain⟨e,q⟩:=x;exact⟨k _ _ (.inl aa) e,Q q⟩
 |si Y=>
  have e:=x;exact k a _ (.inl aa) e
 |met f y=>
  have e:=x;exact k a _ (.inl aa) e
 |ext φ=>obtain⟨p,⟨o,e⟩,st⟩:=x;exact⟨st _ _ p λo q=>k _ _ (.inl aa) q,⟨o,k _ _ (.inl aa) e⟩,st⟩
def eA.lt(x:eA P w H h)(e:H a=ae o):a<h.objs.size:=(x a o e).lt
def eA.fresh(x:eA P w H h)(e:h.objs.size<=a):H a=ah:=by
 cases q:H a with
 |none=>rfl
 |some u=>exact absurd (dZ (x.lt q) e) (rC _)
def eA.kept(x:eA P w H h)(k:∀b u,h.get? b=ae u->c.get? b=ae u):eA P w H c:=λa o e=>
 (x a o e).bq (λb u y q=>k b u q) (λy q=>q) λy y q=>q
def eA.laid(x:eA P w H h)(k:∀b u,h.get? b=ae u->d.get? b=ae u)(j:h.objs.size<=a)(new:bC P w (aQ H a o) d a o):eA P w (aQ H a o) d:=λb u e=>by
 have g:=x.fresh j
 by_cases i:b=a
 .subst i;rw[jv]at e;cases e;exact new
 .rw[jz i]at e;exact(x b u e).bq (λc v y q=>k c v q) (λc q=>by rw[jz (qi q g)];exact q) λc l q=>by rw[jz (qi q g)];exact q
end
def Rd(H:Hp)(a:ar)(u:HO):Prop:=H a=ae u\/∃o,H a=ae (.bQ o u)
def Rd.of(h:H a=ae u):Rd H a u:=.inl h
def Rd.aB(h:Rd H a u)(s:∀b o,H b=ae o->c b=ae o):Rd c a u:=h.imp (s _ _)<|by rintro⟨o,e⟩;exact⟨o,s _ _ e⟩
def Rd.ok(r:Rd H a u)(x:eA P w H h):bC P w H h a u:=by
 rcases r with r|⟨o,r⟩
 .exact x a u r
 .obtain⟨_,q⟩:=x a _ r;exact q
def oh:Option HO->Prop
 |some (.al _)|some (.dK _)|some (.dT _)|some (.set _ _)|some (.ins _ _ _)|some (.ext _)=>True
 |_=>False
section
def eA.write(ok:eA P w H h)(g:oh (H x))(E:e=x\/H e=ae (.aG x))(k:∀b u,b≠e->h.get? b=ae u->j.get? b=ae u)(l:∃u,j.get? e=ae u)
   (new:bC P w (aQ H x n) j x n):eA P w (aQ H x n) j:=λb u q=>by
 have a:∀c y,H c=ae (.aG y)->c≠x:=λc y r z=>by subst z;rw[r]at g;exact g
 have d:∀c i,H c=ae (.ap i)->c≠x:=λc i r z=>by subst z;rw[r]at g;exact g
 by_cases o:b=x
 .subst o;rw[jv]at q;cases q;exact new
 .rw[jz o]at q
  by_cases m:b=e
  .have p:H b=ae (.aG x):=by simp_all
   rw[q]at p;cases p;obtain⟨v,B⟩:=l;exact⟨v,by rw[m];exact B⟩
  .refine(ok b u q).bq (λc v I r=>k c v ?_ r) (λc r=>by rw[jz (a c b r)];exact r) λc i r=>by rw[jz (d c i r)];exact r
   grind
end
structure Un(fs ex:List ar)(H H':Hp)(h h':Heap):Prop where
 keep:∀b o,h.get? b=ae o->H b=ah->b∉fs->b∉ex->h'.get? b=ae o
 slot:∀b o,h.get? b=ae o->H b=ah->b∈fs->b∉ex->∃sl,h'.get? b=ae {o with slots:=sl}
 free:∀b o,h.get? b=ae o->H b=ah->b∉ex->H' b=ah
 there:∀b o,h.get? b=ae o->b∉ex->∃o',h'.get? b=ae o'
 ee:∀b xs,H b=ae (.ap xs)->H' b=ae (.ap xs)
 eQ:∀b o u,H b=ae (.bQ o u)->H' b=ae (.bQ o u)
 fg:∀b ps,H b=ae (.si ps)->∃more,H' b=ae (.si (ps++more))
section
variable{h:Heap}{a:ar}
def Un.any(u:Un fs ex H g h h1)(q:h.get? b=ae ob)(n:H b=ah)(c:b∉ex):∃e,h1.get? b=ae {ob with slots:=e}:=by
 by_cases d:b∈fs
 .exact u.slot b ob q n d c
 .exact⟨ob.slots,u.keep b ob q n d c⟩
def Un.kept(k:∀b u,h.get? b=ae u->c.get? b=ae u):Un fs ex H H h c:=
 ⟨λb ob q x x x=>k b ob q,λb ob q x x x=>⟨ob.slots,k b ob q⟩,λx x x n x=>n,λb ob q x=>⟨ob,k b ob q⟩,λx x q=>q,λx x x q=>q,λx d q=>⟨#[],by rw[q];simp⟩⟩
def Un.refl:Un fs ex H H h h:=Un.kept λx x q=>q
def Un.laid(k:∀b u,h.get? b=ae u->d.get? b=ae u)(e:h.objs.size<=a)(c:H a=ah):Un fs ex H (aQ H a o) h d where
 keep:=λb u q x x x=>k b u q
 slot:=λb u q x x x=>⟨u.slots,k b u q⟩
 free:=λb u q n x=>by rw[jz (di (dZ (b7 q) e))];exact n
 there:=λb u q x=>⟨u,k b u q⟩
 ee:=λb g q=>by rw[jz (qi q c)];exact q
 eQ:=λb u g q=>by rw[jz (qi q c)];exact q
 fg:=λb i q=>⟨#[],by rw[jz (qi q c),q];simp⟩
def Un.write(d:oh (H x))(p:e=x\/H e=ae (.aG x))(k:∀b u,b≠e->h.get? b=ae u->g.get? b=ae u)(j:∃u,g.get? e=ae u):Un fs ex H (aQ H x o) h g:=by
 have l:∀b,H b=ah->b≠x:=λb n z=>by subst z;rw[n]at d;exact d
 have i:∀b,H b=ah->b≠e:=by grind
 have c:∀b u,H b=ae u-> ¬oh (ae u)->b≠x:=by grind
 refine⟨λb u q n y y=>k b u (i b n) q,λb u q n y y=>⟨u.slots,k b u (i b n) q⟩,λb u q n y=>by rw[jz (l b n)];exact n,λb u q y=>?_,
  λb m q=>by rw[jz (c b _ q λz=>z)];exact q,λb u m q=>by rw[jz (c b _ q λz=>z)];exact q,λb r q=>⟨#[],by rw[jz (c b _ q λz=>z),q];simp⟩⟩
 grind
end
def Ce(h:Heap)(H:Hp):List ar:=(gH h.objs.size).filter λa=>(H a).isSome
def lV(h:Heap)(H:Hp):Heap:=PySem.W.hideAll h (Ce h H)
def To(h)(H):(lV h H).objs.size=h.objs.size:=PySem.W.hideAll_size _ _
def Tp(e:h.get? b=ae o)(n:H b=ah):(lV h H).get? b=ae o:=
 PySem.W.hideAll_get _ e λa=>by
  have q:=(EN.mp a).2
  simp_all
def Tq(e:(lV h H).get? b=ae o):h.get? b=ae o/\H b=ah:=by
 have a:=PySem.W.of_hideAll (Ce h H) e;refine⟨a,?_⟩
 cases q:H b with
 |none=>rfl
 |some x=>
  have z:(lV h H).get? b=ah:=PySem.W.hideAll_none (Ce h H) (EN.mpr ⟨iD.mpr (b7 a),by simp[q]⟩)
  simp_all
def Tr(g h:Heap)(L:ar):List (ar×Obj):=(gH h.objs.size).filterMap λa=>if a=L\/(g.get? a).isSome=af then ah else(h.get? a).map λo=>(a,o)
def rest(g h:Heap)(L d:ar):List (ar×Obj):=(Tr g h L).filter λp=>aD (p.1≠d)
structure Mod(κ:bK)(mg:YE)(aj:Heap):Prop where
 vE:κ.In aj
 glob:aj.Ns ci mg
 blt:∃mb,aj.Ns builtinsNs mb/\∀x:Str,x≠ "__name__" ->mb x=lW x
 nolimit:aj.NoLimit
structure Cx where
 P:fW
 w:World
 K:bK
 mg:Str->Option aJ
 aj:Heap
 A:hJ
 N:List Str
 eB:bT
 lX:Hp
 V:Env
 outer:List Env
 stack:List Env
 ex:List ar
 fn:Str->Bool
 bU:Bool
 pn:List (ar×Obj)
 xe:aJ->bT->Prop
abbrev bj(X:Cx):=aN X.P X.w
abbrev Wn(X:Cx)(e:Expr)(a:List Expr):Prop:=bx (e::a) X.V=(ag,eval e X.V)::bx a X.V
abbrev Vl(X:Cx)(p:Pos)(a:List Expr):Prop:=(fh p (bx a X.V)).any (·.1)=ag
abbrev Vk(X:Cx)(x:Str):Prop:=X.fn x=af\/X.V.scope.names.lookup x=ae .local
def eD(l:List Env):List ar:=l.filterMap (·.frame)
abbrev Cx.fs(X:Cx):List ar:=eD X.outer
def gj(a:Scope)(x:Str):Prop:=a.names.lookup x=ae .local\/a.names.lookup x=ae .cell\/a.names.lookup x=ae .free
def Loc(a:Scope)(x:Str):Prop:=a.names.lookup x=ae .local\/a.names.lookup x=ae .cell
def Look(env:Env)(h:Heap)(m:YE)(x:Str)(u:aJ):Prop:=
 (env.kindOf x=ae .local/\m x=ae u)\/((env.kindOf x=ae .cell\/env.kindOf x=ae .free)/\∃c,env.cells.lookup x=ae c/\h.IsCell c (ae u))
structure Cx.Ok(X:Cx):Prop where
 mod:Mod X.K X.mg X.aj
 kind:X.V.scope.kind=.function
 glob:X.V.globals=ci
 blt:X.V.builtins=builtinsNs
 above:X.eB.heap.objs.size<=X.V.locals
 inj:∀x y c,X.V.cells.lookup x=ae c->X.V.cells.lookup y=ae c->x=y
 has:∀x,(X.V.kindOf x=ae .cell\/X.V.kindOf x=ae .free)->∃c,X.V.cells.lookup x=ae c
 sj:∀x c,X.fn x=af->X.V.cells.lookup x=ae c->X.eB.heap.objs.size<=c
 hd:X.bU=af->X.A.handled=ah
 frames:X.A.frames=ae X.stack
 tf:X.stack=X.outer\/(X.stack=X.V::X.outer/\X.V.frame=ae X.V.locals)
 tj:∀b∈X.ex,b≠X.V.locals/\∀x c,X.V.cells.lookup x=ae c->c≠b
 bs:∀b o,X.aj.get? b=ae o->X.eB.heap.get? b=ae o/\X.lX b=ah
 oi:X.aj.objs.size<=X.eB.heap.objs.size
 j2:∀b o,X.aj.get? b=ae o->b∉X.ex
 kb:∀b∈X.ex,b∉X.fs
 fG:X.eB.heap.FunFrames X.aj X.outer
 pv:∀b∈X.fs,X.lX b=ah
structure aK(X:Cx)(pins:List (ar×Obj))(σ:List (Option V))(H:Hp)(s:bT):Prop where
 ok:X.Ok
 os:s.os=X.eB.os
 bare:rD s.gens
 aj:Un X.fs X.ex X.lX H X.eB.heap s.heap
 loc:∃m,s.heap.Ns X.V.locals m/\∀(i:Nat)(x:Str)(v:V),X.N[i]?=ae x->σ[i]?=ae (ae v)->gj X.V.scope x->∃u,aR v u/\Look X.V s.heap m x u
 cell:∀x c,X.V.cells.lookup x=ae c->∃v,s.heap.IsCell c v
 free:H X.V.locals=ah
 cO:∀x c,X.V.cells.lookup x=ae c->H c=ah
 pin:∀p∈X.pn++pins,s.heap.get? p.1=ae p.2/\H p.1=ah/\p.1≠X.V.locals/\p.1∉X.fs/\∀v,p.2.data≠ .cell v
 be:eA X.P X.w H s.heap
 len:σ.length=X.N.length
section
variable{X:Cx}
def Cx.Ok.GK(ok:X.Ok)(e:X.aj.get? b=ae o):b∉X.fs:=λa=>by
 have:=(ok.fG.mem a).1
 simp_all
def aK.bs(I:aK X a c H s):∀b o,X.aj.get? b=ae o->s.heap.get? b=ae o/\H b=ah:=λb o e=>
 ⟨I.aj.keep b o (I.ok.bs b o e).1 (I.ok.bs b o e).2 (I.ok.GK e) (I.ok.j2 b o e),I.aj.free b o (I.ok.bs b o e).1 (I.ok.bs b o e).2 (I.ok.j2 b o e)⟩
def aK.bk(I:aK X a c H s):∀b o,X.aj.get? b=ae o->s.heap.get? b=ae o:=λb o e=>(I.bs b o e).1
def aK.mod(I:aK X a c H s):Mod X.K X.mg X.aj:=I.ok.mod
def aK.fP(I:aK X a c H s):X.K.In s.heap:=I.ok.mod.vE.keeps I.bk
def aK.lt(I:aK X a d H s):X.V.locals<s.heap.objs.size:=let ⟨_,c,_⟩:=I.loc;c.lt
def aK.sz(I:aK X a c H s):X.eB.heap.objs.size<=s.heap.objs.size:=cn I.ok.above (Bf I.lt)
def aK.GL(I:aK X c g H s){a:ar}(h:s.heap.objs.size<=a):a∉X.fs:=λd=>by
 obtain⟨_,o,e,_⟩:=I.ok.fG.mem d;exact absurd (dZ (b7 e) (cn I.sz h)) (rC _)
def aK.pw(I:aK X a h H s):∀x c,X.V.cells.lookup x=ae c->c≠X.V.locals:=λx c e z=>by
 obtain⟨v,o,i,hd⟩:=I.cell x c e;obtain⟨m,⟨j,l,n,d,g,_⟩,_⟩:=I.loc
 simp_all
def aK.fG(I:aK X g p H s):s.heap.FunFrames X.aj X.outer:=by
 have all:∀(l:List Env),(∀b∈eD l,b∈X.fs)->X.eB.heap.FunFrames X.aj l->s.heap.FunFrames X.aj l:=by
  intro l
  induction l with
  |nil=>intro _ _;trivial
  |cons i r j=>
   intro h hl;obtain⟨hk,⟨L,o,a,m,n,hd⟩,hr⟩:=hl;have c:=h L (by delta eD;rw[EO,a];exact g8);obtain⟨q,e⟩:=I.aj.slot L o n (I.ok.pv L c) c λz=>I.ok.kb L z c
   exact⟨hk,⟨L,_,a,m,e,hd⟩,j (λb d=>h b (by delta eD;rw[EO,a];exact g9 _ d)) hr⟩
 exact all X.outer (λx d=>d) I.ok.fG
def aK.stack(I:aK X a g H s):s.heap.FunFrames X.aj X.stack:=by
 rcases I.ok.tf with e|⟨e,c⟩
 .rw[e];exact I.fG
 .rw[e];obtain⟨m,d,_⟩:=I.loc;refine .cons (by rw[I.ok.kind];decide) c d ?_ I.fG;exact Heap.get?_none_of_le (cn I.ok.oi I.ok.above)
def aK.kv(I:aK X c g H s):∀b∈eD X.stack,b∈X.V.locals::X.fs:=λb a=>by
 rcases I.ok.tf with e|⟨e,d⟩
 .simp_all
 .rw[e]at a
  delta eD at a
  rw[EO,d]at a;exact a
def aK.fY(I:aK X a d H s):∀b∈eD X.stack,H b=ah:=λb hb=>by
 rcases cM.mp (I.kv b hb)with e|hb
 .rw[e];exact I.free
 .obtain⟨_,o,c,_⟩:=I.ok.fG.mem hb;exact I.aj.free b o c (I.ok.pv b hb) λz=>I.ok.kb b z hb
def aK.step{ch:List ar}(I:aK X y σ H s)
   (g:∀b∈ch,(b∈X.ex\/X.eB.heap.objs.size<=b)/\b≠X.V.locals/\(∀x c,X.V.cells.lookup x=ae c->c≠b)/\∀p∈X.pn++y,p.1≠b)
   (keep:∀b o,b≠X.V.locals->b∉X.fs->b∉ch->s.heap.get? b=ae o->H b=ah->J.get? b=ae o)
   (slot:∀b o,b≠X.V.locals->b∈X.fs->b∉ch->s.heap.get? b=ae o->H b=ah->∃Y,J.get? b=ae {o with slots:=Y}) (free:∀b o,b∉ch->s.heap.get? b=ae o->H b=ah->N b=ah)
   (there:∀b o,b∉ch->s.heap.get? b=ae o->∃O,J.get? b=ae O)
   (ee:∀b B,H b=ae (.ap B)->N b=ae (.ap B)) (eQ:∀b o u,H b=ae (.bQ o u)->N b=ae (.bQ o u)) (fg:∀b U,H b=ae (.si U)->∃more,N b=ae (.si (U++more)))
   (ns:∀m,s.heap.Ns X.V.locals m->J.Ns X.V.locals m) (be:eA X.P X.w N J) (hg:rD g'):
   aK X y σ N {s with heap:=J,gens:=g',drawn:=d',toks:=t'}:=by
 have Q:∀b o,X.eB.heap.get? b=ae o->b≠X.V.locals:=λb o e=>di (dZ (b7 e) I.ok.above)
 have w:∀b o,X.eB.heap.get? b=ae o->b∉X.ex->b∉ch:=λb o e a E=>by
   rcases(g b E).1 with z|z
   .exact a z
   .exact absurd (dZ (b7 e) z) (rC _)
 have h:∀x c,X.V.cells.lookup x=ae c->∀v,s.heap.IsCell c v->J.IsCell c v:=by
   rintro x c e v ⟨o,L,hd⟩;have j:c∉ch:=λz=>(g c z).2.2.1 x c e aa
   by_cases hc:c∈X.fs
   .obtain⟨Y,q⟩:=slot c o (I.pw x c e) hc j L (I.cO x c e);exact⟨_,q,hd⟩
   .exact⟨o,keep c o (I.pw x c e) hc j L (I.cO x c e),hd⟩
 refine⟨I.ok,I.os,hg,⟨λb o e n E a=>?_,λb o e n E a=>?_,λb o e n a=>?_,λb o e a=>?_,λb B e=>ee b B (I.aj.ee b B e),λb o B e=>eQ b o B (I.aj.eQ b o B e),λb U e=>?_⟩,?_,λx c e=>?_,?_,λx c e=>?_,λp hp=>?_,be,I.len⟩
 .exact keep b o (Q b o e) E (w b o e a) (I.aj.keep b o e n E a) (I.aj.free b o e n a)
 .obtain⟨Y,e1⟩:=I.aj.slot b o e n E a;obtain⟨Ts,e2⟩:=slot b _ (Q b o e) E (w b o e a) e1 (I.aj.free b o e n a);exact⟨Ts,e2⟩
 .obtain⟨O,e1⟩:=I.aj.there b o e a;exact free b O (w b o e a) e1 (I.aj.free b o e n a)
 .obtain⟨O,e1⟩:=I.aj.there b o e a;exact there b O (w b o e a) e1
 .obtain⟨m1,e1⟩:=I.aj.fg b U e;obtain⟨m2,e2⟩:=fg b _ e1;exact⟨m1++m2,by rw[e2,Array.append_assoc]⟩
 .obtain⟨m,hn,hl⟩:=I.loc;refine⟨m,ns m hn,λi x v e1 e2 e3=>?_⟩;obtain⟨u,r,l⟩:=hl i x v e1 e2 e3;refine⟨u,r,?_⟩;rcases l with l|⟨k,c,e,z⟩
  .exact .inl l
  .exact .inr ⟨k,c,e,h x c e _ z⟩
 .obtain⟨v,z⟩:=I.cell x c e;exact⟨v,h x c e v z⟩
 .obtain⟨m,⟨o,_,_,L,_⟩,_⟩:=I.loc;exact free _ o (λz=>(g _ z).2.1 aa) L I.free
 .obtain⟨v,o,L,hd⟩:=I.cell x c e;exact free c o (λz=>(g c z).2.2.1 x c e aa) L (I.cO x c e)
 .obtain⟨e,n,ne,nf,d⟩:=I.pin p hp;have j:p.1∉ch:=λz=>(g p.1 z).2.2.2 p hp aa
  exact⟨keep p.1 p.2 ne nf j e n,free p.1 p.2 j e n,ne,nf,d⟩
def aK.un(I:aK X a p H s)(u:Un X.fs [] H i s.heap j)(be:eA X.P X.w i j):aK X a p i {s with heap:=j,toks:=y}:=by
 obtain⟨m,⟨o,B,E,l,r⟩,_⟩:=id I.loc;obtain⟨J,q⟩:=u.any l I.free aE
 exact I.step (ch:=[]) (λx z=>nomatch z) (λb o x d x e n=>u.keep b o e n d aE) (λb o x d x e n=>u.slot b o e n d aE) (λb o x e n=>u.free b o e n aE) (λb o x e=>u.there b o e aE) u.ee u.eQ u.fg (λL v=>by
  obtain⟨N,g,h,c,w⟩:=v;rw[l]at c;cases c
  exact⟨_,g,h,q,w⟩) be I.bare
def aK.call(I:aK X a y H s)(u:Un (eD X.stack) B H q s.heap v)(be:eA X.P X.w q v)(hg:rD E)
  (g:∀b∈B,(b∈X.ex\/X.eB.heap.objs.size<=b)/\b≠X.V.locals/\(∀x c,X.V.cells.lookup x=ae c->c≠b)/\∀p∈X.pn++a,p.1≠b):
  aK X a y q {s with heap:=v,gens:=E,drawn:=O,toks:=Q}:=by
 obtain⟨m,⟨o,U,Y,w,r⟩,_⟩:=id I.loc;obtain⟨sl,i⟩:=u.any w I.free λz=>(g _ z).2.1 aa
 exact I.step g (λb o i J d e n=>u.keep b o e n (λz=>(cM.mp (I.kv b z)).elim i J) d) (λb o f f d e n=>u.any e n d) (λb o d e n=>u.free b o e n d) (λb o d e=>u.there b o e d) u.ee u.eQ u.fg (λm' L=>by
  obtain⟨o',j,l,h,N⟩:=L;rw[w]at h;cases h
  exact⟨_,j,l,i,N⟩) be hg
def aK.turned(I:aK X d j H s)(k:∀b o,b≠a->s.heap.get? b=ae o->l.get? b=ae o)(w:H a=ah)(i:a≠X.V.locals)
   (h1:a∈X.ex\/X.eB.heap.objs.size<=a) (h2:∀x c,X.V.cells.lookup x=ae c->c≠a) (y:∀p∈X.pn++d,p.1≠a):aK X d j H {s with heap:=l,toks:=t'}:=by
 have h:∀b u,H b=ae u->b≠a:=λb u e z=>by rw[z,w]at e;cases e
 refine I.step (ch:=[a]) (λb B=>?_) (λb o f f g e f=>k b o (λz=>g (by simp[z])) e) (λb o f f g e f=>⟨o.slots,k b o (λz=>g (by simp[z])) e⟩) (λf f f f n=>n)
   (λb o g e=>⟨o,k b o (λz=>g (by simp[z])) e⟩) (λf f e=>e) (λf f f e=>e) (λb O e=>⟨#[],by rw[e];simp⟩) (λm E=>?_) (λb u e=>?_) I.bare
 .have e:b=a:=by simpa using B
  subst e;exact⟨h1,i,h2,y⟩
 .obtain⟨o,J,L,N,r⟩:=E;exact⟨o,J,L,k _ o (gM i) N,r⟩
 .refine(I.be b u e).bq (λc v g q=>k c v ?_ q) (λf q=>q) λf f q=>q
  rcases g with z|z
  .rw[z];exact h b u e
  .exact h c _ z
def aK.tok(I:aK X a c H s)(t):aK X a c H {s with toks:=t}:=I.un Un.refl I.be
def aK.kept(I:aK X a c H s)(k:∀b u,s.heap.get? b=ae u->d.get? b=ae u):aK X a c H {s with heap:=d,toks:=t'}:=I.un (Un.kept k) (I.be.kept k)
def aK.laid{a:ar}(I:aK X c g H s)(k:∀b u,s.heap.get? b=ae u->e.get? b=ae u)(d:s.heap.objs.size<=a)(new:bC X.P X.w (aQ H a o) e a o):
 aK X c g (aQ H a o) {s with heap:=e,toks:=t'}:=I.un (Un.laid k d (I.be.fresh d)) (I.be.laid k d new)
def aK.write(I:aK X a i H s)(g:oh (H x))(h:e=x\/H e=ae (.aG x))(k:∀b u,b≠e->s.heap.get? b=ae u->d.get? b=ae u)(c:∃u,d.get? e=ae u)
 (new:bC X.P X.w (aQ H x o) d x o):aK X a i (aQ H x o) {s with heap:=d,toks:=j}:=I.un (Un.write g h k c) (I.be.write g h k c new)
def aK.nH(I:aK X c d H s)(h:∀p∈a,s.heap.get? p.1=ae p.2/\H p.1=ah/\p.1≠X.V.locals/\p.1∉X.fs/\∀v,p.2.data≠ .cell v):aK X a d H s:=
 ⟨I.ok,I.os,I.bare,I.aj,I.loc,I.cell,I.free,I.cO,λp e=>(fj.mp e).elim (λz=>I.pin p (o8 _ z)) (h p),I.be,I.len⟩
def Ka{N:List Str}(c:N.Nodup){i j:Nat}(a:N[i]?=ae x)(b:N[j]?=ae x):i=j:=by
 obtain⟨d,e1⟩:=iZ.mp a;obtain⟨e,e2⟩:=iZ.mp b;exact(List.getElem_inj c).mp (e1.trans e2.symm)
def Ve(I:aK X Y σ H s)(hN:X.N.Nodup)(hi:X.N[i]?=ae x)(w:Loc X.V.scope x)(r:aR v u)
   (h:∀s',aK X Y (σ.set i (ae v)) H s'->(∃a,iw a s.heap s'.heap/\(a=X.V.locals\/X.V.cells.lookup x=ae a))->Q () s') (hf:Vk X x:=by first|exact .inl aa|exact .inr aa|assumption):wpAny M A (storeName X.V x u) Q E s:=by
 obtain⟨m,hn,hl⟩:=id I.loc;have GN:(X.V.scope.kind==.class||(X.V.scope.kind==.module&&X.V.locals !=X.V.globals))=ag:=by rw[I.ok.kind];rfl
 have J:i<σ.length:=by rw[I.len];exact(iZ.mp hi).1
 have pw:=I.pw
 have l:∀{a:ar}{U:Heap},(∃o,s.heap.get? a=ae o/\H a=ah)->iw a s.heap U->eA X.P X.w H U:=λ{a U} ha g b ob e=>by
   obtain⟨_,_,B⟩:=ha;refine(I.be b ob e).bq (λc w' hc q=>(g.2 c ?_).trans q) (λf q=>q) λf f q=>q
   rintro rfl;rcases hc with rfl|hc
   .rw[B]at e;cases e
   .rw[B]at hc;cases hc
 rcases w with hk|hk
 .refine wpAny_storeName_local hk hn (λU Tt g=>?_) GN;obtain⟨oL,_,_,Tu,_⟩:=id hn;refine h _ ⟨I.ok,I.os,I.bare,⟨λb o e n L w=>?_,λb o e n L w=>?_,I.aj.free,λb o e w=>?_,I.aj.ee,I.aj.eQ,I.aj.fg⟩,⟨_,Tt,λj y v' e1 e2 e3=>?_⟩,λy c e=>?_,I.free,I.cO,λp hp=>?_,l ⟨oL,Tu,I.free⟩ g,by simpa using I.len⟩ ⟨_,g,.inl aa⟩
  .exact(g.2 b (di (dZ (b7 e) I.ok.above))).trans (I.aj.keep b o e n L w)
  .obtain⟨sl,e1⟩:=I.aj.slot b o e n L w;exact⟨sl,(g.2 b (di (dZ (b7 e) I.ok.above))).trans e1⟩
  .obtain⟨o',e1⟩:=I.aj.there b o e w;exact⟨o',(g.2 b (di (dZ (b7 e) I.ok.above))).trans e1⟩
  .by_cases N:j=i
   .subst N;rw[hi]at e1;cases e1;rw[oj J]at e2;cases e2;exact⟨u,r,.inl ⟨hk,by simp⟩⟩
   .rw[rE (gM N)]at e2;obtain⟨u',r',q⟩:=hl j y v' e1 e2 e3;refine⟨u',r',?_⟩;rcases q with⟨k,e⟩|⟨k,c,e,z⟩
    .refine .inl ⟨k,?_⟩;have:y≠x:=λe=>N (Ka hN e1 (e▸hi))
     simp[this,e]
    .exact .inr ⟨k,c,e,z.sameBut g (pw y c e)⟩
  .obtain⟨w',z⟩:=I.cell y c e;exact⟨w',z.sameBut g (pw y c e)⟩
  .obtain⟨e,n,ne,nf,d⟩:=I.pin p hp;exact⟨(g.2 p.1 ne).trans e,n,ne,nf,d⟩
 .have O:X.fn x=af:=by
    rcases hf with z|z
    .exact z
    .rw[z]at hk;cases hk
  obtain⟨c,hc⟩:=I.ok.has x (.inl hk);obtain⟨w',z⟩:=I.cell x c hc;refine wpAny_storeName_cell I.ok.kind hk hc z (λU Bg g=>?_);obtain⟨oc,M7,GO⟩:=id z;refine h {s with heap:=U} ⟨I.ok,I.os,I.bare,⟨λb o e n L w=>?_,λb o e n L w=>?_,I.aj.free,λb o e w=>?_,I.aj.ee,I.aj.eQ,I.aj.fg⟩,⟨m,hn.sameBut g (gM (pw x c hc)),λj y v' e1 e2 e3=>?_⟩,λy c' e=>?_,I.free,I.cO,λp hp=>?_,l ⟨oc,M7,I.cO x c hc⟩ g,by simpa using I.len⟩ ⟨c,g,.inr hc⟩
  .exact(g.2 b (di (dZ (b7 e) (I.ok.sj x c O hc)))).trans (I.aj.keep b o e n L w)
  .obtain⟨sl,e1⟩:=I.aj.slot b o e n L w;exact⟨sl,(g.2 b (di (dZ (b7 e) (I.ok.sj x c O hc)))).trans e1⟩
  .obtain⟨o',e1⟩:=I.aj.there b o e w;exact⟨o',(g.2 b (di (dZ (b7 e) (I.ok.sj x c O hc)))).trans e1⟩
  .by_cases N:j=i
   .subst N;rw[hi]at e1;cases e1;rw[oj J]at e2;cases e2;exact⟨u,r,.inr ⟨.inl hk,c,hc,Bg⟩⟩
   .rw[rE (gM N)]at e2;obtain⟨u',r',q⟩:=hl j y v' e1 e2 e3;refine⟨u',r',?_⟩;rcases q with q|⟨k,c',e,z'⟩
    .exact .inl q
    .refine .inr ⟨k,c',e,z'.sameBut g ?_⟩;rintro rfl;exact N (Ka hN e1 (I.ok.inj _ _ _ e hc▸hi))
  .by_cases M8:c'=c
   .subst M8;exact⟨_,Bg⟩
   .obtain⟨w2,z2⟩:=I.cell y c' e;exact⟨w2,z2.sameBut g M8⟩
  .obtain⟨e,n,ne,nf,d⟩:=I.pin p hp;refine⟨(g.2 p.1 ?_).trans e,n,ne,nf,d⟩;intro q;rw[q,M7]at e;have q':=i3 e;exact d w' (by rw[<-q'];exact GO)
def ZV(I:aK X a d H s)(e:X.N.Nodup)(g:X.N[i]?=ae x)(j:Loc X.V.scope x)(r:aR v u)
  (h:∀c,aK X a (d.set i (ae v)) H c->Q () c) (l:Vk X x:=by first|exact .inl aa|exact .inr aa|assumption):wpAny M A (storeName X.V x u) Q E s:=
 Ve I e g j r (λc m y=>h c m) l
def aK.lY(I:aK X a h H s)(i:s'.os=s.os)(u:Un (eD X.stack) j H g s.heap s'.heap)(be:eA X.P X.w g s'.heap)(hg:rD s'.gens)
  (d:∀b∈j,(b∈X.ex\/X.eB.heap.objs.size<=b)/\b≠X.V.locals/\(∀x c,X.V.cells.lookup x=ae c->c≠b)/\∀p∈X.pn++a,p.1≠b):aK X a h g s':=by
 obtain⟨l,m,n,o,q⟩:=s';have e:=i;subst e;exact I.call u be hg d
end
abbrev XK:=aJ->Option ar->Hp->Prop
abbrev St:=List (Option V)
abbrev VK:=V->Hp->Prop
abbrev TE:=St->Hp->VK->Prop
abbrev TT:=St->Hp->(Bool->Hp->Prop)->Prop
abbrev TA:=St->Hp->(List V->Hp->Prop)->Prop
structure Ends where
 nx:St->Hp->Prop
 rt:VK
 bk:St->Hp->Prop:=λx x=>False
 ct:St->Hp->Prop:=λx x=>False
abbrev TS:=Ends->St->Hp->Prop
def EP(X:Cx)(a:List (ar×Obj))(d:St)(Q:VK)(u:aJ)(e:bT):Prop:=∃v c,aK X a d c e/\aR v u/\Q v c
def TP(X:Cx)(a:List (ar×Obj))(d:St)(Q:Bool->Hp->Prop)(b:Bool)(e:bT):Prop:=∃c,aK X a d c e/\Q b c
def AP(X:Cx)(a:List (ar×Obj))(e:St)(Q:List V->Hp->Prop)(g:List aJ)(h:bT):Prop:=∃c d,aK X a e d h/\aW c g/\Q c d
def SP(X:Cx)(c:List (ar×Obj))(D:Ends)(f:Flow)(e:bT):Prop:=
 match f with
 |.next=>∃a d,aK X c a d e/\D.nx a d
 |.brk=>∃a d,aK X c a d e/\D.bk a d
 |.cont=>∃a d,aK X c a d e/\D.ct a d
 |.ret u=>∃v a d,aK X c a d e/\aR v u/\D.rt v d
def PE(X:Cx)(e:Expr)(t:TE):Prop:=
 ∀(a:List (ar×Obj))(s:bT)(c:St)(H:Hp)(Q:VK),aK X a c H s->t c H Q->wpAny (bj X) X.A (eval e X.V) (EP X a c Q) X.xe s
def PT(X:Cx)(e:Expr)(t:TT):Prop:=
 ∀(a:List (ar×Obj))(s:bT)(c:St)(H:Hp)(Q:Bool->Hp->Prop),aK X a c H s->t c H Q->wpAny (bj X) X.A (isTrue e X.V (eval e X.V)) (TP X a c Q) X.xe s
def PW(X:Cx)(e:Expr)(t:TT):Prop:=
 ∀(whole:Sem aJ)(a:List (ar×Obj))(s:bT)(c:St)(H:Hp)(Q:Bool->Hp->Prop),aK X a c H s->t c H Q->wpAny (bj X) X.A (isTrue e X.V whole) (TP X a c Q) X.xe s
def PW.pt(h:PW X e t):PT X e t:=h _
def PA(X:Cx)(e:List Expr)(t:TA):Prop:=
 ∀(c:Pos)(a:List (ar×Obj))(s:bT)(d:St)(H:Hp)(Q:List V->Hp->Prop),aK X a d H s->t d H Q->wpAny (bj X) X.A (spliced (fh c (bx e X.V))) (AP X a d Q) X.xe s
def PS(X:Cx)(st:Stmt)(t:TS):Prop:=
 ∀(a:List (ar×Obj))(s:bT)(c:St)(H:Hp)(D:Ends),aK X a c H s->t D c H->wpAny (bj X) X.A (exec st X.V) (SP X a D) X.xe s
def eh(X:Cx)(st:List Stmt)(t:TS):Prop:=
 ∀(a:List (ar×Obj))(s:bT)(c:St)(H:Hp)(D:Ends),aK X a c H s->t D c H->wpAny (bj X) X.A (execs st X.V) (SP X a D) X.xe s
def bE{t:Sem e}{Q c}(h:wpAny M A t Q E s)(d:∀a s,Q a s->c a s):wpAny M A t c E s:=lU h d λy y x=>x
section
def sk(i:Nat):TE:=λa H Q=>∃v,a[i]?=ae (ae v)/\Q v H
def tC(v:V):TE:=λx H Q=>Q v H
def zC(p:X.N[i]?=ae x)(q:gj X.V.scope x)(j:YG x:=by decide)(n:YF x:=by decide):PE X (.Name x w) (sk i):=by
 intro g s y H Q I h;obtain⟨v,e,h⟩:=h;obtain⟨m,z,B⟩:=I.loc;obtain⟨u,r,l⟩:=B i x v p e q;have d:EP X g y Q u s:=⟨v,H,I,r,h⟩
 rcases l with⟨hk,E⟩|⟨hk,c,o,a⟩
 .exact wpAny_Name (wpAny_loadName_local I.ok.kind hk z E d) j
 .rcases hk with hk|hk
  .exact wpAny_Name (wpAny_loadName_cell I.ok.kind hk o a d) j
  .exact wpAny_Name (wpAny_loadName_free I.ok.kind hk o a d n) j
def Tv:PE X (.Constant (.int i) j a) (tC (.int i)):=λx x x H x I h=>wpAny_Constant_int ⟨.int i,H,I.tok _,⟨_,rfl⟩,h⟩
def M9:PE X (.Constant (.bool b) j a) (tC (.bl b)):=λx x x H x I h=>Constant_bool ⟨.bl b,H,I,rfl,h⟩
def Tw:PE X (.Constant .none j a) (tC .bo):=λx x x H x I h=>Constant_none ⟨.bo,H,I,rfl,h⟩
def Tx:PE X (.Constant (.str x) j a) (tC (.str x)):=λy y y H y I h=>Calls.Constant_str ⟨.str x,H,I.tok _,⟨_,rfl⟩,h⟩
def Gl(X:Cx)(x:Str):Prop:=X.V.kindOf x=ae .globalImplicit
def Zk{c:St}(I:aK X a c H s)(d:Gl X x)(e:X.mg x=ae u)(h:Q u s)
  (g:YG x:=by decide):wpAny (bj X) X.A (eval (.Name x i) X.V) Q E s:=
 Calls.Name_function_global I.ok.kind d (Calls.loadGlobal_global (by rw[I.ok.glob];exact I.mod.glob.keeps I.bk) e h) g
def ZD{c:St}(I:aK X a c H s)(d:Gl X x)(e:X.mg x=ah)(g:lW x=ae u)(h:Q u s)
  (i:x≠ "__name__" :=by decide) (j:YG x:=by decide):wpAny (bj X) X.A (eval (.Name x l) X.V) Q E s:=by
 obtain⟨o,m,n⟩:=I.mod.blt;exact Calls.Name_function_global I.ok.kind d (Calls.loadGlobal_builtin (by rw[I.ok.glob];exact I.mod.glob.keeps I.bk) e (by rw[I.ok.blt];exact m.keeps I.bk) ((n x i).trans g) h) j
def YR(a:Gl X x)(c:X.mg x=ae u)(r:aR v u)(d:YG x:=by decide):PE X (.Name x e) (tC v):=
 λy y y H y I h=>Zk I a c ⟨v,H,I,r,h⟩ d
def Na(a:Gl X x)(c:X.mg x=ah)(d:lW x=ae u)(r:aR v u)(e:x≠ "__name__" :=by decide)(g:YG x:=by decide):PE X (.Name x i) (tC v):=
 λy y y H y I h=>ZD I a c d ⟨v,H,I,r,h⟩ e g
def tB(t:TE):TT:=λa H Q=>t a H λx d=>∃c,x=.bl c/\Q c d
def Tz(h:PE X e t)(g:∀whole,isTrue e X.V whole=(do let v<-whole;rF e.pos;mS [v] (truthy v)):=by intro _;rfl):PT X e (tB t):=by
 intro a s i H Q I hw;refine isTrue_plain (bE (h a s i H _ I hw) λv o c=>?_) (g _);obtain⟨x,j,l,m,n⟩:=c;obtain⟨d,rfl,q⟩:=n;cases m;exact pz ⟨j,l,q⟩
variable{rest:List Expr}
def GP(t u:TT):TT:=λa H Q=>t a H λc d=>if c=af then u a d Q else Q ag d
def TB(t u:TT):TT:=λa H Q=>t a H λc d=>if c=af then Q af d else u a d Q
def GQ(t:TT):TT:=λa H Q=>t a H λc d=>Q (!c) d
def TC(g:PT X a tA):PW X (.BoolOp .And [a] i) tA:=by
 intro l d s j H Q I h;refine isTrue_and (bE (g d s j H Q I h) λc m e=>?_)
 cases c with
 |true=>exact isTrue_and_nil e
 |false=>exact e
def TD(g:PT X a tA):PW X (.BoolOp .Or [a] i) tA:=by
 intro l d s j H Q I h;refine isTrue_or (bE (g d s j H Q I h) λc m e=>?_)
 cases c with
 |false=>exact isTrue_or_nil e
 |true=>exact e
def TF(n:PT X a tA)(o:PW X (.BoolOp .And (b::rest) e) g):PW X (.BoolOp .And (a::b::rest) e) (GP tA g):=by
 intro p d s i H Q I h;refine isTrue_and (bE (n d s i H _ I h) ?_);rintro c q ⟨j,l,m⟩
 cases c with
 |true=>exact o p d q i j Q l m
 |false=>exact⟨j,l,m⟩
def TH(n:PT X a tA)(o:PW X (.BoolOp .Or (b::rest) e) g):PW X (.BoolOp .Or (a::b::rest) e) (TB tA g):=by
 intro p d s i H Q I h;refine isTrue_or (bE (n d s i H _ I h) ?_);rintro c q ⟨j,l,m⟩
 cases c with
 |true=>exact⟨j,l,m⟩
 |false=>exact o p d q i j Q l m
def TJ(e:PT X a tA):PT X (.UnaryOp .Not a g) (GQ tA):=by
 intro d s i H Q I h;exact isTrue_not (e d s i H (λc j=>Q (!c) j) I h)
def TL(e g:TE):TE:=λa H Q=>e a H λx d=>∃c,x=.bl c/\if c=af then g a d Q else Q (.bl ag) d
def TM(a:TE):TE:=λd H Q=>a d H λx e=>∃c,x=.bl c/\Q (.bl (!c)) e
def TN(h:PE X a t):PE X (.BoolOp g [a] d) t:=λc s e H Q I hw=>BoolOp_one (h c s e H Q I hw)
def TQ(m:PE X a n)(o:PE X (.BoolOp .And (b::rest) g) p):PE X (.BoolOp .And (a::b::rest) g) (TL n p):=by
 intro d s i H Q I h;refine BoolOp_and (bE (m d s i H _ I h) ?_);rintro v q ⟨x,j,l,r,e⟩;obtain⟨c,rfl,e⟩:=e;cases r;refine pz ?_
 cases c with
 |true=>exact o d q i j Q l e
 |false=>exact⟨.bl ag,j,l,rfl,e⟩
def TR(g:PE X a i):PE X (.UnaryOp .Not a j) (TM i):=by
 intro d s l H Q I h;refine UnaryOp_ (bE (g d s l H _ I h) ?_);rintro v p ⟨x,m,n,o,e⟩;obtain⟨c,rfl,e⟩:=e;cases o;exact not_of (pz ⟨.bl (!c),m,n,rfl,e⟩)
def TU(t:TT)(e g:TE):TE:=λa H Q=>t a H λc d=>if c=af then e a d Q else g a d Q
def TV(n:PT X c tA)(o:PE X a p)(q:PE X b r):PE X (.IfExp c a b u) (TU tA p r):=by
 intro e s g H Q I h;refine wpAny_IfExp (bE (n e s g H _ I h) ?_);rintro d i ⟨j,l,m⟩
 cases d with
 |true=>exact o e i g j Q l m
 |false=>exact q e i g j Q l m
end
def df(e:bK)(H:Hp)(a:ar)(d:List V):Prop:=
 Rd H a (.al d)\/
  ∃(o:Obj)(c:Array aJ)(n:Nat),e.lookup a=ae o/\o.cls=.type "list" /\o.dict=ah/\o.data=.seq c n/\c.size<=ba/\aW d c.toList
def gO(e:bK)(H:Hp)(a:ar)(d:List V):Prop:=
 Rd H a (.ap d)\/
  ∃(o:Obj)(c:Array aJ)(n:Nat),e.lookup a=ae o/\o.cls=.type "tuple" /\o.data=.seq c n/\c.size<=ba/\aW d c.toList
def GR:aJ->Option V
 |.none=>ae .bo
 |.bool b=>ae (.bl b)
 |.int i _=>ae (.int i)
 |.str x _=>ae (.str x)
 |.bytes b _=>ae (.Be b)
 |.float b _=>ae (.se b)
 |.ref a=>ae (.ref a)
 |.type n=>ae (.ty n)
 |_=>ah
def aR.abs(r:aR x u):GR u=ae x:=by
 cases x with
 |bo|bl _=>cases r;rfl
 |int _|str _|Be _|se _=>obtain⟨t,rfl⟩:=r;rfl
 |ref _|ty _=>cases r;rfl
def aR.inj(r:aR x u)(q:aR y u):x=y:=i3 (r.abs.symm.trans q.abs)
def aW.inj:∀{d c}{e},aW d e->aW c e->d=c:=by
 intro _ _ _ r a
 induction r generalizing c with
 |nil=>cases a;rfl
 |cons r _ g=>
  cases a with
  |cons a t=>rw[r.inj a,g t]
section
variable{Y:St}
def df.of(h:H a=ae (.al c)):df d H a c:=.inl (.inl h)
def gO.of(h:H a=ae (.ap c)):gO d H a c:=.inl (.inl h)
def aK.list(I:aK X d Y H s)(h:df X.K H a g):∃c,aW g c/\PlainL s.heap a c.toArray/\g.length<=ba:=by
 rcases h with h|⟨o,c,n,hk,i,hd,j,hz,r⟩
 .obtain⟨z,c,n,r,e⟩:=h.ok I.be;exact⟨c,r,⟨_,n,e,rfl,rfl,rfl⟩,z⟩
 .refine⟨c.toList,r,⟨o,n,I.fP a o hk,i,hd,by simpa using j⟩,?_⟩;have e:=r.length
  simp_all
def aK.tuple(I:aK X d Y H s)(h:gO X.K H a g):∃c,aW g c/\IsTup s.heap a c.toArray/\g.length<=ba:=by
 rcases h with h|⟨o,c,n,hk,i,j,hz,r⟩
 .obtain⟨z,c,r,p⟩:=h.ok I.be;exact⟨c,r,p,z⟩
 .refine⟨c.toList,r,⟨o,I.fP a o hk,i,n,by simpa using j⟩,?_⟩;have e:=r.length;simp only[gW]at e;omega
def aK.pA(I:aK X i Y H s)(h:df X.K H a m)(p:df X.K H a q):m=q:=by
 obtain⟨g,r,⟨o,n,e,_,_,d⟩,_⟩:=I.list h;obtain⟨c,u,⟨v,w,j,_,_,l⟩,_⟩:=I.list p;rw[e]at j;cases j;rw[d]at l;injection l with y _;have:g=c:=by simp_all
 subst this;exact r.inj u
def aK.om(I:aK X i Y H s)(h:gO X.K H a m)(p:gO X.K H a q):m=q:=by
 obtain⟨g,r,⟨o,e,_,n,d⟩,_⟩:=I.tuple h;obtain⟨c,u,⟨v,j,_,w,l⟩,_⟩:=I.tuple p;rw[e]at j;cases j;rw[d]at l;injection l with y _;have:g=c:=by simp_all
 subst this;exact r.inj u
end
abbrev Cx.iE(X:Cx)(E:Wo):Cx:={X with xe:=E}
abbrev Cx.rG(X:Cx):Cx:=X.iE λx x=>False
def Cx.Ok.iE{X:Cx}(ok:X.Ok)(E):(X.iE E).Ok:=
 ⟨ok.mod,ok.kind,ok.glob,ok.blt,ok.above,ok.inj,ok.has,ok.sj,ok.hd,ok.frames,ok.tf,ok.tj,ok.bs,ok.oi,ok.j2,ok.kb,ok.fG,ok.pv⟩
def Cx.Ok.fm{X:Cx}(ok:(X.iE E).Ok):X.Ok:=
 ⟨ok.mod,ok.kind,ok.glob,ok.blt,ok.above,ok.inj,ok.has,ok.sj,ok.hd,ok.frames,ok.tf,ok.tj,ok.bs,ok.oi,ok.j2,ok.kb,ok.fG,ok.pv⟩
section
variable{Q:St}
def aK.iE(I:aK X a Q H s)(E):aK (X.iE E) a Q H s:=⟨I.ok.iE E,I.os,I.bare,I.aj,I.loc,I.cell,I.free,I.cO,I.pin,I.be,I.len⟩
def aK.fm(I:aK (X.iE E) a Q H s):aK X a Q H s:=⟨I.ok.fm,I.os,I.bare,I.aj,I.loc,I.cell,I.free,I.cO,I.pin,I.be,I.len⟩
def SP.fm(h:SP (X.iE E) d D f e):SP X d D f e:=by
 cases f with
 |next|brk|cont=>obtain⟨a,c,I,q⟩:=h;exact⟨a,c,I.fm,q⟩
 |ret u=>obtain⟨v,a,c,I,r,q⟩:=h;exact⟨v,a,c,I.fm,r,q⟩
def eh.rG{st}(h:eh X.rG st t):eh X st t:=λa s Q H D I hw=>
 lU (h a s Q H D (I.iE _) hw) (λx x q=>q.fm) λx x z=>mT z
end
section
variable{st:Stmt}{rest:List Stmt}
def T1:TS:=λD a H=>D.nx a H
def GS(t u:TS):TS:=λD a H=>t {D with nx:=u D} a H
def ki:eh X [] T1:=λx x a H x I h=>Cf ⟨a,H,I,h⟩
def y7(d:PS X st t)(e:eh X rest u):eh X (st::rest) (GS t u):=by
 intro a s g H D I h;refine wpAny_execs_cons (bE (d a s g H {D with nx:=u D} I h) λf i q=>?_)
 cases f with
 |next=>
  obtain⟨c,j,l,q⟩:=q;exact e a i c j D l q
 |ret _|brk|cont=>exact q
def Wt(c:PS X st t):eh X [st] t:=by
 intro a s d H D I h;refine wpAny_execs_cons (bE (c a s d H D I h) λf e q=>?_)
 cases f with
 |next=>exact Cf q
 |ret _|brk|cont=>exact q
def aK.quiet{c:St}(I:aK X a c H s):interactive X.V=ag:=by simp[interactive,I.ok.kind]
def T8(c:TE):TS:=λD a H=>c a H λx d=>D.nx a d
def Zg(g:PE X e i)(j:kw e ah c.line X.V=pure ag:=by rfl):PS X (.Expr e c) (T8 i):=by
 intro a s d H D I h;exact wpAny_Expr_any (bE (g a s d H _ I h)<|by rintro v o ⟨x,l,m,p,n⟩;exact⟨d,l,m,n⟩) I.quiet j
def GU(a:TE):TS:=λD c H=>a c H D.rt
def GV(d:PE X e g):PS X (.Return (ae e) i) (GU g):=by
 intro a s c H D I h;exact wpAny_Return_some (bE (d a s c H _ I h)<|by rintro v o ⟨x,j,l,m,n⟩;exact⟨x,c,j,l,m,n⟩)
def GW(c:TT)(t u:TS):TS:=λD a H=>c a H λb d=>if b=af then t D a d else u D a d
def GX(n:PT X c o)(p:eh X a t)(q:eh X b u):PS X (.If c a b r) (GW o t u):=by
 intro e s g H D I h;refine wpAny_If (bE (n e s g H _ I h) ?_);rintro d i ⟨j,l,m⟩
 cases d with
 |true=>exact p e i g j D l m
 |false=>exact q e i g j D l m
end
abbrev TG:=V->St->Hp->(St->Hp->Prop)->Prop
abbrev Cg:=List V->St->Hp->(St->Hp->Prop)->Prop
def PG(X:Cx)(a:Expr)(t:TG):Prop:=
 ∀(c:List (ar×Obj))(s:bT)(e:St)(H:Hp)(v:V)(u:aJ)(Q:St->Hp->Prop),aK X c e H s->aR v u->t v e H Q->
  wpAny (bj X) X.A (oo a X.V u) (λx h=>∃d g,aK X c d g h/\Q d g) X.xe s
def EQ(X:Cx)(i:List Expr)(t:Cg):Prop:=
 ∀(a:List (ar×Obj))(s:bT)(d:St)(H:Hp)(e:List V)(g:List aJ)(Q:St->Hp->Prop),aK X a d H s->aW e g->t e d H Q->
  wpAny (bj X) X.A (assignInOrder ((i4 i X.V).map (·.2)) g) (λx j=>∃c h,aK X a c h j/\Q c h) X.xe s
abbrev Ch:=V->V->V->Hp->(Hp->Prop)->Prop
def Ci(X:Cx)(t:Ch):Prop:=
 ∀(a:List (ar×Obj))(s:bT)(c:St)(H:Hp)(o i v:V)(ov d u:aJ)(Q:Hp->Prop),aK X a c H s->aR o ov->aR i d->aR v u->t o i v H Q->
  wpAny (bj X) X.A (setItem ov d u) (λx g=>∃e,aK X a c e g/\Q e) X.xe s
abbrev GY:=V->V->Hp->VK->Prop
def GZ(X:Cx)(d:Operator)(t:GY):Prop:=
 ∀(a:List (ar×Obj))(s:bT)(c:St)(H:Hp)(x y:V)(v u:aJ)(Q:VK),aK X a c H s->aR x v->aR y u->t x y H Q->
  wpAny (bj X) X.A (inplaceOp d v u) (EP X a c Q) X.xe s
section
def Nb(i:Nat):TG:=λv a H Q=>Q (a.set i (ae v)) H
def kq(c:X.N.Nodup)(d:X.N[i]?=ae x)(e:Loc X.V.scope x)(g:Vk X x:=by first|exact .inl aa|exact .inr aa|assumption):PG X (.Name x j) (Nb i):=by
 intro a s m H v u Q I r h;exact wpAny_assign_Name (ZV I c d e r (λn l=>⟨_,H,l,h⟩) g)
def G0:Cg:=λa c H Q=>a=[]/\Q c H
def UQ(t:TG)(u:Cg):Cg:=λc d H Q=>∃v r,c=v::r/\t v d H λa e=>u r a e Q
def Nc:EQ X [] G0:=by
 intro a s c H d g Q I r h;obtain⟨e,h⟩:=h;subst e;cases r;exact assignInOrder_nil ⟨c,H,I,h⟩
def ZX(i:PG X e t)(j:EQ X c u)
  (l:(i4 (e::c) X.V).map (·.2)=oo e X.V::(i4 c X.V).map (·.2):=by rfl):EQ X (e::c) (UQ t u):=by
 intro a s m H y z Q I r h;obtain⟨v,B,e1,h⟩:=h;subst e1
 cases r with
 |cons r n=>
  rw[l];refine assignInOrder_cons (bE (i a s m H _ _ _ I r h) λx o d=>?_);obtain⟨g,p,q,w⟩:=d;exact j a o g p _ _ Q q n w
def G1(d:bK)(n:Nat)(t:Cg):TG:=λv e H Q=>∃a c,v=.ref a/\gO d H a c/\c.length=n/\t c e H Q
def Nd(i:X.bU=af)(h:EQ X d t)
  (j:(i4 d X.V).length=n:=by rfl) (g:(i4 d X.V).findIdx? (·.1)=ah:=by rfl):PG X (.Tuple d k l) (G1 X.K n t):=by
 intro c s m H v u Q I r hw;obtain⟨a,p,e1,q,w,hw⟩:=hw;subst e1;cases r;obtain⟨y,z,B,J⟩:=I.tuple q;refine assign_Tuple_tuple (I.ok.hd i) B (by simp[j,<-w,z.length]) g λL E=>?_
 exact h c _ m H p _ Q (I.kept λb o e=>E b o (di (b7 e)) e) bg hw
def G2(c d:TE)(t:Ch):TG:=λv a H Q=>c a H λo e=>d a e λi g=>t o i v g λh=>Q a h
def UR(g:PE X o j)(l:PE X i m)(n:Ci X t)
  (p:∀v,oo (.Subscript o i c) X.V v=(do
   let ov<-mS [v] (eval o X.V)
   let d<-mS [v,ov] (eval i X.V)
   rF c
   mS [v,ov,d] (setItem ov d v)
   release [v,ov,d] []):=by intro _;rfl):PG X (.Subscript o i c) (G2 j m t):=by
 intro a s e H v u Q I r h;rw[p];refine ax (gk (bE (g a s e H _ I h) ?_));rintro ov q ⟨x,w,z,B,E⟩;refine ax (gk (bE (l a q e w _ z E) ?_));rintro d J ⟨y,L,N,O,U⟩;refine ax (wpAny_standAt (ax (gk (bE (n a J e L x y v ov d u _ N B O r U) ?_))));rintro _ s3 ⟨Y,I3,q3⟩;exact wpAny_release ⟨e,Y,I3,q3⟩
def Cj(c:TE)(g:TG):TS:=λD a H=>c a H λx d=>g x a d D.nx
def Nf(l:PE X e m)(n:PG X c g)(o:swapsWithSole [c] e d.line X.V=pure ag:=by rfl)(hw:swappedStores [c] e X.V=pure ah:=by rfl)
  (p:(i4 [c] X.V).map (·.2)=[oo c X.V]:=by rfl):PS X (.Assign [c] e d) (Cj m g):=by
 intro a s j H D I h;refine wpAny_Assign_stores (bE (l a s j H _ I h) λv r i=>?_) o hw;obtain⟨x,u,w,y,z⟩:=i;rw[p];exact bE (n a r j u x v _ w y z) λb B q=>q
def G3(j:X.N.Nodup)(l:X.N[i]?=ae x)(m:Loc X.V.scope x)(n:PE X e o)(p:kw e (ae (.Name x a)) d.line X.V=pure ag:=by rfl)(q:Vk X x:=by first|exact .inl aa|exact .inr aa|assumption):
  PS X (.Assign [.Name x a] e d) (Cj o (Nb i)):=by
 intro c s r H D I h;refine wpAny_Assign_Name (bE (n c s r H _ I h) λv J g=>?_) p;obtain⟨y,u,w,z,B⟩:=g;exact ZV w j l m z (λL E=>⟨_,u,E,B⟩) q
def G4(i:Nat)(c:TE)(d:GY):TS:=λD a H=>∃x,a[i]?=ae (ae x)/\c a H λy e=>d x y e λz g=>D.nx (a.set i (ae z)) g
theorem US(J:X.N.Nodup)(p:X.N[i]?=ae x)(n:Loc X.V.scope x)(L:PE X e N)(O:GZ X q Q)(U:Vk X x:=by first|exact .inl aa|exact .inr aa|assumption):
   PS X (.AugAssign (.Name x B) q e Y) (G4 i N Q):=by
 intro a s E H D I h;obtain⟨v,e1,h⟩:=h;obtain⟨m,hn,hl⟩:=I.loc;have o:gj X.V.scope x:=by rcases n with k|k;exact .inl k;exact .inr (.inl k)
 obtain⟨u,r,l⟩:=hl i x v p e1 o;refine wpAny_AugAssign_Name ?_
 have go:wpAny (bj X) X.A (eval e X.V) (λw g=>wpAny (bj X) X.A (inplaceOp q u w) (λr j=>wpAny (bj X) X.A (storeName X.V x r) (λb=>SP X a D .next) X.xe j) X.xe g) X.xe s:=by
   refine bE (L a s E H _ I h) ?_;rintro w s1 ⟨y,H1,I1,r1,q1⟩;refine bE (O a s1 E H1 v y u w _ I1 r r1 q1) ?_;rintro z s2 ⟨zv,H2,I2,r2,q2⟩;exact ZV I2 J p n r2 (λs3 I3=>⟨_,H2,I3,q2⟩) U
 rcases l with⟨hk,hm⟩|⟨hk,c,hc,d⟩
 .exact wpAny_loadName_local I.ok.kind hk hn hm go
 .rcases hk with hk|hk
  .exact wpAny_loadName_cell I.ok.kind hk hc d go
  .rcases n with k|k
   .have:X.V.scope.names.lookup x=ae .free:=hk
    simp_all
   .have:X.V.scope.names.lookup x=ae .free:=hk
    simp_all
def Ng(f:Int->Int->Int):GY:=λx y H Q=>∃i j,x=.int i/\y=.int j/\Q (.int (f i j)) H
def Nh:GZ X .Add (Ng λi j=>i+j):=by
 intro a s e H x y v u Q I c d h;obtain⟨i,j,e1,e2,q⟩:=h;subst e1;subst e2;obtain⟨t,rfl⟩:=c;obtain⟨g,rfl⟩:=d;exact iadd_int ⟨.int _,H,I.tok _,⟨_,rfl⟩,q⟩
end
section
def UT(c:TT)(i:TS):TS:=λD a H=>∃W:Nat->St->Hp->Prop,(∃m,W m a H)/\∀m a H,W m a H->
 c a H λb e=>if b=af then∃N:St->Hp->Prop,(∀d g,N d g->∃h,h<m/\W h d g)/\i {D with nx:=N,ct:=N,bk:=D.nx} a e else D.nx a e
def UU(y:vF (bj X) X.A X.V X.xe)(O:PT X c Q)(U:eh X g Y):PS X (.While c g [] pos) (UT Q Y):=by
 intro a s σ H D I h;obtain⟨W,⟨m0,w0⟩,i⟩:=h;refine wpAny_While (codeAny_whileLoop (λn s'=>∃j z,aK X a j z s'/\W n j z) ?_ m0 ⟨σ,H,I,w0⟩);rintro n s1 ⟨e,B,I1,w1⟩;refine vG y (bE (O a s1 e B _ I1 (i n e B w1)) ?_);rintro b s2 ⟨E,J,m⟩
 cases b with
 |true=>
  obtain⟨N,L,m⟩:=m;refine vG y (bE (U a s2 e E _ J m) λf s3 o=>?_)
  cases f with
  |next=>
   obtain⟨d,l,p,q⟩:=o;obtain⟨r,u,w⟩:=L d l q;exact⟨r,u,d,l,p,w⟩
  |cont=>
   obtain⟨d,l,p,q⟩:=o;obtain⟨r,u,w⟩:=L d l q;exact⟨r,u,d,l,p,w⟩
  |brk|ret _=>exact o
 |false=>
  exact Cf ⟨e,E,J,m⟩
end
structure It where
 go:Nat->Hp->Prop
 ER:Nat->Hp->V->Hp->Prop
 stop:Nat->Hp->Prop
def eE(X:Cx)(a:List (ar×Obj))(H:Hp)(b:ar):Prop:=
 H b=ah/\b≠X.V.locals/\b∉X.fs/\(b∈X.ex\/X.eB.heap.objs.size<=b)/\(∀x c,X.V.cells.lookup x=ae c->c≠b)/\∀p∈X.pn++a,p.1≠b
def aK.fZ{g:St}{b:ar}(I:aK X a g H s)(d:s.heap.objs.size<=b)(h:i b=ah):eE X a i b:=by
 refine⟨h,oq (dZ I.lt d),I.GL d,.inr (cn I.sz d),λx c e z=>?_,λp j z=>?_⟩
 .obtain⟨v,q⟩:=I.cell x c e;exact absurd (dZ q.lt aZ) (rC _)
 .exact absurd (dZ (b7 (I.pin p j).1) aZ) (rC _)
structure Turn(P:fW)(w:World)(κ:bK)(tg:Expr)(J:It)(fp:List ar)(it:ar)(tn:Nat->Heap->Prop):Prop where
 mem:it∈fp
 obj:∀i h,tn i h->∀b∈fp,∃o,h.get? b=ae o/\∀v,o.data≠ .cell v
 keep:∀i h h',tn i h->(∀b∈fp,∀o,h.get? b=ae o->h'.get? b=ae o)->tn i h'
 item:∀(X:Cx),X.P=P->X.w=w->X.K=κ->X.bU=af->∀(i:Nat)(pins:List (ar×Obj))(s:bT)(σ:St)(H:Hp)(E:Wo),aK X pins σ H s->(∀b∈fp,eE X pins H b)->tn i s.heap->J.go i H->
  wpAny (aN P w) X.A (pyNext (.ref it)) (λr s1=>∃u,r=ae u/\
   wpAny (aN P w) X.A (letOwnedTupleGo tg (.ref it) u) (λy s2=>∃x H',aK X pins σ H' s2/\aR x u/\J.ER i H x H'/\tn (i+1) s2.heap/\∀b∈fp,H' b=ah) E s1) E s
 done:∀(X:Cx),X.P=P->X.w=w->X.K=κ->X.bU=af->∀(i:Nat)(pins:List (ar×Obj))(s:bT)(σ:St)(H:Hp)(E:Wo),aK X pins σ H s->(∀b∈fp,eE X pins H b)->tn i s.heap->J.stop i H->
  wpAny (aN P w) X.A (pyNext (.ref it)) (λr s1=>r=ah/\aK X pins σ H s1) E s
 self:∀(A:hJ)(i:Nat)(s:bT)(Q:Wo)(E:Wo),tn i s.heap->Q (.ref it) s->wpAny (aN P w) A (pyIter (.ref it)) Q E s
abbrev TI:=St->Hp->(It->Hp->Prop)->Prop
def G5(X:Cx)(a:List (ar×Obj))(j:St)(l:Expr)(R:It->Hp->Prop)(c:aJ)(e:bT):Prop:=
 ∃(g:ar)(h:List ar)(i:Nat->Heap->Prop)(J:It)(d:Hp),c=.ref g/\aK X a j d e/\Turn X.P X.w X.K l J h g i/\i 0 e.heap/\(∀b∈h,eE X a d b)/\R J d
def PI(X:Cx)(d iter:Expr)(e:TI):Prop:=
 ∀(a:List (ar×Obj))(s:bT)(c:St)(H:Hp)(R:It->Hp->Prop),aK X a c H s->e c H R->
  wpAny (bj X) X.A (eval iter X.V) (λv g=>wpAny (bj X) X.A (pyIter v) (G5 X a c d R) X.xe g) X.xe s
def Bh(c : s.heap.get? d = ae o)(e : o.cls =.type n)(g : o.data =.fields i)
    (j : ["enumerate", "zip", "dict_itemiterator", "dict_reverseitemiterator", "odict_iterator", "itertools.zip_longest", "itertools.pairwise"].contains n = ag) (a : Q () s) : wpAny M A (letOwnedTupleGo l (.ref d) u) Q E s := by
  cases l <;> first
    | exact aP a
    |(cases u <;> first
        | exact aP a
        |(
          refine ax (wpAny_load c ?_)
          rw[e, g]
          show wpAny M A (if(["enumerate", "zip", "dict_itemiterator", "dict_reverseitemiterator", "odict_iterator", "itertools.zip_longest", "itertools.pairwise"].contains n && i[0]? == ae (lK _)) = af then _ else _) Q E s
          rw[if_neg (by intro h; rw[j, Bool.false_and]at h; cases h)]
          exact aP a))
def Ni(d:bK)(a:ar):It:=
 ⟨λi H=>∃c x,df d H a c/\c[i]?=ae x,λi H x e=>e=H/\∀c,df d H a c->c[i]?=ae x,λi H=>∃c,df d H a c/\c.length<=i⟩
def UV(d:bK)(a:ar):It:=
 ⟨λi H=>∃c x,gO d H a c/\c[i]?=ae x,λi H x e=>e=H/\∀c,gO d H a c->c[i]?=ae x,λi H=>∃c,gO d H a c/\c.length<=i⟩
def ES(lo:Int)(n:Nat):It:=⟨λi y=>i<n,λi H x a=>a=H/\x=.int (lo+i),λi y=>n<=i⟩
def Wh(a g):Turn P w κ tg (Ni κ a) [g] g (λi h=>h.IsListIter g a i) where
 mem:=by simp
 obj:=λi h st b j=>by
  obtain⟨o,e,c,d⟩:=st
  simp_all
 keep:=λi h Y st k=>st.at λo e=>k g aE o e
 item:=by
  intro X r hw v hc i l s σ H E I n st y;subst r hw v;obtain⟨xs,x,q,z⟩:=y;obtain⟨B,J,p,hz⟩:=I.list q;obtain⟨u,hu,ru⟩:=J.get z;obtain⟨L,N,f2,O,Q,U⟩:=n g aE;refine wpAny_pyNext_list_item st p.isList (by simpa using hu) λY m sb=>?_
  obtain⟨o,e,c,d⟩:=id m;exact⟨u,rfl,Bh e c d au ⟨x,H,(I.turned (λb o j e=>(sb.2 b j).trans e) L N O Q U),ru,⟨rfl,λys hy=>by rw[I.pA hy q];exact z⟩,m,λb j=>(n b j).1⟩⟩
 done:=by
  intro X r hw v hc i l s σ H E I n st y;subst r hw v;obtain⟨xs,q,z⟩:=y;obtain⟨B,J,p,hz⟩:=I.list q;obtain⟨L,N,f2,O,Q,U⟩:=n g aE;have hl:=J.length;exact wpAny_pyNext_list_end (I.ok.hd hc) st p.isList cf λY eb=>⟨rfl,I.turned (λb o j e=>eb b o j e) L N O Q U⟩
 self:=λf f f f f st h=>wpAny_pyIter_listiter st h
def UX(a g):Turn P w κ tg (UV κ a) [g] g (λi h=>h.IsTupleIter g a i) where
 mem:=by simp
 obj:=λi h st b j=>by
  obtain⟨o,e,c,d⟩:=st
  simp_all
 keep:=λi h Y st k=>st.at λo e=>k g aE o e
 item:=by
  intro X r hw v hc i l s σ H E I n st y;subst r hw v;obtain⟨xs,x,q,z⟩:=y;obtain⟨B,J,p,hz⟩:=I.tuple q;obtain⟨u,hu,ru⟩:=J.get z;obtain⟨L,N,f2,O,Q,U⟩:=n g aE;refine wpAny_pyNext_tuple_item st (p) (by simpa using hu) λY m sb=>?_
  obtain⟨o,e,c,d⟩:=id m;exact⟨u,rfl,Bh e c d au ⟨x,H,(I.turned (λb o j e=>(sb.2 b j).trans e) L N O Q U),ru,⟨rfl,λys hy=>by rw[I.om hy q];exact z⟩,m,λb j=>(n b j).1⟩⟩
 done:=by
  intro X r hw v hc i l s σ H E I n st y;subst r hw v;obtain⟨xs,q,z⟩:=y;obtain⟨B,J,p,hz⟩:=I.tuple q;obtain⟨L,N,f2,O,Q,U⟩:=n g aE;have hl:=J.length;exact wpAny_pyNext_tuple_end (I.ok.hd hc) st (p) cf λY eb=>⟨rfl,I.turned (λb o j e=>eb b o j e) L N O Q U⟩
 self:=λf f f f f st h=>wpAny_pyIter_tupleiter st h
def Xp(a)(lo)(n):Turn P w Y tg (ES lo n) [a] a (λi h=>IsRangeIter h a (lo+(i)*1) ((n)-(i)) 1) where
 mem:=by simp
 obj:=λi h st b c=>by
  simp_all
 keep:=λi h z st k=>k a aE _ st
 item:=by
  intro X B hw J l i d s L H E I j st m;obtain⟨p,q,N,r,u,y⟩:=j a aE;refine(Walks.range (I.ok.hd l) a lo 1 n).item i s _ _ m st λv z tk O g Q=>?_
  obtain⟨t,rfl⟩:=O;refine⟨_,rfl,Bh g aa aa au ⟨.int (lo+i),H,(I.turned (λb o c e=>Q b o aZ e) p q r u y),⟨t,?_⟩,⟨rfl,rfl⟩,g,λb c=>(j b c).1⟩⟩
  simp_all
 done:=by
  intro X B hw J l i d s L H E I j st m;obtain⟨p,q,N,r,u,y⟩:=j a aE;exact wpAny_pyNext_range_end (I.ok.hd l) st (by have:n<=i:=m;omega) λz U=>⟨rfl,I.turned (λb o c e=>U b o c e) p q r u y⟩
 self:=λx x x x x st h=>wpAny_pyIter_rangeiter st h
section
def Xq(c:bK)(e:TE):TI:=λg H R=>e g H λx d=>∃a,x=.ref a/\(∃h,df c d a h)/\R (Ni c a) d
def Xr(i:PE X l j):PI X z l (Xq X.K j):=by
 intro c s m H R I h;refine bE (i c s m H _ I h) ?_;rintro v g ⟨x,n,d,r,u⟩;obtain⟨a,e,⟨B,w⟩,q⟩:=u;subst e;cases r;obtain⟨y,E,p,J⟩:=d.list w;refine vH p.isList ?_;refine⟨g.heap.objs.size,[g.heap.objs.size],_,_,n,rfl,d.kept λb o e=>cc _ e,Wh a _,⟨_,dA _ aa,rfl,rfl⟩,λb L=>?_,q⟩;have e:b=g.heap.objs.size:=by simp_all
 subst e;exact d.fZ (bz _) (d.be.fresh (bz _))
def XR{d:St}{lo a}(I:aK X c d H s)(h: -(2^62)<=lo)(i:lo<2^62)(j: -(2^62)<=a)(l:a<2^62)
   (q:R (ES lo (a-lo).toNat) H):wpAny (bj X) X.A (pyIter (.ref s.heap.objs.size)) (G5 X c d n R) E {s with heap:=s.heap.push {cls:=.type "range",data:=.fields #[.int lo t,.int a u,.int 1 v]},toks:=tk}:=by
 refine wpAny_pyIter_range (IsRange.new ..) (small_one h i j l) ?_;have g:aK X c d H {s with heap:=s.heap.push {cls:=.type "range",data:=.fields #[.int lo t,.int a u,.int 1 v]},toks:=tk}:=I.kept λb o e=>cc _ e
 refine⟨(s.heap.push {cls:=.type "range",data:=.fields #[.int lo t,.int a u,.int 1 v]}).objs.size,[(s.heap.push {cls:=.type "range",data:=.fields #[.int lo t,.int a u,.int 1 v]}).objs.size],_,_,H,rfl,
   g.kept λb o e=>cc _ e,Xp _ lo (a-lo).toNat,?_,λb m=>?_,q⟩
 .have e1:lo+((0):Int)*1=lo:=by simp
  have e2:(((a-lo).toNat:Nat):Int)-((0):Int)=Builtin.Range.rangeSize lo a 1:=by rw[rangeSize_one];split<;>omega
  show IsRangeIter _ _ (lo+((0):Int)*1) ((((a-lo).toNat:Nat):Int)-((0):Int)) 1;rw[e1,e2];exact dA _ aa
 .have e:b=(s.heap.push {cls:=.type "range",data:=.fields #[.int lo t,.int a u,.int 1 v]}).objs.size:=by simpa using m
  subst e;exact g.fZ (bz _) (g.be.fresh (bz _))
def XS(a:TA):TI:=λc H R=>a c H λd e=>∃j:Int,d=[.int j]/\ -(2^62)<=j/\j<2^62/\R (ES 0 j.toNat) e
def XT(l:Gl X "range")(m:X.mg "range" =ah)(n:PA X [a] o)(u:bx [a] X.V=[(ag,eval a X.V)]:=by rfl):PI X E (.Call (.Name "range" p) [a] [] d) (XS o):=by
 intro c s v H R I h;refine Call_ (ZD I l m boot_range (Bi (bE (n d c s v H _ I h) λJ L g=>?_) u aa));obtain⟨N,O,w,y,i⟩:=g;obtain⟨j,e,i,z,q⟩:=i;subst e
 cases y with
 |cons r B=>
  cases B;obtain⟨t,rfl⟩:=r;exact call_range_1 (XR w ak ak i z (by simpa using q))
def G6(j:TI)(g:TG)(l:TS):TS:=λD a H=>j a H λJ n=>∃W:Nat->Nat->St->Hp->Prop,(∃m,W 0 m a n)/\∀i m a H,W i m a H->
 (J.stop i H/\D.nx a H)\/(J.go i H/\∃N:St->Hp->Prop,(∀c d,N c d->∃h,h<m/\W (i+1) h c d)/\∀x d,J.ER i H x d->g x a d λe o=>l {D with nx:=N,ct:=N,bk:=D.nx} e o)
def Vu(a:List ar)(h:Heap):List (ar×Obj):=a.filterMap λb=>(h.get? b).map λo=>(b,o)
def JX(a:b∈c)(e:h.get? b=ae o):(b,o)∈Vu c h:=Bj.mpr ⟨b,a,by rw[e];rfl⟩
def X0(a:p∈Vu c h):p.1∈c/\h.get? p.1=ae p.2:=by
 obtain⟨b,d,e⟩:=Bj.mp a
 cases q:h.get? b with
 |none=>simp_all
 |some o=>grind
def aK.pinned{c:St}(I:aK X a c H s)(g:∀b∈d,eE X a H b)(j:∀b∈d,∃o,s.heap.get? b=ae o/\∀v,o.data≠ .cell v):aK X (a++Vu d s.heap) c H s:=
 I.nH λp h=>(fj.mp h).elim (λz=>I.pin p (mU _ z)) λz=>by
  obtain⟨i,e⟩:=X0 z;obtain⟨l,m,n,_⟩:=g p.1 i
  grind
def aK.f6{c:St}(I:aK X (a++pl) c H s):aK X a c H s:=I.nH λp d=>I.pin p (mU _ (o8 _ d))
def vW(L:vF (bj X) X.A X.V X.xe)(hc:X.bU=af)(hi:PI X tg iter wi)(hg:PG X tg g)(j:eh X O tb)
   (hs:∀x,so iter X.V x=pure x:=by intro _;rfl):PS X (.For tg iter O [] pos) (G6 wi g tb):=by
 intro a s σ H D I h;refine wpAny_For (bE (hi a s σ H _ I h) λv s1 h1=>bE h1 λX1 s2 h2=>?_) hs;obtain⟨it,Q,tn,J,H2,e,I2,T,Ck,f2,W,⟨m0,w0⟩,U⟩:=h2;subst e;have l:∀{z:Hp},(∀b∈Q,z b=ah)->∀b∈Q,eE X a z b:=λhn b j=>⟨hn b j,(f2 b j).2⟩
 refine codeAny_forLoop_any (λn s'=>∃i p z,aK X a p z s'/\tn i s'.heap/\(∀b∈Q,z b=ah)/\W i n p z) ?_ m0 ⟨0,σ,H2,I2,Ck,λb j=>(f2 b j).1,w0⟩;rintro n s3 ⟨i,q,H3,I3,Y,Nj,w3⟩;rcases U i n q H3 w3 with⟨stop,qn⟩|⟨go,N,hN,step⟩
 .refine vG L (bE (T.done X aa aa aa hc i a s3 q H3 X.xe I3 (l Nj) Y stop) ?_);rintro r s4 ⟨hr,I4⟩;subst hr;exact Cf ⟨q,H3,I4,qn⟩
 .refine vG L (bE (T.item X aa aa aa hc i a s3 q H3 X.xe I3 (l Nj) Y go) ?_);rintro r s4 ⟨u,hr,h4⟩;subst hr;refine vG L (bE h4 ?_);rintro _ s5 ⟨x,H5,I5,r5,y5,E,G7⟩;refine vG L (bE (hg _ s5 q H5 x u _ (I5.pinned (l G7) (T.obj _ _ E)) r5 (step x H5 y5)) λk s6 Cn=>?_);obtain⟨vO,H6,I6,q6⟩:=Cn;refine vG L (bE (j _ s6 vO H6 _ I6 q6) λf s7 B=>?_)
  have again:∀{c:St}{w:Hp},aK X (a++Vu Q s5.heap) c w s7->N c w->∃m,m<n/\∃i p z,aK X a p z s7/\tn i s7.heap/\(∀b∈Q,z b=ah)/\W i m p z:=λ{c w} y n7=>by
   obtain⟨m',hm,w7⟩:=hN c w n7;refine⟨m',hm,i+1,c,w,y.f6,T.keep _ _ _ E λb j o e=>(y.pin (b,o) (mU _ (mU _ (JX j e)))).1,λb j=>?_,w7⟩;obtain⟨o,e,d⟩:=T.obj _ _ E b j;exact(y.pin (b,o) (mU _ (mU _ (JX j e)))).2.1
  cases f with
  |next|cont=>obtain⟨c,w,y,n7⟩:=B;exact again y n7
  |brk=>obtain⟨c,w,y,B⟩:=B;exact⟨c,w,y.f6,B⟩
  |ret v=>obtain⟨x7,c,w,y,r7,B⟩:=B;exact⟨x7,c,w,y.f6,r7,B⟩
end
abbrev R2:=V->V->Hp->VK->Prop
def c9(X:Cx)(f:aJ->aJ->Sem aJ)(r:R2):Prop:=
 ∀(a:List (ar×Obj))(s:bT)(c:St)(H:Hp)(x y:V)(v u:aJ)(Q:VK),aK X a c H s->aR x v->aR y u->r x y H Q->
  wpAny (bj X) X.A (f v u) (EP X a c Q) X.xe s
def G8(X:Cx)(f:aJ->Sem aJ)(r:V->Hp->VK->Prop):Prop:=
 ∀(a:List (ar×Obj))(s:bT)(c:St)(H:Hp)(x:V)(v:aJ)(Q:VK),aK X a c H s->aR x v->r x H Q->
  wpAny (bj X) X.A (f v) (EP X a c Q) X.xe s
def bG(X:Cx)(f:aJ)(r:List V->Hp->VK->Prop):Prop:=
 ∀(a:List (ar×Obj))(s:bT)(c:St)(H:Hp)(d:List V)(e:List aJ)(Q:VK),aK X a c H s->aW d e->r d H Q->
  wpAny (bj X) X.A (call f e) (EP X a c Q) X.xe s
def G9(X:Cx)(r:V->Hp->(Bool->Hp->Prop)->Prop):Prop:=
 ∀(a:List (ar×Obj))(s:bT)(c:St)(H:Hp)(x:V)(v:aJ)(Q:Bool->Hp->Prop),aK X a c H s->aR x v->r x H Q->
  wpAny (bj X) X.A (truthy v) (TP X a c Q) X.xe s
def v4(r:R2)(c d:TE):TE:=λa H Q=>c a H λx e=>d a e λy g=>r x y g Q
def ZN(r:V->Hp->VK->Prop)(a:TE):TE:=λc H Q=>a c H λx d=>r x d Q
def rI(C:Int->Int->Prop)(g:Int->Int->V):R2:=λx y H Q=>∃i j,x=.int i/\y=.int j/\C i j/\Q (g i j) H
def nI(g:Int->Int->V):R2:=λx y H Q=>∃i j,x=.int i/\y=.int j/\Q (g i j) H
def rU(g:Int->V):V->Hp->VK->Prop:=λx H Q=>∃i,x=.int i/\Q (g i) H
section
def v5(m:PE X a n)(o:PE X b p){d:St}{R:V->V->Hp->Prop}(I:aK X c d H s)
  (h:n d H λx l=>p d l λy e=>R x y e) {f:aJ->aJ->Sem aJ}
  (q:∀v u j x y e,aK X c d e j->aR x v->aR y u->R x y e->wpAny (bj X) X.A (f v u) Q X.xe j):
  wpAny (bj X) X.A (eval a X.V) (λv g=>wpAny (bj X) X.A (eval b X.V) (λu i=>wpAny (bj X) X.A (f v u) Q X.xe i) X.xe g) X.xe s:=by
 refine bE (m c s d H _ I h) ?_;rintro v r ⟨x,l,w,z,B⟩;refine bE (o c r d l _ w B) ?_;rintro u j ⟨y,e,E,J,L⟩;exact q v u j x y e E z J L
def ET(d:c9 X (iG e) r)(g:PE X a i)(j:PE X b l):PE X (.BinOp a e b m) (v4 r i l):=by
 intro c s n H Q I h;exact wpAny_BinOp (v5 g j I h λv u o x y p w z B q=>d c o n p x y v u Q w z B q)
def jmK(e:G8 X (unaryOp g) r)(i:PE X a j):PE X (.UnaryOp g a l) (ZN r j):=by
 intro c s d H Q I h;exact UnaryOp_ (bE (i c s d H _ I h)<|by rintro v m ⟨x,n,o,p,q⟩;exact e c m d n x v Q o p q)
def Co{g:Int->Int->Int}
  (rule:∀(i j)(t u)(s)(Q)(E),C i j->Q (.int (g i j) s.toks) {s with toks:=s.toks+1}->wpAny (bj X) X.A (f (.int i t) (.int j u)) Q E s):
  c9 X f (rI C λi j=>.int (g i j)):=by
 intro a s m H x y v u Q I c d h;obtain⟨i,j,rfl,rfl,e,q⟩:=h;obtain⟨t,rfl⟩:=c;obtain⟨l,rfl⟩:=d;exact rule i j t l s _ _ e ⟨.int (g i j),H,I.tok _,⟨_,rfl⟩,q⟩
def Cp{g:Int->Int->Int}
  (rule:∀(i j)(t u)(s)(Q)(E),Q (.int (g i j) s.toks) {s with toks:=s.toks+1}->wpAny (bj X) X.A (f (.int i t) (.int j u)) Q E s):
  c9 X f (nI λi j=>.int (g i j)):=by
 intro a s l H x y v u Q I c d h;obtain⟨i,j,rfl,rfl,q⟩:=h;obtain⟨t,rfl⟩:=c;obtain⟨e,rfl⟩:=d;exact rule i j t e s _ _ ⟨.int (g i j),H,I.tok _,⟨_,rfl⟩,q⟩
def v8{g:Int->Int->Bool}
  (rule:∀(i j)(t u)(s)(Q)(E),Q (.bool (g i j)) s->wpAny (bj X) X.A (f (.int i t) (.int j u)) Q E s):
  c9 X f (nI λi j=>.bl (g i j)):=by
 intro a s l H x y v u Q I c d h;obtain⟨i,j,rfl,rfl,q⟩:=h;obtain⟨t,rfl⟩:=c;obtain⟨e,rfl⟩:=d;exact rule i j t e s _ _ ⟨.bl (g i j),H,I,rfl,q⟩
def sr(i j:Int):Prop:=0<j/\j<1073741824
def Cq(i j:Int):Prop:=0<=j/\j<=1000000/\i.natAbs<2^64
def wb:c9 X (iG .Add) (nI λi j=>.int (i+j)):=Cp λx x x x x x x q=>add_int q
def Nk:c9 X (iG .Sub) (nI λi j=>.int (i-j)):=Cp λx x x x x x x q=>sub_int q
def y9:c9 X (iG .FloorDiv) (rI sr λi j=>.int (i/j)):=Co λi j x x x x x a q=>by
 have c:=a.1;have d:=a.2;exact floordiv_int ak (by rw[Ha i (Cr bg)];exact q) (.inl (PyProof.noPylong_small ak))
def yO:c9 X (iG .Mod) (rI (λx j=>0<j) λi j=>.int (i%j)):=Co λi j x x x x x a q=>by
 exact mod_int' ak (by rw[Int.fmod_eq_emod_of_nonneg i (Cr bg)];exact q)
def uj:c9 X (iG .Pow) (rI Cq λi j=>.int (i^j.toNat)):=Co λx x x x x x x a q=>pow_int_small a.1 a.2.1 a.2.2 q
def unI{g:Int->Int}
  (rule:∀(i)(t)(s)(Q)(E),Q (.int (g i) s.toks) {s with toks:=s.toks+1}->wpAny (bj X) X.A (f (.int i t)) Q E s):
  G8 X f (rU λi=>.int (g i)):=by
 intro a s d H x v Q I c h;obtain⟨i,rfl,q⟩:=h;obtain⟨t,rfl⟩:=c;exact rule i t s _ _ ⟨.int (g i),H,I.tok _,⟨_,rfl⟩,q⟩
def jke:G8 X (unaryOp .USub) (rU λi=>.int (-i)):=unI λx x x x x q=>neg_int q
end
section
variable{b:Expr}
def Hb{c:St}(I:aK X a c H s)(q:Q (.bl k) H)(e:k=d):EP X a c Q (.bool d) s:=by
 subst e;exact⟨.bl k,H,I,rfl,q⟩
def Nl:c9 X (gp .Lt) (nI λi j=>.bl (aD (i<j))):=v8 λx x x x x x x q=>lt_int q
def Xv:c9 X (gp .LtE) (nI λi j=>.bl (aD (i<=j))):=v8 λx x x x x x x q=>le_int q
def kE:c9 X (gp .Gt) (nI λi j=>.bl (aD (j<i))):=v8 λx x x x x x x q=>gt_int q
def jcK:c9 X (gp .In) (λx y H Q=>∃i j,x=.str i/\y=.str j/\Q (.bl (!(Hc j i 0 j.length 1).isEmpty)) H):=by
 intro a s e H x y v u Q I c d h;obtain⟨i,j,rfl,rfl,q⟩:=h;obtain⟨t,rfl⟩:=c;obtain⟨g,rfl⟩:=d;exact in_str (Hb I q aa)
def He:c9 X (gp .Is) (λx y H Q=>y=.bo/\Q (.bl (aD (x=.bo))) H):=by
 intro a s e H x y v u Q I c d h;obtain⟨rfl,q⟩:=h;cases d;refine is_none_gen (Hb I q ?_)
 cases x<;>first
  |(cases c;rfl)
  |(obtain⟨t,rfl⟩:=c;rfl)
def Nm:c9 X (gp .IsNot) (λx y H Q=>y=.bo/\Q (.bl (!decide (x=.bo))) H):=by
 intro a s e H x y v u Q I c d h;obtain⟨rfl,q⟩:=h;cases d;refine isnot_none_gen (Hb I q ?_)
 cases x<;>first
  |(cases c;rfl)
  |(obtain⟨t,rfl⟩:=c;rfl)
def c9.or(h:c9 X f r)(g:c9 X f i):c9 X f (λx y H Q=>r x y H Q\/i x y H Q):=by
 intro a s c H x y v u Q I d e q;rcases q with q|q
 .exact h a s c H x y v u Q I d e q
 .exact g a s c H x y v u Q I d e q
def Nn(b)(h:op≠ .In:=by decide)(a:op≠ .NotIn:=by decide):Cs op b=ag:=by
 have e1:(op==CmpOp.In)=ag:=by simp_all
 have e2:(op==CmpOp.NotIn)=ag:=by simp_all
 cases b<;>first|rfl|(show(_&&(op==.In||op==.NotIn)&&_)=ag;simp[e1,e2])
def jip(e:c9 X (gp d) r)(g:PE X a i)(j:PE X b l)(m:Cs d b=ag):PE X (.Compare a [d] [b] n) (v4 r i l):=by
 intro c s o H Q I h;exact wpAny_Compare1 (v5 g j I h λv u p x y w z B E q=>e c p o w x y v u Q z B E q) m
def Hf(t:TE):TT:=λa H Q=>t a H λx c=>∃k,x=.bl k/\Q k c
def jie(j:c9 X (gp i) r)(l:PE X a m)(n:PE X b o)(p:Cs i b=ag):PT X (.Compare a [i] [b] q) (Hf (v4 r m o)):=by
 intro d s g H Q I h
 refine wpAny_isTrue_Compare1 (bE (l d s g H _ I h) λv w ⟨x,B,E,J,L⟩=>bE (n d w g B _ E L) λu N ⟨y,O,U,Y,q2⟩=>
  bE (j d N g O x y v u _ U J Y q2) λc s3 ⟨z,H3,I3,r3,k,e,q3⟩=>?_) p
 subst e;cases r3;exact pz ⟨H3,I3,q3⟩
def Hg(r d:R2)(e g h:TE):TE:=λa H Q=>e a H λx i=>g a i λy j=>r x y j λz c=>∃k,z=.bl k/\
 (if k=af then h a c λl m=>d y l m Q else Q (.bl ag) c)
def jfj(w:c9 X (gp m) r)(l:c9 X (gp i) B)(E:PE X a J)(L:PE X b N)(O:PE X c U)
  (Y:lastMarks [m,i] [b,c]=ag:=by with_unfolding_all rfl):PE X (.Compare a [m,i] [b,c] pos) (Hg r B J N U):=by
 intro g s j H Q I h
 refine Compare_chain (bE (E g s j H _ I h) λv s1 ⟨x,H1,I1,r1,q1⟩=>chain_link (bE (L g s1 j H1 _ I1 q1) λu s2 ⟨y,H2,I2,n,q2⟩=>
  bE (w g s2 j H2 x y v u _ I2 r1 n q2) λd s3 ⟨z,o,p,r3,k,e,q⟩=>?_)) Y
 subst e;cases r3;refine pz ?_
 cases k with
 |false=>exact ite_ff ⟨.bl ag,o,p,rfl,q⟩
 |true=>exact ite_tt (chain_last (bE (O g s3 j o _ p q)<|by rintro w' s4 ⟨z',H4,I4,r4,q4⟩;exact l g s4 j H4 y z' u w' Q I4 n r4 q4))
def je9(B:c9 X (gp n) r)(l:c9 X (gp i) E)(J:PE X a L)(N:PE X b O)(U:PE X c Y)
  (hm:lastMarks [n,i] [b,c]=ag:=by with_unfolding_all rfl):PT X (.Compare a [n,i] [b,c] pos) (Hf (Hg r E L O Y)):=by
 intro g s j H Q I h;refine isTrue_chain (bE (J g s j H _ I h) ?_) hm;rintro v s1 ⟨x,H1,I1,r1,q1⟩;refine test_link (bE (N g s1 j H1 _ I1 q1) ?_);rintro u s2 ⟨y,H2,I2,o,q2⟩;refine bE (B g s2 j H2 x y v u _ I2 r1 o q2) ?_;rintro d s3 ⟨z,p,q,r3,k,e,w⟩;subst e;cases r3;refine pz ?_
 cases k with
 |false=>
  obtain⟨k',e',q'⟩:=w;cases e';exact ite_ff ⟨p,q,q'⟩
 |true=>
  refine ite_tt (test_last (bE (U g s3 j p _ q w) λw' s4 ⟨z',H4,I4,r4,q4⟩=>bE (l g s4 j H4 y z' u w' _ I4 o r4 q4) λd' s5 m=>?_));obtain⟨z2,H5,I5,r5,k2,e2,q5⟩:=m;subst e2;cases r5;exact pz ⟨H5,I5,q5⟩
def wd(d:bK)(x:V)(H:Hp)(k:Bool):Prop:=
 match x with
 |.bo=>k=ag
 |.bl b=>k=b
 |.int i=>k=(i !=0)
 |.str y=>y.length<=ba/\k=((y.length:Int) !=0)
 |.Be y=>y.size<=ba/\k=((y.size:Int) !=0)
 |.ref p=>(∃a,df d H p a/\k=!a.isEmpty)\/(∃a,gO d H p a/\k=!a.isEmpty)\/∃c,H p=ae (.dK c)/\k=!c.isEmpty
 |_=>False
def jbi{a:List (d×V)}{c}(r:KV a c):(!c.isEmpty)=!a.isEmpty:=by
 cases r<;>rfl
def Yh(r:aW c a):(!a.toArray.isEmpty)=!c.isEmpty:=by
 cases r<;>simp
def Yb:(ba)<2^63:=by rw[my];decide
def jkg:G9 X (λx H Q=>∃k,wd X.K x H k/\Q k H):=by
 intro o s E H x v Q I d h;obtain⟨k,e,q⟩:=h;have J:=my
 cases x with
 |bo=>
  cases d;have a:=e;subst a;exact truthy_none ⟨H,I,q⟩
 |bl b=>
  cases d;have a:=e;subst a;exact pz ⟨H,I,q⟩
 |int i=>
  obtain⟨t,rfl⟩:=d;have a:=e;subst a;exact PySem.P.truthy_int ⟨H,I,q⟩
 |str y=>
  obtain⟨t,rfl⟩:=d;obtain⟨w,a⟩:y.length<=ba/\k=((y.length:Int) !=0):=e;subst a;exact PySem.P.truthy_str ak ⟨H,I.tok _,q⟩
 |Be y=>
  obtain⟨t,rfl⟩:=d;obtain⟨w,a⟩:y.size<=ba/\k=((y.size:Int) !=0):=e;subst a;exact PySem.W.truthy_bytes ak ⟨H,I.tok _,q⟩
 |ref p=>
  cases d;have a:=e;rcases a with⟨z,g,a⟩|⟨z,g,a⟩|⟨j,g,a⟩
  .subst a;obtain⟨l,r,pl,u⟩:=I.list g;have c:=r.length;exact wpAny_truthy_list pl.isList (by simp only[eW];omega) ⟨H,I.tok _,by rw[Yh r];exact q⟩
  .subst a;obtain⟨l,r,pl,u⟩:=I.tuple g;have c:=r.length;exact truthy_tuple pl (by simp only[eW];omega) ⟨H,I.tok _,by rw[Yh r];exact q⟩
  .subst a;obtain⟨u,B,n,r,m⟩:j.length<=ba/\(p==lJ)=ag/\∃n,KV j n/\s.heap.DictOf (wJ X.P X.w) p n:=I.be p _ g;have c:=sg r;exact wpAny_truthy_dict B m ak ⟨H,I.tok _,by rw[jbi r];exact q⟩
 |_=>exact(e).elim
def je8(g:PE X a i)(j:∀whole,isTrue a X.V whole=(do let v<-whole;rF a.pos;mS [v] (truthy v))):
  PT X a (λd H Q=>i d H λx e=>∃k,wd X.K x e k/\Q k e):=by
 intro c s d H Q I h;exact isTrue_plain (bE (g c s d H _ I h)<|by rintro v l ⟨x,m,n,o,p⟩;exact jkg c l d m x v Q n o p) (j _)
def mV:c9 X (iG .Add) (λx y H Q=>∃i j,x=.str i/\y=.str j/\i.length+j.length<=ba/\Q (.str (i++j)) H):=by
 intro a s l H x y v u Q I c d h;obtain⟨i,j,rfl,rfl,e,q⟩:=h;obtain⟨t,rfl⟩:=c;obtain⟨g,rfl⟩:=d;exact add_str (λg tk=>⟨.str (i++j),H,I.tok _,⟨_,rfl⟩,q⟩) e
def Jw(r:aW [x] a):∃u,a=[u]/\aR x u:=by
 cases r with
 |cons c d=>cases d;exact⟨_,rfl,c⟩
def Bk(r:aW [x,y] c):∃u a,c=[u,a]/\aR x u/\aR y a:=by
 cases r with
 |cons d e=>
  cases e with
  |cons g h=>cases h;exact⟨_,_,rfl,d,g⟩
def wg:bG X (.builtin "divmod") (λa H Q=>∃i j,a=[.int i,.int j]/\sr i j/\∀p,H p=ah->Q (.ref p) (aQ H p (.ap [.int (i/j),.int (i%j)]))):=by
 intro c s d H a g Q I r h;obtain⟨i,j,rfl,⟨l,m⟩,q⟩:=h;obtain⟨u,n,rfl,⟨t,rfl⟩,⟨v,rfl⟩⟩:=Bk r;refine divmod_int ak ?_ (.inl (PyProof.noPylong_small ak));rw[Ha i (Cr bg),Int.fmod_eq_emod_of_nonneg i (Cr bg)];refine⟨.ref s.heap.objs.size,_,?_,rfl,q _ (I.be.fresh (bz _))⟩;refine I.laid (λb o e=>cc _ e) (bz _) ⟨by simp only[gG,wh];rw[my];decide,[.int (i/j) s.toks,.int (i%j) (s.toks+1)],.cons ⟨_,rfl⟩ (.cons ⟨_,rfl⟩ .nil),?_⟩;exact⟨_,dA s.heap aa,rfl,0,rfl⟩
end
structure mW(h:Heap)(x dx C:ar)(mA:YE):Prop where
 obj:h.get? x=ae (te C dx)
 ns:h.Ns1 dx mA
 ne:dx≠x
def jc9{h:Heap}(n:h.Ns1 dx g):∃d,h.get? dx=ae d/\∀name,EU name d=ae (g name):=by
 obtain⟨o,i,u,j,l,m,_,p⟩:=n;refine⟨o,j,λname=>?_⟩;have e:=p name;unfold nsFind findBy at e;rw[<-Array.find?_toList]at e;unfold EU;rw[l];dsimp only
 split
 .simp_all
 .rename_i q
  have a:i.toList.any (·.refKey)=ag:=by
   rw[Hh];intro y r;obtain⟨z,t,c⟩:=m y (Hi.mp r);simp[DictEntry.refKey,c]
  simp_all
def mW.look(I:mW h x dx C c):∃a,PySem.W.InstAt h x (te C dx) C (ae a)/\∀name,EU name a=ae (c name):=
 let ⟨a,d,hl⟩:=jc9 I.ns
 ⟨a,⟨I.obj,rfl,rfl,d⟩,hl⟩
section
variable{s:bT}
def jja(X:a.In s.heap)(I:mW s.heap x dx C g)(i:Bl a C name=af)(j:Ct a C=af)
  (l:ix a (.ref C) name=ae ah) (m:g name=ae v) (c:PySem.W.handedIn v=af) (h:Q v {s with toks:=s.toks+1}):
  wpAny (aN d w) A (getAttr (.ref x) name e) Q E s:=by
 obtain⟨o,J,n⟩:=I.look;exact PySem.W.get_value X J (Hj i).1 (PySem.W.findObj_own j l aa (by rw[n,m])) c h
def jgh(X:a.In s.heap)(I:mW s.heap x dx C e)(c:Bl a C name=af)
  (g:ix a (.ref C) name=ae (ae (.ref f))) (i:EV a (.ref f)=af) (j:e name=ah) (h:Q (.ref f,[.ref x]) s):
  wpAny (aN d w) A (getMethod (.ref x) name pl) Q E s:=by
 obtain⟨l,J,m⟩:=I.look;exact PySem.W.method_fn X J (Hj c).1 (Hj c).2 g (beq_iff_eq.mp i) (by show(EU name l).map (·.isSome)=ae ag;rw[m,j];rfl) h
def jhW(X:d.In s.heap)(I:mW s.heap x dx C l)
  (n:ix d (.ref C) "__setattr__" =ae (ae (.builtin "object.__setattr__"))) (o:EW d C=af) (p:Hk d C name=ae ah) (q:Ct d C=af)
  (hw:PySem.Within l r) (u:r.length<=ba)
  (h:∀e,mW e x dx C (λy=>if y=name then ae v else l y)->iw dx s.heap e->Q () {s with heap:=e,toks:=s.toks+2}):
  wpAny (aN m w) A (setAttr (.ref x) name v) Q E s:=by
 obtain⟨L,J,N⟩:=I.look;refine PySem.W.set_plain X J n (PySem.W.osa_open X J o p λb=>?_);obtain⟨O,z,g⟩:=PySem.W.any_some q;refine ax (aP (ax (ax (wpAny_loadPart (I.obj) (ax (PySem.W.Looks.here (PySem.W.looks_clsIn X z) ?_))))));rw[g];refine aP (ax (aP (ax ?_)));refine wpAny_nsSet1 I.ns λe a c=>?_
 obtain⟨U,B,H,i,bn,j⟩:=a.count (PySem.Within.cons name v hw);refine ax (wpAny_lookBehind i (by rw[bn];exact pastItsLine_dict (cn j aZ)) ?_);exact aP (h _ ⟨(c.2 _ (gM I.ne)).trans I.obj,a,I.ne⟩ c)
def jfR(X:c.In s.heap)(j:wr c C=af)
  (l:ix c (.ref C) "__init__" =ae (ae (.ref f))) (m:PySem.W.typeIn c (.ref f)=ae (.type "function"))
  (h:lZ (aN a w) (A.under (.builtin "type.__call__" ⟨.ref C::e,i⟩)) (.call (.ref f) ⟨.ref (s.heap.objs.size+1)::e,i⟩) (PySem.W.InitBack (s.heap.objs.size+1) R)
   {s with heap:=(s.heap.push tm).push (te C s.heap.objs.size)}):
  lZ (aN a w) A (.call (.ref C) ⟨e,i⟩) R s:=by
 obtain⟨n,g,d,t,os⟩:=s;exact PySem.W.make_core (PySem.W.makes_of X j) (EX X l) (λself=>PySem.W.bind_fn X self m) (.inl aa) h
end
def dN(f:Str)(v:V):List (Str×V)->List (Str×V)
 |[]=>[(f,v)]
 |(g,x)::r=>if g=f then(g,v)::r else(g,x)::dN f v r
theorem WN(f g)(v):∀fs,(dN f v fs).lookup g=if g=f then ae v else fs.lookup g
 |[]=>by
  show nJ g [(f,v)]=_
  grind
 |(k,x)::r=>by
  rw[show dN f v ((k,x)::r)=(if k=f then(k,v)::r else(k,x)::dN f v r) from aa]
  by_cases a:k=f
  .grind
  .rw[if_neg a]
   by_cases h:g=k
   .simp_all
   .have c:=beq_eq_false_iff_ne.mpr h;simp only[nJ,c];exact(WN f g v r)
theorem WQ(f)(v):∀fs,f∈(dN f v fs).map (·.1)/\∀g,g∈fs.map (·.1)->g∈(dN f v fs).map (·.1)
 |[]=>⟨by simp[dN],λg h=>by simp at h⟩
 |(k,x)::r=>by
  obtain⟨a,c⟩:=WQ f v r;rw[show dN f v ((k,x)::r)=(if k=f then(k,v)::r else(k,x)::dN f v r) from aa]
  grind
theorem WP(f)(v):∀fs,(dN f v fs).length<=fs.length+1
 |[]=>by simp[dN]
 |(k,x)::r=>by
  have a:=WP f v r;rw[show dN f v ((k,x)::r)=(if k=f then(k,v)::r else(k,x)::dN f v r) from aa]
  grind
def eP.some_of(r:eP (ae v) o):∃u,o=ae u/\aR v u:=by
 cases o with
 |none=>exact(r).elim
 |some u=>exact⟨u,rfl,r⟩
def eP.none_of(r:eP ah o):o=ah:=by
 cases o with
 |none=>rfl
 |some u=>exact(r).elim
def jdJ(r:aR v u):PySem.W.handedIn u=af:=by
 cases v with
 |bo|bl _=>cases(r);rfl
 |int _|str _|Be _|se _=>obtain⟨t,e⟩:=(r);cases e;rfl
 |ref _|ty _=>cases(r);rfl
section
def Kk(g:eA P w H h)(e:H a=ae (.ins C dx fs)):∃c,mW h a dx C c/\(∀f,eP (fs.lookup f) (c f))/\PySem.Within c (fs.map (·.1))/\fs.length<=1000/\H dx=ae (.aG a):=by
 obtain⟨d,z,ne,ob,c,n,r,q⟩:=(g a _ e)
 exact⟨c,⟨ob,n,ne⟩,r,q,z,d⟩
end
structure gI(κ:bK)(C:ar):Prop where
 pg:Bl κ C Str.empty=af
 hd:Ct κ C=af
 po:EW κ C=af
 sa:ix κ (.ref C) "__setattr__" =ae (ae (.builtin "object.__setattr__"))
def gI.get(c:gI a C)(f):Bl a C f=af:=c.pg
def fq(a:bK)(C:ar)(f:Str):Prop:=ix a (.ref C) f=ae ah
def fq.Cu(n:fq a C f):Hk a C f=ae ah:=by
 delta Hk
 rw[show ix a (.ref C) f=ae ah from n];rfl
structure Meth(κ:bK)(C:ar)(m:Str)(f:ar):Prop where
 at_:ix κ (.ref C) m=ae (ae (.ref f))
 fn:EV κ (.ref f)=af
 kp:lc κ (.ref f)=af
section
variable{U:St}
def jbq(I:aK X d U H s)(e:H a=ae (.ins C dx fs))(c:gI X.K C)(n:fq X.K C f)(l:fs.lookup f=ae v)
  (h:∀u g,aK X d U H g->aR v u->Q u g):wpAny (bj X) A (getAttr (.ref a) f b) Q E s:=by
 obtain⟨m,O,r,_,_,_⟩:=Kk I.be e;obtain⟨u,j,i⟩:=eP.some_of (by rw[<-l];exact r f);exact jja I.fP O (c.get f) c.hd n j (jdJ i) (h u _ (I.tok _) i)
def Yl(I:aK X d U H s)(e:H a=ae (.ins C dx fs))(c:gI X.K C)(k:Meth X.K C m g)(l:fs.lookup m=ah)
  (h:Q (.ref g,[.ref a]) s):wpAny (bj X) A (getMethod (.ref a) m pl) Q E s:=by
 obtain⟨i,O,r,_,_,_⟩:=Kk I.be e;exact jgh I.fP O (c.get m) k.at_ k.fn (eP.none_of (by rw[<-l];exact r m)) h
def jaO(I:aK X d U H s)(e:H a=ae (.ins C dx fs))(c:gI X.K C)(n:fq X.K C f)(hl:fs.length<1000)(p:aR y u)
   (h:∀j,aK X d U (aQ H a (.ins C dx (dN f y fs))) j->Q () j):wpAny (bj X) A (setAttr (.ref a) f u) Q E s:=by
 obtain⟨v,O,r,l,_,m⟩:=Kk I.be e;have w:(fs.map (·.1)).length<=ba:=by rw[cX,my];omega
 refine jhW I.fP O c.sa c.po n.Cu c.hd l w λB i J=>h _ ?_
 have L:∃o,B.get? dx=ae o:=let ⟨o,_,_,N,_⟩:=i.ns;⟨o,N⟩
 refine I.write (by rw[e];exact o9) (.inr m) (λb q Y z=>(J.2 b Y).trans z) L ?_;refine⟨by rw[jz O.ne];exact m,?_,O.ne,i.obj,_,i.ns,λg=>?_,λg hg=>?_⟩
 .have:=WP f y fs;omega
 .show eP ((dN f y fs).lookup g) (if g=f then ae u else v g);rw[WN]
  by_cases q:g=f
  .rw[if_pos q,if_pos q];exact p
  .simp_all
 .by_cases q:g=f
  .rw[q];exact(WQ f y fs).1
  .refine(WQ f y fs).2 g (l g λz=>hg ?_)
   simp_all
def aK.made(I:aK X a U H s):aK X a U (aQ (aQ H s.heap.objs.size (.aG (s.heap.objs.size+1))) (s.heap.objs.size+1) (.ins C s.heap.objs.size []))
  {s with heap:=(s.heap.push tm).push (te C s.heap.objs.size)}:=by
 have e1:(s.heap.push tm).get? s.heap.objs.size=ae tm:=dA s.heap aa
 have e2:((s.heap.push tm).push (te C s.heap.objs.size)).get? (s.heap.objs.size+1)=ae (te C s.heap.objs.size):=by
  have:=dA (s.heap.push tm) (o:=te C s.heap.objs.size) aa
  rwa [su]at this
 have c:(s.heap.push tm).Ns s.heap.objs.size (λx=>ah):=⟨tm, #[],_,e1,rfl,(λe d=>absurd d aE),λx=>rfl⟩
 refine(I.laid (o:=.aG (s.heap.objs.size+1)) (t':=s.toks) (λb u q=>cc _ q) (bz _) ⟨_,e1⟩).laid (λb u q=>cc _ q) (Nat.le_of_eq (su _ _)) ?_;have ne:s.heap.objs.size≠s.heap.objs.size+1:=di (tq _);refine⟨by rw[jz ne,jv],fH _,ne,e2,λx=>ah,(Heap.Ns1.of_empty c).at λo q=>cc _ q,λx=>o9,λy g=>absurd aa g⟩
def jjT(d:lL e f env (eval e env)=eval e env)
  (h:wpAny (aN a w) A (eval e env) (λo c=>wpAny (aN a w) A (getAttr o f af) Q E c) E s):wpAny (aN a w) A (eval (.Attribute e f g) env) Q E s:=
 Attribute_any_ h (by rw[arm_eval_Attribute,d])
end
def Hl(c:bK)(e:TE)(f:Str):TE:=λg H Q=>e g H λx d=>∃a C dx fs v,x=.ref a/\d a=ae (.ins C dx fs)/\gI c C/\fq c C f/\fs.lookup f=ae v/\Q v d
def Hm(d:bK)(g h:TE)(f:Str):TS:=λD c H=>h c H λy i=>g c i λx e=>∃a C dx fs,x=.ref a/\e a=ae (.ins C dx fs)/\gI d C/\fq d C f/\fs.length<1000/\
 D.nx c (aQ e a (.ins C dx (dN f y fs)))
section
def jkY(g:PE X e i)(j:lL e f X.V (eval e X.V)=eval e X.V):PE X (.Attribute e f m) (Hl X.K i f):=by
 intro d s o H Q I h;refine jjT j (bE (g d s o H _ I h) ?_);rintro u J ⟨x,p,r,w,a,C,dx,fs,v,y,z,c,n,l,q⟩;subst y;obtain rfl:u=cg a:=w;exact jbq r z c n l λL N B E=>⟨v,p,B,E,q⟩
def jkM(j:PE X o m)(p:PE X value r)(v:kw value (ae (.Attribute o f e)) g.line X.V=pure ag):PS X (.Assign [.Attribute o f e] value g) (Hm X.K m r f):=by
 intro d s i H D I h;refine plainObj_wpAny_Assign_Attribute (bE (p d s i H _ I h) ?_) v;rintro u w ⟨y,z,B,E,q⟩;refine bE (j d w i z _ B q) ?_;rintro ov Y ⟨x,H2,J,L,a,C,dx,fs,N,O,c,n,l,Q⟩;subst N;obtain rfl:ov=cg a:=L;exact jaO J O c n l E λs3 U=>⟨i,_,U,Q⟩
end
section
variable{r:St}{H:Hp}
inductive gt(κ:bK)(H:Hp):V->aJ->Prop where
 |bo:gt κ H .bo (.type "NoneType")
 |bl (x:Bool):gt κ H (.bl x) (.type "bool")
 |int (i:Int):gt κ H (.int i) (.type "int")
 |str (x:Str):gt κ H (.str x) (.type "str")
 |se (x:UInt64):gt κ H (.se x) (.type "float")
 |al {a:ar} {xs:List V} (e:H a=ae (.al xs)):gt κ H (.ref a) (.type "list")
 |bQ {a:ar} {o:Obj} {xs:List V} (e:H a=ae (.bQ o (.al xs))):gt κ H (.ref a) (.type "list")
 |ap {a:ar} {xs:List V} (e:H a=ae (.ap xs)):gt κ H (.ref a) (.type "tuple")
 |dK {a:ar} {kvs:List (dY×V)} (e:H a=ae (.dK kvs)):gt κ H (.ref a) (.type "dict")
 |dT {a:ar} {kvs:List (List M.NK×V)} (e:H a=ae (.dT kvs)):gt κ H (.ref a) (.type "dict")
 |ins {a C dx:ar} {fs:List (Str×V)} (e:H a=ae (.ins C dx fs)) (cl:gI κ C) (ha:ix κ (.ref C) "__class__" =ae (ae (.builtin "object.__class__")))
  (hn:Cv κ (.builtin "object.__class__") "__get__" =ae (ae (.builtin "getset_descriptor.__get__"))) (No:PySem.W.takesIn κ (.builtin "object.__class__")=ae af)
  (hm:PySem.W.mroIn κ C (.type "object")=ae af):gt κ H (.ref a) (.ref C)
def jdp(I:aK X z r H s)(d:aR x u)(L:gt X.K H x t)(e:gJ X.K t c=ae b)(h:∀tk,Q (.bool b) {s with toks:=tk}):
  wpAny (bj X) A (call (.builtin "isinstance") [u,c]) Q E s:=by
 cases L with
 |bo=>cases(d);exact ot PySem.W.kitx_none I.fP o9 e bF h
 |bl y=>cases(d);exact ot PySem.W.kitx_bool I.fP o9 e bF h
 |int i=>obtain⟨t,q⟩:=(d);cases q;exact ot PySem.W.kitx_int I.fP o9 e bF h
 |str y=>obtain⟨t,q⟩:=(d);cases q;exact ot PySem.W.kitx_str I.fP o9 e bF h
 |se y=>obtain⟨t,q⟩:=(d);cases q;exact ot PySem.W.kitx_float I.fP o9 e bF h
 | @al a m g=>
  cases(d);obtain⟨_,_,n,_,j⟩:=(I.be a _ g)
  exact ot Ho I.fP ⟨_,j,rfl⟩ e bF h
 | @bQ a ob m g=>
  cases(d);obtain⟨_,_,_,n,_,j⟩:=(I.be a _ g)
  exact ot Ho I.fP ⟨_,j,rfl⟩ e bF h
 | @ap a m g=>
  cases(d);obtain⟨_,_,_,p⟩:=(I.be a _ g)
  obtain⟨o,j,l,_⟩:=p;exact ot PySem.W.kitx_tuple I.fP ⟨o,j,l⟩ e bF h
 | @dK a v g=>
  cases(d);obtain⟨_,_,vs,_,p⟩:=(I.be a _ g)
  obtain⟨o,N,U,j,l,_⟩:=p;exact ot PySem.W.kitx_dict I.fP ⟨o,j,l.1⟩ e bF h
 | @dT a v g=>
  cases(d);obtain⟨_,_,m,_,o,N,U,j,l,_⟩:=(I.be a _ g)
  exact ot PySem.W.kitx_dict I.fP ⟨o,j,l.1⟩ e bF h
 | @ins a C dx fs g B Y hn w hm=>
  cases(d);obtain⟨mA,O,_⟩:=Kk I.be g;obtain⟨od,J,_⟩:=O.look;exact ot (PySem.W.kitx_own (B.get _) B.hd Y hn w hm) I.fP J e bF h
end
structure aX(k:Nat)(A:hJ):Prop where
 hd:A.handled=ah
 dp:A.depth+3*k+5<recursionLimit
 un:A.units+16*k+200<cLine
 gd:A.guards=ae []
def aX.mono(r:aX k A)(h:j<=k):aX j A:=⟨r.hd,EY (Nat.add_le_add_right (EZ (Nat.mul_le_mul_left 3 h) _) 5) r.dp,EY (Nat.add_le_add_right (EZ (Nat.mul_le_mul_left 16 h) _) 200) r.un,r.gd⟩
def aX.deeper(r:aX (k+1) A)(env):aX k (A.deeper env):=
 ⟨r.hd,by have:=r.dp;show A.depth+1+3*k+5<_;omega,by have:=r.un;show A.units+3+16*k+200<_;omega,r.gd⟩
def jbc{A:hJ}:(A.under (.builtin "type.__call__" ⟨.ref C::a,c⟩)).depth=A.depth+1:=by
 first|rfl|simp[Around.under,Code.weight,Code.isCreation,Code.isGuard,Code.isCaller,Code.frames,Code.isFrame,guardIds]
def jbb{A:hJ}:(A.under (.builtin "type.__call__" ⟨.ref C::a,c⟩)).units=A.units+1:=by
 first|rfl|simp[Around.under,Code.cUnits,Code.frames,Code.isFrame]
def aX.make(r:aX (k+1) A)(C)(a)(c):aX k (A.under (.builtin "type.__call__" ⟨.ref C::a,c⟩)):=
 ⟨r.hd,by have:=r.dp;rw[jbc];omega,by have:=r.un;rw[jbb];omega,by first|exact r.gd|(show pushGuards _ A.guards=_;rw[r.gd];rfl)⟩
def aX.depth(r:aX k A):A.depth<recursionLimit:=by have:=r.dp;omega
def aX.units(r:aX k A):A.units+64<cLine:=by have:=r.un;omega
def Cw:TA:=λx H Q=>Q [] H
def jmB(c:TE)(d:TA):TA:=λa H Q=>c a H λx e=>d a e λg h=>Q (x::g) h
section
def zV:PA X [] Cw:=λx x x x H Q I h=>Hq ⟨[],H,I,.nil,h⟩
def qc(i:PE X e j)(l:PA X d t)(m:Wn X e d:=by rfl):PA X (e::d) (jmB j t):=by
 intro c a s g H Q I h;rw[m];refine Hr (bE (i a s g H _ I h) ?_);rintro u n ⟨x,o,p,q,r⟩;exact bE (l c a n g o _ p r)<|by rintro E J ⟨v,w,y,z,B⟩;exact⟨x::v,w,y,.cons q z,B⟩
def Hs(t:TA):TE:=λd H Q=>t d H λa c=>a.length<=ba/\∀p,c p=ah->Q (.ref p) (aQ c p (.ap a))
def Ht(t:TA):TE:=λd H Q=>t d H λa c=>a.length<=ba/\∀p,c p=ah->Q (.ref p) (aQ c p (.al a))
def jkR(h:PA X i t):PE X (.Tuple i p c) (Hs t):=by
 intro a s j H Q I l;refine wpAny_Tuple_spliced (bE (h c a s j H _ I l) λm d ⟨n,o,g,r,z,q⟩=>⟨by rw[<-r.length];exact z,?_⟩);refine⟨.ref d.heap.objs.size,aQ o d.heap.objs.size (.ap n),g.laid (λb u e=>cc _ e) (bz _) ?_,rfl,q _ (g.be.fresh (bz _))⟩;exact⟨z,m,r,⟨_,dA _ aa,rfl,_,rfl⟩⟩
def jkW(h:PA X i t):PE X (.List i c) (Ht t):=by
 intro a s j H Q I l;refine wpAny_List_spliced (bE (h c a s j H _ I l) λm d ⟨n,o,g,r,z,q⟩=>⟨by rw[<-r.length];exact z,?_⟩);refine⟨.ref d.heap.objs.size,aQ o d.heap.objs.size (.al n),g.laid (λb u e=>cc _ e) (bz _) ?_,rfl,q _ (g.be.fresh (bz _))⟩;exact⟨z,m,0,r,dA _ aa⟩
end
abbrev Sp:=List V->Hp->VK->XK->Prop
abbrev w4:=List Env->Hp->bT->XK->aJ->bT->Prop
structure ou(P:fW)(w:World)(κ:bK)(mg:YE)(aj:Heap)(A:hJ)(outer:List Env)(s:bT)(H:Hp):Prop where
 frames:A.frames=ae outer
 mod:Mod κ mg aj
 bs:∀b o,aj.get? b=ae o->s.heap.get? b=ae o/\H b=ah
 oi:aj.objs.size<=s.heap.objs.size
 fG:s.heap.FunFrames aj outer
 pv:∀b∈eD outer,H b=ah
 be:eA P w H s.heap
 bare:rD s.gens
def CE(a:List Env)(P:fW)(w:World)(H:Hp)(s:bT)(Q:VK)(u:aJ)(c:bT):Prop:=
 ∃v d,c.os=s.os/\rD c.gens/\Un (eD a) [] H d s.heap c.heap/\eA P w d c.heap/\aR v u/\Q v d
def CR(d:w4)(a:List Env)(P:fW)(w:World)(H:Hp)(s:bT)(Q:VK)(E:XK)(r:Result)(c:bT):Prop:=
 match r with
 |.ok (.ret u)=>CE a P w H s Q u c
 |.ok _=>False
 |.error e=>d a H s E e c
structure cZ(P:fW)(w:World)(κ:bK)(mg:YE)(aj:Heap)(CX:w4)(k:Nat)(f:ar)(fd:FuncData)(ps:List Str)(sp:Sp):Prop where
 len:∀vs H Q E,sp vs H Q E->vs.length=ps.length
 run:∀(A:hJ)(outer:List Env)(s:bT)(H:Hp)(args:Args)(us:List aJ)(vs:List V)(Q:VK)(E:XK),aX k A->ou P w κ mg aj A outer s H->BindsTo s fd args (ps.zip us)->aW vs us->sp vs H Q E->
  lZ (aN P w) A (.call (.ref f) args) (CR CX outer P w H s Q E) s
def cZ.mono(F:cZ P w a mg aj c j f d e g)(h:j<=k):
 cZ P w a mg aj c k f d e g:=⟨F.len,λA outer s H args i l Q E hr=>F.run A outer s H args i l Q E (hr.mono h)⟩
def ou.make(e:ou P w a mg aj A outer s H)(C)(c)(d):
 ou P w a mg aj (A.under (.builtin "type.__call__" ⟨.ref C::c,d⟩)) outer s H:=⟨by first|exact e.frames|(simpa[Around.under,Code.envs,Code.isFrame,pushEnvs]using e.frames),e.mod,e.bs,e.oi,e.fG,e.pv,e.be,e.bare⟩
section
variable{p:St}
def aK.l5(I:aK X a p H s):ou X.P X.w X.K X.mg X.aj X.A X.stack s H:=
 ⟨I.ok.frames,I.ok.mod,I.bs,cn I.ok.oi I.sz,I.stack,I.fY,I.be,I.bare⟩
def aK.after(I:aK X a p H s)(h:CE X.stack X.P X.w H s Q u e):EP X a p Q u e:=by
 obtain⟨v,i,os,bare,un,be,r,q⟩:=h;obtain⟨j,g,d,t,c⟩:=e;obtain rfl:c=s.os:=os;exact⟨v,i,I.call un be bare (λb z=>absurd z aE),r,q⟩
end
def jmC(a:Sp)(mX:List V)(E:XK)(t:TA):TE:=λc H Q=>t c H λd e=>a (d++mX) e Q E
def Np(C:ar)(m:Str)(e:Sp)(mX:List V)(E:XK)(g:TE)(t:TA):TE:=λc H Q=>g c H λx d=>∃a dx fs,x=.ref a/\d a=ae (.ins C dx fs)/\fs.lookup m=ah/\
 t c d λh i=>e (x::(h++mX)) i Q E
def Binds(e:bK)(g:FuncData)(c:List Str)(d:List aJ):Prop:=
 ∀(s:bT)(a:List aJ),e.In s.heap->(a++d).length=c.length->BindsTo s g ⟨a,[]⟩ (c.zip (a++d))
def Binds.all(h:∀a,a.length=c.length->bindArgs d ⟨a,[]⟩=pure (c.zip a)):Binds e d c []:=λs a x hl=>by
 rw[rH]at hl ⊢;exact .of_eq (h a hl)
def ZM(d:w4)(X:Cx)(E:XK):Prop:=∀(a:List (ar×Obj))(g:St)(H:Hp)(s:bT)(e:aJ)(c:bT),aK X a g H s->d X.stack H s E e c->X.xe e c
section
variable{X:Cx}{v:w4}{k:Nat}{f C:ar}{y:FuncData}{B:List Str}{z:Sp}{mX:List V}{L:List aJ}{E:XK}{m:Str}{O N:Pos}{e o:Expr}{J:List Expr}{n:TE}{t:TA}
def Hu{g:St}(F:cZ X.P X.w X.K X.mg X.aj v k f y B z)(j:aX k X.A)(l:Binds X.K y B L)(p:aW mX L)(q:ZM v X E)
  (I:aK X a g H s) (r:aW vs c) (h:z (vs++mX) H Q E):wpAny (bj X) X.A (call (.ref f) c) (EP X a g Q) X.xe s:=by
 have i:=r.append p;have w:(c++L).length=B.length:=by rw[<-i.length];exact F.len _ _ _ _ h
 refine Bm (tt (F.run X.A X.stack s H ⟨c,[]⟩ (c++L) (vs++mX) Q E j I.l5 (l s c I.fP w) i h) λr U d=>?_)
 cases r with
 |error e=>exact q a g H s e U I d
 |ok Y=>
  cases Y with
  |ret u=>exact I.after d
  |next|brk|cont=>exact mT d
def kr(F:cZ X.P X.w X.K X.mg X.aj v k f y B z)(i:aX k X.A)(j:Gl X x)(l:X.mg x=ae (.ref f))(u:lc X.K (.ref f)=af)(w:Binds X.K y B L)(U:aW mX L)(Y:ZM v X E)
  (ha:PA X (e::J) t) (c:YG x:=by decide) (he:Wn X e J:=by rfl) (d:Vl X O J:=by rfl):
  PE X (.Call (.Name x p) (e::J) [] O) (jmC z mX E t):=by
 intro a s σ H Q I h;refine Bn (Zk I j l ?_ c);refine E2 I.ok.mod.vE u (bE (ha O a s σ H _ I h) λus s1 ⟨vs,H1,g,r,q⟩=>⟨g.fP,?_⟩) he d;exact Hu F i w U Y g r q
def jim{pl:Sem Bool}(Y:PE X o n)(c:gI X.K C)(j:Meth X.K C m f)(F:cZ X.P X.w X.K X.mg X.aj v k f y B z)(hr:aX k X.A)(hb:Binds X.K y B L)(hd:aW mX L)(hx:ZM v X E)(ha:PA X (e::J) t)
  (g:Wn X e J:=by rfl) (i:Vl X O J:=by rfl)
  (ht:eval (.Call (.Attribute o m N) (e::J) [] O) X.V=(do
   let ov<-eval o X.V
   rF N.atName
   let (f,first)<-mS [ov] (getMethod ov m pl)
   callWith O f first (fh O (bx (e::J) X.V)) (mz O (mB [] X.V))):=by rfl):
  PE X (.Call (.Attribute o m N) (e::J) [] O) (Np C m z mX E n t):=by
 intro d s p H Q I h;refine PySem.W.methodCall_KW (bE (Y d s p H _ I h) ?_) ht;rintro u s1 ⟨x,H1,w,rx,a,dx,fs,ex,ea,l,q⟩;subst ex;obtain rfl:u=cg a:=rx;refine Yl w ea c j l ?_;refine E2 I.ok.mod.vE j.kp (bE (ha O d s1 p H1 _ w q) λus s2 ⟨vs,H2,U,r,q2⟩=>⟨U.fP,?_⟩) g i;exact Hu (vs:=.ref a::vs) F hr hb hd hx U (.cons aa r) q2
def jff{pl:Sem Bool}(j:PE X o n)(c:gI X.K C)(i:Meth X.K C m f)(F:cZ X.P X.w X.K X.mg X.aj v k f y B z)(p:aX k X.A)(r:Binds X.K y B L)(w:aW mX L)(U:ZM v X E)
  (Y:eval (.Call (.Attribute o m N) [] [] O) X.V=(do
   let ov<-eval o X.V
   rF N.atName
   let (f,first)<-mS [ov] (getMethod ov m pl)
   callWith O f first (fh O (bx [] X.V)) (mz O (mB [] X.V))):=by rfl):
  PE X (.Call (.Attribute o m N) [] [] O) (Np C m z mX E n Cw):=by
 intro d s σ H Q I h;refine PySem.W.methodCall_KW (bE (j d s σ H _ I h) ?_) Y;rintro u s1 ⟨x,H1,g,rx,a,dx,fs,ex,ea,l,q⟩;subst ex;obtain rfl:u=cg a:=rx;refine Yl g ea c i l ?_;exact PySem.W.callWith_K0 g.fP i.kp (Hu (vs:=[.ref a]) F p r w U g (.cons aa .nil) q)
structure Mk(κ:bK)(C f:ar):Prop where
 makes:wr κ C=af
 init:ix κ (.ref C) "__init__" =ae (ae (.ref f))
 fn:EV κ (.ref f)=af
 kp:lc κ (.ref C)=af
end
structure aC(N P:List Str)(sc:Scope):Prop where
 kind:sc.kind=.function
 co:sc.isCoroutine=ag
 gen:sc.isGenerator=ag
 nd:N.Nodup
 pre:N.take P.length=P
 par:∀x∈P,sc.names.lookup x=ae .local\/sc.names.lookup x=ae .cell
 w5:∀y∈sc.names,y.2≠ .free
theorem UK{kindOf}:∀{binds}{m},(∀v,(x,v)∉binds)->bindL kindOf binds m x=m x
 |[],_,_=>rfl
 |(n,v)::r,m,h=>by
  unfold bindL;rw[UK λw hw=>h w (g9 _ hw)]
  split
  .have:x≠n:=by rintro rfl;exact h v g8
   simp[this]
  .rfl
theorem UM{kindOf}:∀{binds}{m},(∀v,(x,v)∉binds)->bindC kindOf binds m x=m x
 |[],_,_=>rfl
 |(n,v)::r,m,h=>by
  unfold bindC;rw[UM λw hw=>h w (g9 _ hw)]
  split
  .rfl
  .have:x≠n:=by rintro rfl;exact h v g8
   simp[this]
set_option tactic.hygienic true in
theorem UL{kindOf}{x}{v}:∀{P:List Str}{a}{i:Nat}{m},P.Nodup->P[i]?=ae x->a[i]?=ae v->kindOf x=ae .local->
  bindL kindOf (P.zip a) m x=ae v
 |[],_,_,_,_,h,_,_|_::_,[],_,_,_,_,h,_=>by simp at h
 |p::P,w::a,0,m,nd,c,d,e=>by
  simp at c d;subst c;subst d;show bindL kindOf ((p,w)::P.zip a) m p=_;unfold bindL;rw[UK λv g=>(rJ.mp nd).1 (List.of_mem_zip g).1,if_pos e];simp
 |p::P,w::a,i+1,m,nd,c,d,e=>by
  unfold bindL;exact UL (rJ.mp nd).2 (by simpa using c) (by simpa using d) e
set_option tactic.hygienic true in
theorem UN{kindOf}{x}{v}:∀{P:List Str}{a}{i:Nat}{m},P.Nodup->P[i]?=ae x->a[i]?=ae v->kindOf x≠ae .local->
  bindC kindOf (P.zip a) m x=ae v
 |[],_,_,_,_,h,_,_|_::_,[],_,_,_,_,h,_=>by simp at h
 |p::P,w::a,0,m,nd,c,d,e=>by
  simp at c d;subst c;subst d;show bindC kindOf ((p,w)::P.zip a) m p=_;unfold bindC;rw[UM λv g=>(rJ.mp nd).1 (List.of_mem_zip g).1,if_neg e];simp
 |p::P,w::a,i+1,m,nd,c,d,e=>by
  unfold bindC;exact UN (rJ.mp nd).2 (by simpa using c) (by simpa using d) e
def start(N:List Str)(a:List V):St:=a.map ae++Cy (N.length-a.length) ah
def cA(h:w4)(P:fW)(w:World)(i:bK)(mg:YE)(aj:Heap)(N:List Str)(c:Str)(a:Scope)(f:ar)(g:aJ)(A:hJ)(outer:List Env)(s:bT)(H:Hp)(E:XK):Cx where
 P:=P
 w:=w
 K:=i
 mg:=mg
 aj:=aj
 A:=A.deeper (i5 c a s.heap.objs.size f g)
 N:=N
 eB:=s
 lX:=H
 V:=i5 c a s.heap.objs.size f g
 outer:=outer
 stack:=i5 c a s.heap.objs.size f g::outer
 ex:=[]
 bU:=af
 fn:=λx=>af
 pn:=[]
 xe:=λe j=>wpAny (aN P w) (A.deeper (i5 c a s.heap.objs.size f g)) (leaving (i5 c a s.heap.objs.size f g) e) (λx d=>h outer H s E e d) (λl d=>h outer H s E l d) j
def Nq{a:Scope}(h:a.names.lookup x=ae .cell):∃c,(cellsFrom n a.names []).lookup x=ae c:=by
 exact Hv.mp (PySem.W.cellsFrom_some a.names n [] (.inl h))
set_option tactic.hygienic true in
theorem jdr
   (S:aC N m d) (hd:A.handled=ah) (e0:ou P w O Q l A g s H) (hl:n.length=m.length) (r:aW n U)
   (x:InCallC s s.heap.objs.size (bindL (i5 j d s.heap.objs.size f L).kindOf (m.zip U) λa=>ah) (cellsFrom (s.heap.objs.size+1) d.names []) (bindC (i5 j d s.heap.objs.size f L).kindOf (m.zip U) λa=>ah) s1):
   aK (cA CX P w O Q l N j d f L A g s H E) [] (start N n) H s1:=by
 have E3:m.length<=N.length:=by have:=congrArg ao S.pre;rw[Bo]at this;omega
 obtain⟨J,tk,rfl,Y⟩:=x.done;have mY:∀b:ar,b∉(cA CX P w O Q l N j d f L A g s H E).ex:=λb z=>absurd (show b∈([]:List ar) from z) aE
 refine⟨⟨e0.mod,S.kind,rfl,rfl,bz _,λy z c J o=>?_,λy hy=>?_,λy c a h=>?_,λa=>hd,Around.frames_deeper e0.frames,.inr ⟨rfl,rfl⟩,λb z=>absurd z (mY b),e0.bs,e0.oi,λb a a=>mY b,λb z=>absurd z (mY b),e0.fG,e0.pv⟩,
   rfl,e0.bare,Un.kept Y,⟨_,x.toInCall.ns,λi y v J o h3=>?_⟩,λy c h=>⟨_,x.cell y c h⟩,e0.be.fresh (bz _),λy c h=>?_,λp B=>absurd (show p∈([]:List (ar×Obj)) from B) aE,e0.be.kept Y,?_⟩
 .exact name_of_addr x.apart (xb J) (xb o)
 .have hy:=hy;rcases hy with hy|hy
  .exact Nq hy
  .exact absurd aa (S.w5 _ (xb hy))
 .exact Bf (x.above y c (xb h))
 .have hi:i<n.length:=by
    unfold start at o
    grind
  have ha:n[i]?=ae v:=by
    unfold start at o;rw[mC aZ,hU]at o
    cases e:n[i]? with
    |none|some _=>simp_all
  obtain⟨u,hu,rv⟩:=r.get ha
  have B:m[i]?=ae y:=by
    rw[<-S.pre,Hw ak];exact J
  have I:m.Nodup:=by rw[<-S.pre];exact S.nd.sublist (List.take_sublist _ _)
  refine⟨u,rv,?_⟩;rcases S.par y (lf B)with k|k
  .exact .inl ⟨k,UL I B hu k⟩
  .obtain⟨c,e⟩:=Nq k;refine .inr ⟨.inl k,c,e,?_⟩;have q:=x.cell y c e;rw[UN I B hu (by show d.names.lookup y≠_;rw[k];decide)]at q;exact q
 .exact e0.be.fresh (Bf (x.above y c (xb h)))
 .unfold start;show _=N.length
  simp_all
def Hx{dV kV L pm g ct oc}
  (lk:Y.lookup f=ae ⟨oc,od,.func (rK name d h j a dV kV L pm an g ct),E4⟩) (pc:Bp Y g d=af) (S:aC N ps a)
  (len:∀l H Q E,sp l H Q E->l.length=ps.length)
  (z:∀(A)(c)(s)(H)(l)(Q)(E),aX k (A.deeper (i5 d a s.heap.objs.size f g))->sp l H Q E->
    ∃t,eh (cA CX P w Y mg m N d a f g A c s H E) j t/\t {nx:=λC p=>Q .bo p,rt:=Q} (start N l) H):
  cZ P w Y mg m CX (k+1) f (rK name d h j a dV kV L pm an g ct) ps sp:=by
 refine⟨len,λA c s H args us l Q E hr e0 hb r O=>?_⟩;have KX:=e0.mod.vE.keeps λb o e=>(e0.bs b o e).1
 have B:∀y∈ps.zip us,a.names.lookup y.1=ae .local\/(a.names.lookup y.1=ae .cell/\((cellsFrom (s.heap.objs.size+1) a.names []).lookup y.1).isSome=af):=by
  rintro⟨n,v⟩ hy;rcases S.par n (List.of_mem_zip hy).1 with q|q
  .simp_all
  .exact .inr ⟨q,PySem.W.cellsFrom_some _ _ _ (.inl q)⟩
 refine codeAny_call_function hr.depth (KX _ _ lk) aa S.co S.gen aa (PySem.W.codeRec_of KX pc) (hb _ _ _ _ ?_);refine wpAny_newFunctionEnv_cells S.kind B λenv he s1 x=>?_
 subst he;refine⟨(e0.mod.nolimit.keeps λb o e=>(e0.bs b o e).1).keeps x.toInCall.keep,codeAny_func ?_⟩;obtain⟨t,ht,hq⟩:=z A c s H l Q E (hr.deeper _) O;refine lU (ht [] s1 (start N l) H _ (jdr S hr.hd e0 (len _ _ _ _ O) r x) hq) (λfl s' I=>?_) λe s' I=>I
 have U:∀{i:St}{p:Hp}{v:V}{u:aJ},aK (cA CX P w Y mg m N d a f g A c s H E) [] i p s'->aR v u->Q v p->CE c P w H s Q u s':=
  λ{i p v u} J rv q=>⟨v,p,J.os,J.bare,J.aj,J.be,rv,q⟩
 cases fl with
 |ret u=>
  obtain⟨v,i,p,J,rv,q⟩:=I;exact U J rv q
 |next=>
  obtain⟨i,p,J,q⟩:=I;exact U (v:=V.bo) J aa q
 |brk=>
  obtain⟨_,_,_,q⟩:=I
  simp_all
 |cont=>
  obtain⟨_,_,_,q⟩:=I
  simp_all
section
variable{id:String}
def Cz(r:List V->Hp->VK->Prop)(t:TA):TE:=λa H Q=>t a H λc d=>r c d Q
def yd(l:bG X (.builtin id) r)(m:Gl X x)(n:X.mg x=ah)(o:lW x=ae (.builtin id))(q:PA X (e::d) t)(u:x≠ "__name__" :=by decide)(g:YG x:=by decide)
  (v:Wn X e d:=by rfl) (i:Vl X c d:=by rfl):PE X (.Call (.Name x p) (e::d) [] c) (Cz r t):=by
 intro a s j H Q I h;refine Bn (ZD I m n o ?_ u g);exact PyProof.Rows.callWith_builtin1 (bE (q c a s j H _ I h)<|by rintro w y ⟨z,B,E,J,L⟩;exact l a y j B z w Q E J L) v i
def yM(l:bG X (.type T) r)(m:Gl X x)(n:X.mg x=ah)(o:lW x=ae (.type T))(q:PA X (e::d) t)(u:x≠ "__name__" :=by decide)(g:YG x:=by decide)
  (v:Wn X e d:=by rfl) (i:Vl X c d:=by rfl):PE X (.Call (.Name x p) (e::d) [] c) (Cz r t):=by
 intro a s j H Q I h;refine Bn (ZD I m n o ?_ u g);exact Bi (bE (q c a s j H _ I h) λw y ⟨z,B,E,J,L⟩=>l a y j B z w Q E J L) v i
end
end L2
namespace HT
open PySem PyProof.Rows
section
def sv(p:IsTup s.heap t d.toArray)(q:IsTup s.heap b c.toArray)(z:d≠[])
   (r:c=[]->Q (.ref t) s) (B:c≠[]->Q (.ref s.heap.objs.size) {s with heap:=s.heap.push {cls:=.type "tuple",data:=.seq (d++c).toArray}})
   (u:d.length+c.length<=ba):wpAny (aN j w) A (iG .Add (.ref t) (.ref b)) Q E s:=by
 obtain⟨⟨cls,dd,data,l⟩,h,v,n,y⟩:=id p;obtain⟨⟨m,e,data2,g⟩,a,i,o,hd2⟩:=id q;subst v y i hd2
 by_cases hw:c=[]
 .exact concat_meets ⟨_,h,rfl⟩ ⟨_,a,rfl⟩ noFill_tuple_add seq_tuple_add PySem.F.slot_tuple_add PySem.F.entry_tuple_add (PySem.F.args_tuple_add_2 _ _)
   (tuple_addW1 t b d.toArray c.toArray n o dd e l g aZ (by simp[hw])) ⟨h,a,r hw⟩
 .refine concat_meets ⟨_,h,rfl⟩ ⟨_,a,rfl⟩ noFill_tuple_add seq_tuple_add PySem.F.slot_tuple_add PySem.F.entry_tuple_add (PySem.F.args_tuple_add_2 _ _)
   (tuple_addW2 t b d.toArray c.toArray n o dd e l g aZ aZ ak) ⟨h,a,?_⟩
  simp_all
noncomputable def ck(n d:Nat):Option Int->Nat
 |none=>d
 |some v=>if v<0 then(v+(n:Int)).toNat else min v.toNat n
def hZ(n d):ck n d ah=d:=rfl
def gX(n d k:Nat):ck n d (ae (k))=min k n:=by
 show(if k<0 then(k+(n:Int)).toNat else min (k:Int).toNat n)=min k n
 simp_all
def jng(n d)(c:d<=n)(o):ck n d o<=n:=by
 cases o with
 |none=>exact c
 |some v=>
  show(if v<0 then(v+n).toNat else min v.toNat n)<=n
  by_cases a:v<0
  .rw[if_pos a];omega
  .rw[if_neg a];exact Nat.min_le_right _ _
def Nr(v)(n d:Nat):(if v<0 then max (v+(n:Int)) 0 else min v (n))=((ck n d (ae v):Nat):Int):=by
 show(if v<0 then max (v+n) 0 else min v n)=(((if v<0 then(v+n).toNat else min v.toNat n):Nat):Int)
 grind
def jbH(lo a)(n:Nat):Nt lo a 1 (n)=(((ck n 0 lo:Nat):Int),((ck n n a):Int)):=by
 refine Prod.ext ?_ ?_
 .cases lo with
  |none=>rfl
  |some v=>exact Nr v n 0
 .cases a with
  |none=>rfl
  |some v=>exact Nr v n n
def jaZ(i j:Nat):Hy (i) (j) 1=j-i:=by
 show Int.toNat (if(i:Int)<j then((j:Int)-i-1)/1+1 else 0)=_;rw[Int.ediv_one,Int.sub_add_cancel]
 by_cases c:(i:Int)<j
 .rw[if_pos c];exact Int.toNat_sub _ _
 .rw[if_neg c];exact(Nat.sub_eq_zero_of_le (Int.ofNat_le.mp (Int.not_lt.mp c))).symm
def XV(p:IsPart v o)(h:Q o s):wpAny (aN a w) A (Builtin.Slice.slicePartIndex v) Q E s:=by
 cases p with
 |none=>exact slicePart_none h
 |int i t=>exact slicePart_int h
def ei{lo a}{n:Nat}(g:s.heap.IsSliceOf i j l .none)(pl:IsPart j lo)(m:IsPart l a)
  (h:Q (((ck n 0 lo:Nat):Int),1,ck n n a-ck n 0 lo) s):wpAny (aN e w) A (Builtin.Slice.sliceApplied (.ref i) (pure (n))) Q E s:=by
 obtain⟨os,c,o,d⟩:=id g;refine ax (ax (ox c d aa (ax (ox c d aa (ax (ox c d aa (aP ?_)))))));refine ax (slicePart_none ?_);refine ax (XV pl (ax (XV m (ax (aP ?_)))));show wpAny _ _ (match Nt lo a 1 n with|(lo,a)=>pure (lo,(1:Int),Hy lo a 1)) _ _ s;rw[jbH lo a n];show wpAny _ _ (pure (((ck n 0 lo):Int),(1),Hy ((ck n 0 lo):Int) ((ck n n a):Int) 1)) _ _ s;rw[jaZ];exact aP h
def jfc(a:Array aJ)(i k:Nat):((gH k).filterMap λ(m:Nat)=>a[((i)+(m:Int)*1).toNat]?).toArray=((a.toList.drop i).take k).toArray:=by
 have e:(λ(m:Nat)=>a[(i+(m:Int)*1).toNat]?)=λm=>a[i+m]?:=by grind
 have:=pick_run a i k;have e2:((λx=>a[x]?) ∘ λx=>i+x)=λm=>a[i+m]?:=rfl
 simp_all
def f7{lo d}(e:IsTup s.heap t a)(l:s.heap.IsSliceOf n o p .none)(pl:IsPart o lo)(r:IsPart p d)
  (hw: ¬(ck a.size 0 lo=0/\ck a.size a.size d=a.size))
  (h:Q (.ref s.heap.objs.size) {s with heap:=s.heap.push {cls:=.type "tuple",data:=.seq ((a.toList.drop (ck a.size 0 lo)).take (ck a.size a.size d-ck a.size 0 lo)).toArray}})
  (u:a.size<=ba):wpAny (aN m w) A (rL (.ref t) (.ref n)) Q E s:=by
 have c:sizeOk (.seq ((a.toList.drop (ck a.size 0 lo)).take (ck a.size a.size d-ck a.size 0 lo)).toArray):=by
  show((a.toList.drop (ck a.size 0 lo)).take (ck a.size a.size d-ck a.size 0 lo)).toArray.size<=ba;rw[eW,Bo,Hz,gW];omega
 obtain⟨os,g,i,v⟩:=id l
 delta rL
 try with_reducible refine gk ?_
 first|refine ax (aP ?_)|skip
 refine ax (wpAny_sequenceKey e.typeIs au ?_)
 refine ax (tu e.typeIs xh
  (nK xh e.typeIs entry_tuple_getitem ?_ (args_tuple_getitem _ _)))
 show wpAny _ _ (Nu (.ref t)>>=_) _ _ s;refine ax (tupleItemsOf_ e ?_);refine ax (xi (⟨os,g,i⟩) ?_);refine ax (ei l pl r ?_)
 have j: ¬((((ck a.size 0 lo):Int)==0&&(1:Int)==1&&(ck a.size a.size d-ck a.size 0 lo)==a.size)=af):=by
  intro q;rw[fD,fD]at q;have y:=eq_of_beq q.1.1;have z:=eq_of_beq q.2;exact hw ⟨by omega,by omega⟩
 show wpAny _ _ (if(((ck a.size 0 lo):Int)==0&&(1)==1&&(ck a.size a.size d-ck a.size 0 lo)==a.size)=af then _ else _) _ _ s;rw[if_neg j,jfc]
 first
  |exact ax (nM (aP ⟨_,rfl,aP h⟩) c)
  |exact ax (nM (ax (aP (aP ⟨_,rfl,aP h⟩))) c)
  |exact ax (ax (nM (aP (aP ⟨_,rfl,aP h⟩)) c))
  |exact ax (ax (nM (aP ⟨_,rfl,aP h⟩) c))
end
end HT
namespace L2
open PySem PySem.Spec PyProof.Rows
abbrev TO:=St->Hp->(Option Int->Hp->Prop)->Prop
def PO(X:Cx)(e:Option Expr)(t:TO):Prop:=
 ∀(a:List (ar×Obj))(s:bT)(c:St)(H:Hp)(Q:Option Int->Hp->Prop),aK X a c H s->t c H Q->
  wpAny (bj X) X.A (evalPart e X.V) (λu g=>∃o d,aK X a c d g/\IsPart u o/\Q o d) X.xe s
def jhS:TO:=λx H Q=>Q ah H
def jmv(t:TE):TO:=λa H Q=>t a H λx c=>∃i,x=.int i/\Q (ae i) c
section
variable{lo U:Option Expr}
def jii:PO X ah jhS:=by
 intro a s c H Q I h;exact aP ⟨ah,H,I,.none,h⟩
def jih(h:PE X e c):PO X (ae e) (jmv c):=by
 intro a s d H Q I hw;refine bE (h a s d H _ I hw) ?_;rintro u n ⟨x,g,j,l,m⟩;obtain⟨i,rfl,q⟩:=m;obtain⟨t,rfl⟩:=l;exact⟨ae i,g,j,.int i t,q⟩
def sw(X:Cx)(r:V->Option Int->Option Int->Hp->VK->Prop):Prop:=
 ∀(a:List (ar×Obj))(s:bT)(c:St)(H:Hp)(x:V)(v d e:aJ)(lo U:Option Int)(g:ar)(Q:VK),aK X a c H s->aR x v->s.heap.IsSliceOf g d e .none->IsPart d lo->IsPart e U->r x lo U H Q->
  ∃T id,typeLookup (.type T) "__getitem__" =pure (ae (.builtin id))/\s.TypeIs v T/\wpAny (bj X) X.A (rL v (.ref g)) (EP X a c Q) X.xe s
def sw.or(h:sw X r)(m:sw X n):sw X (λx lo U H Q=>r x lo U H Q\/n x lo U H Q):=by
 intro a s c H x v d e lo U g Q I i j pl l q;rcases q with q|q
 .exact h a s c H x v d e lo U g Q I i j pl l q
 .exact m a s c H x v d e lo U g Q I i j pl l q
def tSl(r:V->Option Int->Option Int->Hp->VK->Prop)(c:TE)(d e:TO):TE:=λa H Q=>c a H λx g=>d a g λl h=>e a h λu i=>r x l u i Q
def uf(m:sw X r)(n:PE X e o)(p:PO X lo w)(y:PO X U z):PE X (.Subscript e (.Slice lo U ah p2) B) (tSl r o w z):=by
 intro a s c H Q I h;refine Subscript_ (bE (n a s c H _ I h) ?_);rintro v E ⟨x,J,L,N,O⟩;refine wpAny_Slice (bE (p a E c J _ L O) λg Y ⟨l,H2,I2,pl,q2⟩=>bE (y a Y c H2 _ I2 q2) ?_);rintro i d ⟨u,j,I3,pu,q3⟩;refine aP ?_;have I4:aK X a c j {d with heap:=d.heap.push {cls:=.type "slice",data:=.fields #[g,i,.none]}}:=I3.kept λb ob q=>cc _ q
 obtain⟨T,id,hT,ht,hg⟩:=m a {d with heap:=d.heap.push {cls:=.type "slice",data:=.fields #[g,i,.none]}} c j x v g i l u d.heap.objs.size Q I4 N (Heap.IsSliceOf.new ..) pl pu q3;exact tail_any ht hT hg (by with_unfolding_all rfl)
def oy(a:List V)(lo U:Option Int):List V:=(a.drop (HT.ck a.length 0 lo)).take (HT.ck a.length a.length U-HT.ck a.length 0 lo)
def Xf(a)(lo U):(oy a lo U).length<=a.length:=by
 delta oy
 rw[Bo,Hz];exact cn (Nat.min_le_right _ _) (Nat.sub_le _ _)
def CA(d:bK):V->Option Int->Option Int->Hp->VK->Prop:=λx lo U H Q=>∃a c,x=.ref a/\gO d H a c/\
 ¬(HT.ck c.length 0 lo=0/\HT.ck c.length c.length U=c.length)/\∀p,H p=ah->Q (.ref p) (aQ H p (.ap (oy c lo U)))
def xz:sw X (CA X.K):=by
 intro g s p H x v u w lo U y Q I l m pl n h;obtain⟨a,d,rfl,o,hw,q⟩:=h;cases l;obtain⟨e,r,i,j⟩:=I.tuple o;have c:e.toArray.size=d.length:=by rw[eW];exact r.length.symm
 refine⟨"tuple",_,xh.lookup,i.typeIs,?_⟩;refine HT.f7 i m pl n (by rw[c];exact hw) ?_ (by rw[c];exact j);rw[c];refine⟨.ref s.heap.objs.size,_,I.laid (λb ob q=>cc _ q) (bz _) ?_,rfl,q _ (I.be.fresh (bz _))⟩;exact⟨cn (Xf d lo U) j,_,(r.drop (HT.ck d.length 0 lo)).take (HT.ck d.length d.length U-HT.ck d.length 0 lo),IsTup.new _ _⟩
def HA(e:bK):R2:=λx y H Q=>∃a b d c,x=.ref a/\y=.ref b/\gO e H a d/\gO e H b c/\d≠[]/\d.length+c.length<=ba/\
 (c=[]->Q (.ref a) H)/\(c≠[]->∀p,H p=ah->Q (.ref p) (aQ H p (.ap (d++c))))
def aW.lg(r:aW a c):c=[]↔a=[]:=by
 cases r with
 |nil|cons _ _=>simp
def jit:c9 X (iG .Add) (HA X.K):=by
 intro e s L H x y v u Q I j l h;obtain⟨a,b,N,O,rfl,rfl,m,n,o,g,p,r⟩:=h;cases j;cases l;obtain⟨B,d,E,_⟩:=I.tuple m;obtain⟨i,c,J,_⟩:=I.tuple n;refine HT.sv E J (λz=>o (d.lg.mp z)) (λz=>⟨.ref a,H,I,rfl,p (c.lg.mp z)⟩) (λz=>?_) (by rw[<-d.length,<-c.length];exact g);refine⟨.ref s.heap.objs.size,_,I.laid (λb ob q=>cc _ q) (bz _) ?_,rfl,r (λw=>z (c.lg.mpr w)) _ (I.be.fresh (bz _))⟩;exact⟨by rw[lh];exact g,_,d.append c,IsTup.new _ _⟩
end
noncomputable def pB(n:Nat)(i:Int):Option Nat:=if 0<=i then(if i<n then ae i.toNat else ah)else if-(n:Int)<=i then ae (i+n).toNat else ah
def h8{a:Type}(c:List a)(i:Int):Option a:=(pB c.length i).bind λj=>c[j]?
def Nv(h:pB n i=ae j):seqIndex? i n=ae j/\j<n/\ -(n)<=i/\i<n:=by
 delta pB at h
 by_cases c:0<=i
 .rw[if_pos c]at h
  by_cases a:i<n
  .rw[if_pos a]at h;have e:=i3 h;exact⟨by rw[seqIndex_of c a,e],by omega,by omega,a⟩
  .simp_all
 .rw[if_neg c]at h
  by_cases a: -(n)<=i
  .rw[if_pos a]at h;have e:=i3 h;exact⟨by rw[seqIndex_neg ak a,e],by omega,a,by omega⟩
  .simp_all
def vB{a}{v:c}(h:h8 a i=ae v):∃j,seqIndex? i a.length=ae j/\a[j]?=ae v/\j<a.length/\ -(a.length:Int)<=i/\i<a.length:=by
 delta h8 at h
 cases e:pB a.length i with
 |none=>simp_all
 |some j=>
  obtain⟨d,g,l,m⟩:=Nv e
  simp_all
def dJ{a}{j:Nat}{v:c}(h:a[j]?=ae v):h8 a (j)=ae v:=by
 have d:j<a.length:=by grind
 have e:pB a.length j=ae j:=by
  delta pB
  simp_all
 delta h8;rw[e];exact h
def K1(b:Expr):Prop:=∀o i,subscripted b ag o i=operate [o,i] (rL o i)
def rM(X:Cx)(r:R2):Prop:=
 ∀(value a:Expr)(c:List (ar×Obj))(s:bT)(d:St)(H:Hp)(x y:V)(v u:aJ)(Q:VK),aK X c d H s->aR x v->aR y u->r x y H Q->
  subscripted a ag v u=operate [v,u] (rL v u)->wpAny (bj X) X.A (subscriptTail value a v u) (EP X c d Q) X.xe s
def pC(X:Cx)(id:String)(r:V->List V->Hp->VK->Prop):Prop:=
 ∀(a:List (ar×Obj))(s:bT)(c:St)(H:Hp)(x:V)(d:List V)(v:aJ)(e:List aJ)(Q:VK),aK X a c H s->aR x v->aW d e->r x d H Q->
  wpAny (bj X) X.A (call (.builtin id) (v::e)) (EP X a c Q) X.xe s
section
variable{a:Expr}
def rM.or(h:rM X r)(l:rM X m):rM X (λx y H Q=>r x y H Q\/m x y H Q):=by
 intro value c d s e H x y v u Q I g i q j;rcases q with q|q
 .exact h value c d s e H x y v u Q I g i q j
 .exact l value c d s e H x y v u Q I g i q j
def pC.or{id}(h:pC X id r)(l:pC X id m):pC X id (λx d H Q=>r x d H Q\/m x d H Q):=by
 intro c s e H x d v g Q I i j q;rcases q with q|q
 .exact h c s e H x d v g Q I i j q
 .exact l c s e H x d v g Q I i j q
def HB(d:rM X r)(e:PE X a g)(i:PE X b j)(l:K1 b):PE X (.Subscript a b m) (v4 r g j):=by
 intro c s n H Q I h;exact Subscript_ (v5 e i I h λv u o x y p w z B q=>d a b c o n p x y v u Q w z B q (l _ _))
def CB(d:bK):R2:=λx y H Q=>∃p c i v,x=.ref p/\y=.int i/\df d H p c/\h8 c i=ae v/\Q v H
def CC(d:bK):R2:=λx y H Q=>∃p c i v,x=.ref p/\y=.int i/\gO d H p c/\h8 c i=ae v/\Q v H
def CD:R2:=λx y H Q=>∃z i c,x=.str z/\y=.int i/\z.length<=ba/\h8 z.cps.toList i=ae c/\Q (.str ⟨#[c]⟩) H
def sx:rM X (CB X.K):=by
 intro value e c s B H x y v u Q I E J h m;obtain⟨p,xs,i,z,rfl,rfl,L,N,q⟩:=h;cases E;obtain⟨t,rfl⟩:=J;obtain⟨g,r,pl,hz⟩:=I.list L;obtain⟨j,n,O,h3,U,Y⟩:=vB N;obtain⟨w,ew,l⟩:=r.get O;have hl:=r.length;have hn:=Yb;have d:EP X c B Q w s:=⟨z,H,I,l,q⟩
 by_cases o:0<=i
 .have hj:i.toNat=j:=by
   rw[seqIndex_of o Y]at n
   simp_all
  exact item_listR pl.isList o ak aZ d m
 .have hj:(i+(g.toArray.size)).toNat=j:=by
   rw[seqIndex_neg ak U]at n
   simp_all
  exact subscriptTail_builtinR pl.isList.typeIs slot_list_getitem.lookup
   (wpAny_getItem_list_neg pl.isList ak aZ ak aZ ⟨rfl,d⟩) m
def x9:rM X (CC X.K):=by
 intro value d c s l H x y v u Q I m n h o;obtain⟨p,Y,i,z,rfl,rfl,B,E,q⟩:=h;cases m;obtain⟨t,rfl⟩:=n;obtain⟨J,r,pl,hz⟩:=I.tuple B;obtain⟨j,L,N,h3,h4,h5⟩:=vB E;obtain⟨w,O,e⟩:=r.get N;have U:=r.length;have hn:=Yb;have g:EP X c l Q w s:=⟨z,H,I,e,q⟩
 exact subscriptTail_builtinR pl.typeIs xh.lookup
  (getItem_tuple pl ak ak (by rw[eW,<-U];exact L) (by simpa using O) ⟨rfl,g⟩) o
def jlw:rM X CD:=by
 intro value d e s o H x y v u Q I g l h m;obtain⟨z,i,c,rfl,rfl,p,n,q⟩:=h;obtain⟨t,rfl⟩:=g;obtain⟨r,rfl⟩:=l;obtain⟨j,w,B,E,J,L⟩:=vB n;have N:z.cps.toList.length=z.length:=by simp[Str.length]
 have O:=Yb
 exact tail_any (typeIs_str s z t) slot_str_getitem.lookup (getItem_str (by
  have e1:aD (i< -(2^63))=ag:=by grind
  have e2:aD (i>=2^63)=ag:=by grind
  rw[e1,e2,E5]) aZ ⟨.str ⟨#[c]⟩,H,I.tok _,⟨_,rfl⟩,q⟩) m
def Nw(c:bK):R2:=λx y H Q=>CB c x y H Q\/CC c x y H Q\/CD x y H Q
def Nx:rM X (Nw X.K):=sx.or (x9.or jlw)
def jba(c:List aJ)(n j)(u):lM (·.setIfInBounds j u) {cls:=.type "list",data:=.seq c.toArray n}={cls:=.type "list",data:=.seq (c.set j u).toArray n}:=by
 simp[lM]
def aK.al{i:St}(I:aK X d i H s)(h:H p=ae (.al g)):
  ∃(c:List aJ)(n:Nat),aW g c/\s.heap.get? p=ae {cls:=.type "list",data:=.seq c.toArray n}/\g.length<=ba:=by
 obtain⟨z,c,n,r,e⟩:=I.be p _ h;exact⟨c,n,r,e,z⟩
def aK.yc{i:St}{d c:List aJ}(I:aK X g i H s)(h:H p=ae (.al w))
  (o:s.heap.get? p=ae {cls:=.type "list",data:=.seq d.toArray n}) (j:f {cls:=.type "list",data:=.seq d.toArray n}={cls:=.type "list",data:=.seq c.toArray l}) (r:aW m c) (hz:m.length<=ba) (t):
  aK X g i (aQ H p (.al m)) {s with heap:=s.heap.update p f,toks:=t}:=by
 have e:(s.heap.update p f).get? p=ae {cls:=.type "list",data:=.seq c.toArray l}:=by
  rw[sy f o (by rw[j]<;>rfl),j]
 refine I.write (by rw[h];trivial) (.inl aa) (λb u v q=>(sA _ _ (gM v)).trans q) ⟨_,e⟩ ?_;exact⟨hz,c,l,r,e⟩
def jmI:V->V->V->Hp->(Hp->Prop)->Prop:=λo i v H Q=>∃p c k j,o=.ref p/\i=.int k/\H p=ae (.al c)/\pB c.length k=ae j/\Q (aQ H p (.al (c.set j v)))
def jeW:Ci X jmI:=by
 intro c s J H o i v ov iv u Q I L N O h;obtain⟨p,U,k,j,rfl,rfl,w,Y,q⟩:=h;cases L;obtain⟨t,rfl⟩:=N;obtain⟨d,n,r,g,hz⟩:=I.al w;obtain⟨e,h2,y,z⟩:=Nv Y;have l:=r.length;have hn:=Yb
 have B:aK X c J (aQ H p (.al (U.set j v))) {s with heap:=s.heap.update p (lM (·.setIfInBounds j u))}:=
   I.yc w g (jba d n j u) (r.set O j) (by rw[CF];exact hz) s.toks
 by_cases E:0<=k
 .have m:k.toNat=j:=by
   rw[seqIndex_of E z]at e;exact i3 e
  exact PySem.W.ki_setAt g E ak (by rw[eW,<-l];exact z) (by rw[m];exact⟨_,B,q⟩)
 .have m:(k+(d.toArray.size:Int)).toNat=j:=by
   rw[seqIndex_neg ak y]at e;rw[eW,<-l];exact i3 e
  exact PySem.W.ki_setBack g ak (by rw[eW,<-l];exact y) ak (by rw[m];exact⟨_,B,q⟩)
theorem qq1(v:Int)(n d:Nat):max 0 (min (if v<0 then v+(n:Int)else v) n)=((HT.ck n d (some v):Nat):Int):=by
 show _=(((if v<0 then(v+(n:Int)).toNat else min v.toNat n):Nat):Int)
 by_cases h:v<0
 .rw[if_pos h,if_pos h,Int.min_eq_left (by omega),Int.ofNat_toNat,Int.max_comm]
 .rw[if_neg h,if_neg h];obtain⟨k,rfl⟩:=Int.eq_ofNat_of_zero_le (Int.not_lt.mp h);rw[Int.toNat_natCast]
  exact(Int.max_eq_right (Int.le_min.mpr ⟨Int.natCast_nonneg k,Int.natCast_nonneg n⟩)).trans ((Nat.le_total k n).elim (fun q=>by rw[Nat.min_eq_left q,Int.min_eq_left (Int.ofNat_le.mpr q)]) fun q=>by rw[Nat.min_eq_right q,Int.min_eq_right (Int.ofNat_le.mpr q)])
def Vg(lo c)(n):(yo lo c ah n).1=((HT.ck n 0 lo:Nat):Int)/\(yo lo c ah n).2.1=((HT.ck n n c:Nat):Int)/\(yo lo c ah n).2.2=1:=by
 refine⟨?_,?_,rfl⟩
 .cases lo with
  |none=>rfl
  |some i=>exact qq1 _ _ _
 .cases c with
  |none=>rfl
  |some i=>exact qq1 _ _ _
def YB(c:List aJ)(lo d):slicePick c.toArray lo d ah=((c.drop (HT.ck c.length 0 lo)).take (HT.ck c.length c.length d-HT.ck c.length 0 lo)).toArray:=by
 obtain⟨e,g,h⟩:=Vg lo d c.toArray.size
 delta slicePick
 rw[e,g,h];simp only[sliceRange_one,pick_run,eW]<;>rfl
def CG(d:bK):V->Option Int->Option Int->Hp->VK->Prop:=λx lo e H Q=>∃a c,x=.ref a/\df d H a c/\∀p,H p=ah->Q (.ref p) (aQ H p (.al (oy c lo e)))
def nN:sw X (CG X.K):=by
 intro e s u H x v w y lo g z Q I j l pl m h;obtain⟨a,c,rfl,n,q⟩:=h;cases j;obtain⟨o,r,i,p⟩:=I.list n;have d:=r.length;refine⟨"list",_,slot_list_getitem.lookup,i.isList.typeIs,?_⟩;refine wpAny_getItem_list_slice i.isList l pl m .none aE ?_ aZ;rw[YB,<-d];refine⟨.ref s.heap.objs.size,_,I.laid (λb ob q=>cc _ q) (bz _) ?_,rfl,q _ (I.be.fresh (bz _))⟩;exact⟨cn (Xf c lo g) p,_,0,(r.drop (HT.ck c.length 0 lo)).take (HT.ck c.length c.length g-HT.ck c.length 0 lo),dA _ aa⟩
def li:bG X (.builtin "len") (λi H Q=>∃p d,i=[.ref p]/\(df X.K H p d\/gO X.K H p d)/\Q (.int d.length) H):=by
 intro j s n H i o Q I r h;obtain⟨p,d,rfl,hq,q⟩:=h;obtain⟨u,rfl,l⟩:=Jw r;cases l;have v:=Yb;rcases hq with hq|hq
 .obtain⟨e,g,pl,m⟩:=I.list hq;have c:=g.length;exact Calls.call_len_list pl.isList dX ⟨.int d.length,H,I.tok _,⟨s.toks+1,by rw[eW,c]⟩,q⟩
 .obtain⟨e,g,pl,m⟩:=I.tuple hq;have c:=g.length;exact len_tuple pl dX ⟨.int d.length,H,I.tok _,⟨s.toks+1,by rw[eW,c]⟩,q⟩
def UF:bG X (.builtin "len") (λc H Q=>∃z,c=[.str z]/\z.length<=ba/\Q (.int z.length) H):=by
 intro d s e H c g Q I r h;obtain⟨z,rfl,i,q⟩:=h;obtain⟨u,rfl,t,rfl⟩:=Jw r;have j:=Yb;exact len_str ak ⟨.int z.length,H,I.tok _,⟨_,rfl⟩,q⟩
def bG.or(h:bG X f r)(j:bG X f l):bG X f (λd H Q=>r d H Q\/l d H Q):=by
 intro c s e H d g Q I i q;rcases q with q|q
 .exact h c s e H d g Q I i q
 .exact j c s e H d g Q I i q
def yn:bG X (.type "list") (λL H Q=>∃p g,L=[.ref p]/\(df X.K H p g\/gO X.K H p g)/\∀l,H l=ah->Q (.ref l) (aQ H l (.al g))):=by
 intro m s O H L Y Q I r h;obtain⟨p,g,rfl,hq,q⟩:=h;obtain⟨u,rfl,U⟩:=Jw r;cases U
 have v:∀(c:List aJ),aW g c->g.length<=ba->∀(d:Heap) i,(∀b N,s.heap.get? b=ae N->d.get? b=ae N)->
    d.get? s.heap.objs.size=ae {cls:=.type "list",dict:=ah,data:=.seq c.toArray i,slots:= #[]}->EP X m O Q (.ref s.heap.objs.size) {s with heap:=d}:=λc j w d i y e=>
   ⟨.ref s.heap.objs.size,_,I.laid y (bz _) (show bC X.P X.w _ d _ (.al g) from⟨w,c,i,j,e⟩),rfl,q _ (I.be.fresh (bz _))⟩
 rcases hq with hq|hq
 .obtain⟨c,j,pl,w⟩:=I.list hq;have z:=j.length;obtain⟨o,B,E,n,J⟩:=pl.isList;exact call_list_seq p (.inl aa) B E J (λd i y e=>v c j w d i y e) aZ
 .obtain⟨c,j,pl,w⟩:=I.tuple hq;have z:=j.length;obtain⟨o,B,E,n,J⟩:=pl;exact call_list_seq p (.inr aa) B E J (λd i y e=>v c j w d i y e) aZ
def Jh:bG X (.type "tuple") (λn H Q=>∃p g,n=[.ref p]/\((df X.K H p g/\∀l,H l=ah->Q (.ref l) (aQ H l (.ap g)))\/(gO X.K H p g/\Q (.ref p) H))):=by
 intro c s v H n L Q I r h;obtain⟨p,g,rfl,h⟩:=h;obtain⟨u,rfl,B⟩:=Jw r;cases B;rcases h with⟨j,q⟩|⟨j,q⟩
 .obtain⟨d,m,pl,w⟩:=I.list j;have y:=m.length;refine call_tuple_list pl.isList (λi E=>?_) aZ;have z:aK X c v H {s with heap:=i}:=I.kept E
  have J:aK X c v (aQ H i.objs.size (.ap g)) {s with heap:=i.push {cls:=.type "tuple",data:=.seq d.toArray}}:=
   z.laid (λb o e=>cc _ e) (bz _) (⟨w,d,m,IsTup.new _ _⟩)
  exact⟨.ref i.objs.size,_,J,rfl,q _ (z.be.fresh (bz _))⟩
 .obtain⟨d,m,pl,w⟩:=I.tuple j;exact call_tuple_same pl ⟨.ref p,H,I,rfl,q⟩
def HD(d:bK)(T:String)(x:V)(H:Hp):Prop:=match x with
 |.str _=>T= "str"
 |.int _=>T= "int"
 |.ref p=>(T= "list" /\∃e,df d H p e)\/(T= "tuple" /\∃o,d.lookup p=ae o/\o.cls=.type "tuple" /\o.dict=ah)\/
  (T= "dict" /\((∃c,H p=ae (.dK c))\/∃c,Rd H p (.dT c)))\/(T= "set" /\∃S n,H p=ae (.set S n))
 |_=>False
def Ny{q:St}(I:aK X l q H s)(r:aR x v)(h:HD X.K T x H):
  s.TypeIs v T/\∀a,v=.ref a->∃ob,s.heap.get? a=ae ob/\ob.dict=ah:=by
 cases x with
 |str z=>
  obtain⟨t,rfl⟩:=r;cases(h);exact⟨typeIs_str s z t,λb e=>nomatch e⟩
 |int i=>
  obtain⟨t,rfl⟩:=r;cases(h);exact⟨typeIs_int s i t,λb e=>nomatch e⟩
 |ref p=>
  cases r;rcases h with⟨rfl,B,u⟩|⟨rfl,o,d,w,m⟩|⟨rfl,d⟩|⟨rfl,S,n,d⟩
  .obtain⟨y,_,pl,_⟩:=I.list u;refine⟨pl.isList.typeIs,λa e=>?_⟩;cases e;obtain⟨o,n,e,c,m,_⟩:=pl
   simp_all
  .refine⟨⟨o,I.fP p o d,w⟩,λa e=>?_⟩;cases e;exact⟨o,I.fP _ o d,m⟩
  .have z:∃o,s.heap.get? p=ae o/\o.ExactDict:=by
    rcases d with⟨j,d⟩|⟨j,d⟩
    .obtain⟨_,_,_,_,o,_,_,e,g,_⟩:=I.be p _ d
     simp_all
    .obtain⟨_,_,_,_,o,_,_,e,g,_⟩:=(Rd.ok d I.be)
     simp_all
   obtain⟨o,e,g⟩:=z;refine⟨⟨o,e,g.1⟩,λa e2=>?_⟩;cases e2;exact⟨o,e,g.2.1⟩
  .obtain⟨o,_,_,_,e,g,_⟩:=I.be p _ d;refine⟨⟨o,e,g.1⟩,λa e2=>?_⟩;cases e2;exact⟨o,e,g.2.1⟩
 |_=>exact mT h
def HE(d:bK)(T:String)(r:V->List V->Hp->VK->Prop)(e:TE):TE:=λg H Q=>e g H λx c=>HD d T x c/\r x [] c Q
def tBM(e:bK)(T:String)(r:V->List V->Hp->VK->Prop)(g:TE)(t:TA):TE:=λc H Q=>g c H λx d=>HD e T x d/\t c d λh i=>r x h i Q
variable{id:String}
def Nz(p:PlainAttrs T)(slot:Slot T name id)(j:typeOf (.builtin id)=pure (.type "method_descriptor"))(q:pC X id r)(u:PE X o w)
  (d:lL o name X.V (eval o X.V)=eval o X.V:=by rfl) (e:(g.endLine==i.line)=af:=by rfl):PE X (.Call (.Attribute o name g) [] [] i) (HE X.K T r w):=by
 intro c s l H Q I h;refine wpAny_Call_method0_late d e (bE (u c s l H _ I h) ?_);rintro v y ⟨x,z,m,n,B,E⟩;obtain⟨J,L⟩:=Ny m n B;exact⟨T,id,p,slot,j,J,L,HF aa (PySem.evalArgs_none (q c y l z x [] v [] Q m n .nil E))⟩
def ku(E:PlainAttrs T)(slot:Slot T name id)(q:typeOf (.builtin id)=pure (.type "method_descriptor"))(J:pC X id r)(L:PE X o N)(O:PA X (e::l) t)
  (i:lL o name X.V (eval o X.V)=eval o X.V:=by rfl)
  (n:((fh c (bx (e::l) X.V)).all (λx=>!x.1)&&(mz c (mB [] X.V)).all (λx=>x.1.isSome)
   &&aD ((e::l).length+([]:List iy).length+(if([]:List iy).isEmpty then 0 else 1)<30))=af:=by rfl)
  (j:(p.endLine==c.line)=af:=by rfl) (U:Wn X e l:=by rfl) (g:Vl X c l:=by rfl):
  PE X (.Call (.Attribute o name p) (e::l) [] c) (tBM X.K T r N t):=by
 intro d s u H Q I h;refine wpAny_Call_method_late i n j aa (bE (L d s u H _ I h) ?_);rintro v Y ⟨x,H1,y,z,ty,q1⟩;obtain⟨h1,h2⟩:=Ny y z ty;refine⟨T,id,E,slot,q,h1,h2,?_⟩;have B:=O c d Y u H1 _ y q1;rw[U]at B ⊢;refine HF (by show(ag||(fh c (bx l X.V)).any (·.1))=ag;rw[g]<;>rfl) (Calls.evalArgs_plain ?_);exact bE B<|by rintro us s2 ⟨vs,H2,I2,r2,q2⟩;exact J d s2 u H2 x vs v us Q I2 z r2 q2
/-xs.append(e),list.index on a m tuple .. are pC w of 06m-/
end
def Bq(X:Cx)(id:String)(r:V->List V->Hp->VK->Prop):Prop:=
 ∀(a:List (ar×Obj))(s:bT)(c:St)(H:Hp)(x:V)(d:List V)(v:aJ)(e:List aJ)(Q:VK),aK X a c H s->aR x v->aW d e->r x d H Q->
  wpAny (bj X) X.A (call (.builtin id) (v::e)) (EP X a c Q) X.xe s
def aW.one:∀{x}{a},aW [x] a->∃u,a=[u]/\aR x u:=by
 intro _ _ h
 cases h with
 |cons r h=>cases h;exact⟨_,rfl,r⟩
theorem aW.zero:∀{a},aW [] a->a=[]
 |_,.nil=>rfl
def aW.dropLast(h:aW a c):aW a.dropLast c.dropLast:=by
 induction h with
 |nil=>exact .nil
 |cons r t d=>
  cases t with
  |nil=>exact .nil
  |cons q e=>exact .cons r d
def jbu{a:Type}(l:List a):l.eraseIdx (l.length-1)=l.dropLast:=by simp_all
section
variable{Q:St}
def aK.oz{a its':List aJ}(I:aK X c Q H s)(g:H l=ae (.al o))
  (e:s.heap.get? l=ae {cls:=.type "list",data:=.seq a.toArray n}) (h:f a.toArray=its'.toArray) (i:aW d its') (hz:d.length<=ba):
  aK X c Q (aQ H l (.al d)) {s with heap:=s.heap.update l (lM f),toks:=p}:=by
 have q:=PySem.IsL.update e f;rw[h]at q;refine I.write (by rw[g];exact trivial) (.inl aa) (λr u j m=>(sA s.heap (lM f) (gM j)).trans m) ⟨_,q⟩ ?_;exact⟨hz,its',_,i,q⟩
def aK.yD(I:aK X a Q H s)(e:aW d c)(hz:d.length<=ba):
  aK X a Q (aQ H s.heap.objs.size (.al d)) {s with heap:=s.heap.push {cls:=.type "list",data:=.seq c.toArray},toks:=t'}:=
 I.laid (λx x q=>cc _ q) (bz _) ⟨hz,c,0,e,dA _ aa⟩
def aK.fresh(I:aK X a Q H s):H s.heap.objs.size=ah:=I.be.fresh (bz _)
def aK.iH(I:aK X d Q H s)(g:H l=ae (.al c)):c.length<=ba/\∃(a:List aJ)(n:Nat),aW c a/\c.length=a.length/\s.heap.get? l=ae {cls:=.type "list",data:=.seq a.toArray n}:=by
 obtain⟨z,a,n,r,e⟩:=I.be l _ g;exact⟨z,a,n,r,r.length,e⟩
def uo(h:n<=ba):E6 n=ag:=by
 exact decide_eq_false ak
end
section
def jh9:V->List V->Hp->VK->Prop:=λx c H Q=>∃l a y,x=.ref l/\c=[y]/\H l=ae (.al a)/\a.length<ba/\Q .bo (aQ H l (.al (a++[y])))
def VM:Bq X "list.append" jh9:=by
 intro c s m H x o v p Q I g i h;obtain⟨l,w,y,rfl,rfl,d,B,q⟩:=h;cases g;obtain⟨u,rfl,j⟩:=i.one;obtain⟨z,a,n,r,E,e⟩:=I.iH d;refine yE F.slot_list_append ⟨_,e,rfl⟩ F.entry_list_append (F.args_list_append_2 _ _) (PySem.list_append l a.toArray n u aZ) ⟨e,?_⟩;refine⟨.bo,_,I.oz d e aE (r.append (.cons j .nil)) ?_,rfl,q⟩
 grind
def jh7:V->List V->Hp->VK->Prop:=λx d H Q=>∃l b a c,x=.ref l/\d=[.ref b]/\H l=ae (.al a)/\H b=ae (.al c)/\a.length+c.length<=ba/\Q .bo (aQ H l (.al (a++c)))
def jc0:Bq X "list.extend" jh7:=by
 intro i s J H x L v N Q I m o h;obtain⟨l,b,O,U,rfl,rfl,j,p,Y,q⟩:=h;cases m;obtain⟨u,rfl,w⟩:=o.one;cases w;obtain⟨z,c,n,r,hl,e⟩:=I.iH j;obtain⟨z2,a,y,B,E,e2⟩:=I.iH p;have g:c.toArray.size+a.toArray.size<=ba:=by simp_all
 have d: ¬(!c.toArray.isEmpty&&E6 (c.toArray.size+a.toArray.size))=af:=by
  rw[uo g,E7]
  simp_all
 refine yE HG ⟨_,e,rfl⟩ F.entry_list_extend (F.args_list_extend_2 _ _)
  (AutoSeq1.list_extend_list_list_0 l c.toArray n b a.toArray y d ak ak) ⟨e,e2,?_⟩
 refine⟨.bo,_,I.oz j e aE (r.append B) ?_,rfl,q⟩
 simp_all
def HH:V->List V->Hp->VK->Prop:=λx c H Q=>∃l a y,x=.ref l/\c=[]/\H l=ae (.al a)/\a[a.length-1]?=ae y/\Q y (aQ H l (.al a.dropLast))
def jlk:Bq X "list.pop" HH:=by
 intro g s E H x J v L Q I j m h;obtain⟨l,N,y,rfl,rfl,i,o,q⟩:=h;cases j;have c:=m.zero;subst c;obtain⟨z,a,n,r,p,e⟩:=I.iH i;obtain⟨u,w,B⟩:=r.get o
 have d:a.toArray[a.toArray.size-1]?=ae u:=by
   show a.toArray[a.length-1]?=ae u;rw[<-hH,<-p];exact w
 refine yE F.slot_list_pop ⟨_,e,rfl⟩ F.entry_list_pop (F.args_list_pop_1 _) (MeetsSeq.list_pop_last l a.toArray n u d (by rw[eW];omega)) ⟨e,?_⟩;refine⟨y,_,I.oz (its':=a.dropLast) i e ?_ r.dropLast ?_,B,q⟩
 .show a.toArray.eraseIdxIfInBounds (a.toArray.size-1)=a.dropLast.toArray;rw[eW,List.eraseIdxIfInBounds_toArray,jbu]
 .rw[List.length_dropLast];omega
def jkE:V->List V->Hp->VK->Prop:=λx a H Q=>∃l c,x=.ref l/\a=[]/\H l=ae (.al c)/\Q .bo (aQ H l (.al []))
def jfJ:Bq X "list.clear" jkE:=by
 intro d s m H x o v p Q I i j h;obtain⟨l,u,rfl,rfl,g,q⟩:=h;cases i;have a:=j.zero;subst a;obtain⟨z,c,n,r,w,e⟩:=I.iH g;refine yE F.slot_list_clear ⟨_,e,rfl⟩ F.entry_list_clear (F.args_list_clear_1 _) (AutoSeq1.list_clear_list_0 l c.toArray n aZ) ⟨e,?_⟩;exact⟨.bo,_,I.oz g e aa .nil (fH _),rfl,q⟩
def zd:R2:=λx y H Q=>∃l b a c,x=.ref l/\y=.ref b/\H l=ae (.al a)/\H b=ae (.al c)/\a.length+c.length<=ba/\∀p,H p=ah->Q (.ref p) (aQ H p (.al (a++c)))
def zf:c9 X (iG .Add) zd:=by
 intro d s B H x y v u Q I g i h;obtain⟨l,b,E,J,rfl,rfl,j,m,L,q⟩:=h;cases g;cases i;obtain⟨z,c,n,r,N,e⟩:=I.iH j;obtain⟨O,a,U,o,p,e2⟩:=I.iH m;refine PySem.P.add_list e e2 ?_ aZ;have w:c.toArray++a.toArray=(c++a).toArray:=by simp
 rw[w];exact⟨.ref _,_,I.yD (r.append o) aZ,rfl,q _ I.fresh⟩
end
section
variable{Y:Type}[DecidableEq Y]
noncomputable def cC(a:List (Y×V))(k:Y):Option V:=(a.find? λc=>aD (c.1=k)).map (·.2)
noncomputable def putK(a:List (Y×V))(k:Y)(v:V):List (Y×V):=
 if(a.any λc=>aD (c.1=k))=af then a.map (λc=>if c.1=k then(c.1,v)else c)else a++[(k,v)]
def JR{r}{k:Y}(e:p.1=k):cC (p::r) k=ae p.2:=by simp[cC,zx,e]
def JS{r}{k:Y}(e: ¬p.1=k):cC (p::r) k=cC r k:=by simp[cC,zx,e]
theorem ZU(k:Y):∀a,(a.any λc=>aD (c.1=k))=(cC a k).isSome
 |[]=>rfl
 |p::r=>by
  rw[List.any_cons]
  by_cases e:p.1=k
  .simp only[JR e,decide_eq_true e,Bool.true_or,Option.isSome_some]
  .rw[JS e,decide_eq_false e,Bool.false_or];exact ZU k r
def Qo(a)(k:Y)(v):(putK a k v).length<=a.length+1:=by
 delta putK
 grind
def eP.ej(r:eP o u):o.isSome=u.isSome:=by
 cases o with
 |none=>cases u with
  |none=>rfl
  |some _=>exact(r).elim
 |some _=>cases u with
  |none=>exact(r).elim
  |some _=>rfl
def eP.getD(r:eP o u)(a:aR d c):aR (o.getD d) (u.getD c):=by
 cases o with
 |none=>cases u with
  |none=>exact a
  |some _=>exact(r).elim
 |some _=>cases u with
  |none=>exact(r).elim
  |some _=>exact r
def KV.val{g}(r:KV a g)(k:Y):eP (cC a k) (valueAt g k):=by
 induction r with
 |nil=>exact o9
 | @cons p q j c h t i=>
  obtain⟨h1,h2⟩:=h
  by_cases e:p.1=k
  .have d:=h1.symm.trans e;have b:valueAt (q::c) k=ae q.2:=by simp[valueAt,zx,d]
   rw[JR e,b];exact h2
  .have d: ¬q.1=k:=by simp_all
   have b:valueAt (q::c) k=valueAt c k:=by simp[valueAt,zx,d]
   rw[JS e,b];exact i
def KV.any{d}(r:KV a d)(k:Y):(a.any λc=>aD (c.1=k))=d.any λc=>aD (c.1=k):=by
 induction r with
 |nil=>rfl
 |cons h t e=>simp_all
def KV.zH{d}(r:KV c d)(k:Y){y}{u}(g:aR y u):
  KV (c.map λa=>if a.1=k then(a.1,y)else a) (d.map λa=>if a.1=k then(a.1,u)else a):=by
 induction r with
 |nil=>exact .nil
 | @cons p q i j h t e=>
  refine .cons ?_ e
  grind
def KV.put{a}(r:KV c a)(k:Y){y}{u}(d:aR y u):KV (putK c k y) (stored a k u):=by
 delta putK stored
 rw[r.any k]
 by_cases e:(a.any λg=>aD (g.1=k))=af
 .rw[if_pos e,if_pos e];exact r.zH k d
 .rw[if_neg e,if_neg e];exact Paired.snoc r ⟨rfl,d⟩
def KV.keys{c:List (Y×aJ)}(r:KV a c):a.map (·.1)=c.map (·.1):=by
 induction r with
 |nil=>rfl
 |cons h t d=>simp_all
def KV.length{vs:List (Y×aJ)}(r:KV kvs vs):kvs.length=vs.length:=sg r
end
def kY(r:aR (kV k) u):(wJ P w).is k u=af:=by
 cases k with
 |inl i=>obtain⟨t,e⟩:=(r);subst e;exact kO P w i t
 |inr x=>obtain⟨t,e⟩:=(r);subst e;exact kN P w x t
def jdo:∀{ks}{us},aW (ks.map kV) us->ItemsAre (wJ P w) ks us:=
 @(
  bv (@(λx r=>by rw[List.map_nil]at r;cases r;exact .nil)) λk ks a x r=>by
  cases r with
  |cons h t=>exact .cons (kY h) (a t))
abbrev KT(H:Hp):List (List M.NK×V)->List (List M.NK×ar×aJ)->Prop:=mR λp q=>p.1=q.1/\TK H p.1 q.2.1/\aR p.2 q.2.2
def KT.val(r:KT H a g)(k):eP (cC a k) ((atKey g k).map (·.2)):=by
 induction r with
 |nil=>exact o9
 | @cons p q j c h t i=>
  obtain⟨h1,_,h2⟩:=h
  by_cases e:p.1=k
  .have d:=h1.symm.trans e;have b:atKey (q::c) k=ae q.2:=by simp[atKey,zx,d]
   rw[JR e,b];exact h2
  .have d: ¬q.1=k:=by simp_all
   have b:atKey (q::c) k=atKey c k:=by simp[atKey,zx,d]
   rw[JS e,b];exact i
def KT.zH(r:KT H a d)(k)(g:aR y u):
  KT H (a.map λc=>if c.1=k then(c.1,y)else c) (d.map (putAt k u)):=by
 induction r with
 |nil=>exact .nil
 | @cons p q l m h t i=>
  rw[fI,fI];refine .cons ?_ i;obtain⟨h1,h2,j⟩:=h
  delta putAt
  by_cases e:p.1=k
  .rw[if_pos e,if_pos (h1.symm.trans e)];exact⟨h1,h2,g⟩
  .rw[if_neg e,if_neg (λz=>e (h1.trans z))];exact⟨h1,h2,j⟩
def KT.put(r:KT H a c)(k)(g:TK H k b)(d:aR y u):
   KT H (putK a k y) (storedH c k b u):=by
 have e:(a.any λh=>aD (h.1=k))=(atKey c k).isSome:=by
   rw[ZU,(r.val k).ej,HI]
 delta putK storedH
 rw[e]
 by_cases q:(atKey c k).isSome=af
 .rw[if_pos q,if_pos q];exact r.zH k d
 .rw[if_neg q,if_neg q];exact Paired.snoc r ⟨rfl,g,d⟩
def KT.keeps(r:KT H a d)(e:∀b c,H b=ae (.ap c)->g b=ae (.ap c)):KT g a d:=
 mR.Cd r λx x z=>⟨z.1,z.2.1.keep e,z.2.2⟩
section
variable{P:fW}{w:World}{H:Hp}
def NA(ok:eA P w H h)(e:Rd H a u):bC P w H h a u:=e.ok ok
def vn(ok:eA P w H h)(e:Rd H a (.dK c)):c.length<=ba/\(a==lJ)=ag/\∃d,KV c d/\h.DictOf (wJ P w) a d:=
 show bC P w H h a (.dK c) from NA ok e
def NB(ok:eA P w H h)(e:H a=ae (.dK c)):c.length<=ba/\(a==lJ)=ag/\∃d,KV c d/\h.DictOf (wJ P w) a d:=vn ok (.inl e)
def jiL(ok:eA P w H h)(e:H a=ae (.ap (d.map kV))):(tupleKind (wJ P w)).is h d a:=by
 obtain⟨_,c,r,o,g,i,n,j⟩:=(ok a _ e)
 exact⟨o,c.toArray,n,g,i,j,by simpa using jdo r⟩
def HJ(ok:eA P w H h)(k):∀v u,fX H k v->aR v u->M.NK.at h k u:=by
 induction k using M.NK.ind with
 |h1 i=>intro v u x r;simp only[fX]at x;subst x;exact M.cP.mpr r
 |h2 z=>intro v u x r;simp only[fX]at x;subst x;exact M.cQ.mpr r
 |h3 l e=>
  intro v u x r;simp only[fX]at x;obtain⟨b,c,rfl,g,y⟩:=x;cases r;obtain⟨_,a,j,p⟩:=(show bC P w H h b (.ap c) from ok b _ g)
  refine M.cz.mpr ⟨b,a.toArray,rfl,p,?_⟩
  have go:∀(l:List M.NK)(c:List V)(a:List aJ),(∀k∈l,∀v u,fX H k v->aR v u->M.NK.at h k u)->ff H l c->aW c a->M.NK.mQ h l a:=by
   intro l
   induction l with
   |nil=>
    intro c a _ h r;simp only[ff]at h;subst h;cases r;exact M.fA.mpr aa
   |cons k l d=>
    intro c a f h r;simp only[ff]at h;obtain⟨u,B,rfl,h1,h2⟩:=h
    cases r with
    |cons m n=>exact M.cU.mpr ⟨_,_,rfl,f k g8 _ _ h1 m,d _ _ (λq o=>f q (g9 _ o)) h2 n⟩
  simpa using go l c a e y j
def QK(ok:eA P w H h)(e:TK H c a):(M.bH P w).is h c a:=⟨HJ ok _ _ _ e.1 aa,e.2⟩
def Wl{A:hJ}(a:A.units+20<cLine):(M.bH P w).room A.in1:=by
 show A.units+1+8<cLine;omega
def KA(ok:eA P w H h)(e:Rd H a (.dT c)):c.length<=ba/\(a==lJ)=ag/\
  ∃d,KT H c d/\h.DictOfH (M.bH P w) a d:=by
 obtain⟨z,y,d,r,o,g,i,j,n,u,v,B⟩:=(NA ok e)
 refine⟨z,y,d,r,o,g,i,j,n,u,v,λx hx=>?_,B⟩
 have all:∀{l:List (List M.NK×V)}{m:List (List M.NK×ar×aJ)},KT H l m->∀x∈m,(M.bH P w).is h x.1 x.2.1:=by
  intro l m q
  induction q with
  |nil=>simp_all
  | @cons p q I J L t E=>
   intro x hx;rcases cM.mp hx with e|hx
   .subst e;exact QK ok dX
   .exact E x hx
 exact all r x hx
def NC(ok:eA P w H h)(e:H a=ae (.dT c)):c.length<=ba/\(a==lJ)=ag/\
 ∃d,KT H c d/\h.DictOfH (M.bH P w) a d:=KA ok (.inl e)
end
def gP(H:Hp)(a:ar)(y:V)(r:Option V):Prop:=
 (∃c k,Rd H a (.dK c)/\y=kV k/\r=cC c k)\/∃c k b,Rd H a (.dT c)/\y=.ref b/\TK H k b/\r=cC c k
def iI(H:Hp)(a:ar)(y v:V)(d:Hp):Prop:=
 (∃c k,H a=ae (.dK c)/\y=kV k/\c.length<ba/\d=aQ H a (.dK (putK c k v)))\/
 ∃c k b,H a=ae (.dT c)/\y=.ref b/\TK H k b/\c.length<ba/\d=aQ H a (.dT (putK c k v))
def gP.t(e:H a=ae (.dT c))(d:TK H k b):gP H a (.ref b) (cC c k):=.inr ⟨c,k,b,.inl e,rfl,d,rfl⟩
def iI.k{k}(e:H a=ae (.dK c))(hl:c.length<ba):iI H a (kV k) v (aQ H a (.dK (putK c k v))):=.inl ⟨c,k,e,rfl,hl,rfl⟩
def iI.t{k}(e:H a=ae (.dT c))(d:TK H k b)(hl:c.length<ba):
 iI H a (.ref b) v (aQ H a (.dT (putK c k v))):=.inr ⟨c,k,b,e,rfl,d,hl,rfl⟩
section
variable{O:St}
def aK.big(I:aK X a O H s):lJ<s.heap.objs.size:=by
 exact sB au ((I.mod.glob.keeps I.bk).lt)
def Uv(w:A.units+20<cLine)(I:aK X j O H s)(g:gP H a y (ae v))(q:aR y u)(h:∀i r,aK X j O H r->aR v i->Q i r):
   wpAny (bj X) A (rL (.ref a) u) Q E s:=by
 rcases g with⟨m,k,e,n,l⟩|⟨m,k,b,e,n,B,l⟩
 .subst n;obtain⟨z,J,N,c,dd⟩:=vn I.be e;obtain⟨i,hw,d⟩:=eP.some_of (by rw[l];exact c.val k);exact wpAny_getItem_of (kY q) dd.mapOf hw (h i _ (I.tok _) d)
 .subst n;cases(q);obtain⟨z,J,U,c,dd⟩:=KA I.be e;obtain⟨i,hw,d⟩:=eP.some_of (by rw[l];exact c.val k);obtain⟨p,L,o⟩:=CH.mp hw;refine wpAny_getItem_heap (Wl w) (QK I.be B) dd L ?_;rw[o];exact h i _ (I.tok _) d
def HK(r:A.units+20<cLine)(I:aK X d O H s)(g:gP H a y o)(n:aR y u)(h:∀p,aK X d O H p->Q (.bool o.isSome) p):
   wpAny (bj X) A (gp .In u (.ref a)) Q E s:=by
 rcases g with⟨i,k,e,j,l⟩|⟨i,k,b,e,j,v,l⟩
 .subst j;obtain⟨z,m,w,c,dd⟩:=vn I.be e;refine wpAny_in_of (kY n) m dd.mapOf ?_;rw[<-(c.val k).ej,<-l];exact h _ (I.tok _)
 .subst j;cases(n);obtain⟨z,m,B,c,dd⟩:=KA I.be e;refine wpAny_in_heap (Wl r) (QK I.be v) m dd ?_;have q:=(c.val k).ej;rw[HI]at q;rw[<-q,<-l];exact h _ (I.tok _)
def jjE(r:A.units+20<cLine)(I:aK X d O H s)(g:gP H a y o)(n:aR y u)(h:∀p,aK X d O H p->Q (.bool (!o.isSome)) p):
   wpAny (bj X) A (gp .NotIn u (.ref a)) Q E s:=by
 rcases g with⟨i,k,e,j,l⟩|⟨i,k,b,e,j,v,l⟩
 .subst j;obtain⟨z,m,w,c,dd⟩:=vn I.be e;refine wpAny_notIn_of (kY n) m dd.mapOf ?_;rw[<-(c.val k).ej,<-l];exact h _ (I.tok _)
 .subst j;cases(n);obtain⟨z,m,B,c,dd⟩:=KA I.be e;refine wpAny_notIn_heap (Wl r) (QK I.be v) m dd ?_;have q:=(c.val k).ej;rw[HI]at q;rw[<-q,<-l];exact h _ (I.tok _)
def vv(I:aK X c O H s)(e:oh (H a))(g:iw a s.heap d)(h:∃q,d.get? a=ae q)(new:bC X.P X.w (aQ H a ob) d a ob):
  aK X c O (aQ H a ob) {s with heap:=d,toks:=j}:=
 I.write e (.inl aa) (λb q i z=>(g.2 b i).trans z) h new
def jlY(z:c.length<=ba)(g:(a==lJ)=ag)(d:KV c e)(dd:h.DictOf (wJ P w) a e):
 bC P w i h a (.dK c):=⟨z,g,e,d,dd⟩
def jek(hu:A.units+20<cLine)(I:aK X m O H s)(g:iI H a y v H')(L:aR y u)(N:aR v r)(h:∀U,aK X m O H' U->Q () U):
   wpAny (bj X) A (setItem (.ref a) u r) Q E s:=by
 rcases g with⟨d,k,e,o,l,p⟩|⟨d,k,b,e,o,Y,l,p⟩
 .subst o p;obtain⟨z,w,vs,i,dd⟩:=NB I.be e;have hz:vs.length<=ba:=by rw[<-i.length];exact z
  have B:(putK d k v).length<=ba:=by have:=Qo d k v;omega
  refine wpAny_setItem_pairs (kY L) dd λh' j J=>h _ ?_
  have he:∃q,h'.get? a=ae q:=let ⟨q,_,_,n,_⟩:=j;⟨q,n⟩
  exact vv I (by rw[e];exact o9) J he (jlY B w (i.put k N) j)
 .subst o p;cases(L);obtain⟨z,w,xs,i,dd⟩:=NC I.be e;have hz:xs.length<=ba:=by rw[<-sg i];exact z
  have B:(putK d k v).length<=ba:=by have:=Qo d k v;omega
  refine wpAny_setItem_heap (Wl hu) (QK I.be Y) dd λh' j J=>h _ ?_
  obtain⟨q,es,ep,n,h2,h3,h4,_,h5⟩:=j;refine vv I (by rw[e];exact o9) J ⟨q,n⟩ ⟨B,w,_,(i.put k Y N).keeps λc ys ec=>?_,q,es,ep,n,h2,h3,h4,h5⟩;rw[jz (M6 ec e bF)];exact ec
end
def Aa(i:Expr):Prop:=∀ov a,subscripted i ag ov a=operate [ov,a] (rL ov a)
def jhT{T id}
  (p:typeLookup (.type T) "__getitem__" =pure (ae (.builtin id))) (q:Aa c)
  (h:wpAny (aN a w) A (eval value env) (λo g=>wpAny (aN a w) A (eval c env) (λi d=>d.TypeIs o T/\wpAny (aN a w) A (rL o i) Q E d) E g) E s):
  wpAny (aN a w) A (eval (.Subscript value c u) env) Q E s:=by
 refine Subscript_ (lU h (λo g m=>lU m (λi d e=>?_) λy y x=>x) λy y x=>x);obtain⟨v,e⟩:=e;refine ax ?_;refine ax (Bb v p ?_)
 have l:wpAny (aN a w) A (subscripted c ag o i) (λr j=>wpAny (aN a w) A (letTemporaryGo value o r>>=λy=>pure r) Q E j) E d:=by
  rw[q o i];exact wpAny_operating (lU e (λr j n=>ax (wpAny_letTemporaryGo (aP n))) λy y x=>x)
 first
  |exact aP (ax l)
  |exact ax (aP (ax l))
  |exact ax l
def Xd{h:St}(I:aK X d h H s)(g:gP H a y o):s.TypeIs (.ref a) "dict" :=by
 rcases g with⟨c,k,e,_,_⟩|⟨c,k,b,e,_,_,_⟩
 .obtain⟨_,_,i,_,dd⟩:=vn I.be e;exact dd.typeIs
 .obtain⟨_,_,j,_,dd⟩:=KA I.be e;exact dd.typeIs
def ND(e g:TE):TE:=λc H Q=>e c H λx h=>g c h λy d=>∃a v,x=.ref a/\gP d a y (ae v)/\Q v d
def NE(e g h:TE):TS:=λD c H=>h c H λv i=>e c i λx j=>g c j λy l=>∃a d,x=.ref a/\iI l a y v d/\D.nx c d
section
def jio(l:X.A.units+20<cLine)(m:PE X o n)(p:PE X i q)(r:Aa i):PE X (.Subscript o i w) (ND n q):=by
 intro c s e H Q I h;refine jhT PySem.F.slot_dict_getitem.lookup r (bE (m c s e H _ I h) λu z ⟨x,B,E,J,L⟩=>bE (p c z e B _ E L) ?_);rintro iv s2 ⟨y,N,j,O,a,v,U,g,Y⟩;subst U;obtain rfl:u=cg a:=J;exact⟨Xd j g,Uv l j g O λw' s3 I3 d=>⟨v,N,I3,d,Y⟩⟩
def kj(l:X.A.units+20<cLine)(m:PE X o n)(p:PE X i q)(w:PE X value z)(B:kw value (ae (.Subscript o i d)) j.line X.V=pure ag):
  PS X (.Assign [.Subscript o i d] value j) (NE n q z):=by
 intro c s e H D I h;refine wpAny_Assign_Subscript (bE (w c s e H _ I h) ?_) B;rintro r E ⟨v,J,L,N,O⟩;refine bE (m c E e J _ L O) ?_;rintro u Q ⟨x,U,Y,rx,q2⟩;refine bE (p c Q e U _ Y q2) ?_;rintro iv s3 ⟨y,H3,I3,ry,a,H4,ex,g,q3⟩;subst ex;obtain rfl:u=cg a:=rx;exact jek l I3 g ry N λs4 I4=>⟨e,H4,I4,q3⟩
end
def jgD(h:Heap)(a:lJ<h.objs.size):bC P w H (h.push {cls:=.type "dict",data:=.dict #[]}) h.objs.size (.dK []):=
 ⟨fH _,beq_eq_false_iff_ne.mpr (gM (di a)),[],.nil,Heap.DictOf.new h⟩
def uY(h:Heap)(a:lJ<h.objs.size):bC P w H (h.push {cls:=.type "dict",data:=.dict #[]}) h.objs.size (.dT []):=
 ⟨fH _,beq_eq_false_iff_ne.mpr (gM (di a)),[],.nil,_, #[],0,dA _ aa,⟨rfl,rfl,rfl⟩,rfl,rfl,pD⟩
def jkp:TE:=λx H Q=>∀p,H p=ah->Q (.ref p) (aQ H p (.dK []))
def jko:TE:=λx H Q=>∀p,H p=ah->Q (.ref p) (aQ H p (.dT []))
section
def jfi:PE X (.Dict [] [] c) jkp:=λa s d H Q I h=>
 wpAny_Dict_empty ⟨.ref s.heap.objs.size,_,I.laid (λx x q=>cc _ q) (bz _) (jgD s.heap I.big),rfl,h _ (I.be.fresh (bz _))⟩
def ug:PE X (.Dict [] [] c) jko:=λa s d H Q I h=>
 wpAny_Dict_empty ⟨.ref s.heap.objs.size,_,I.laid (λx x q=>cc _ q) (bz _) (uY s.heap I.big),rfl,h _ (I.be.fresh (bz _))⟩
end
structure M1(X:Cx)(o:Expr)(m:Str)(apos:Pos)(e:Expr)(lj:Pos):Prop where
 aj:lL o m X.V (eval o X.V)=eval o X.V
 rN:((fh lj (bx [e] X.V)).all (λx=>!x.1)&&(mz lj (mB [] X.V)).all (λx=>x.1.isSome)
  &&aD (([e]:List Expr).length+([]:List iy).length+(if([]:List iy).isEmpty then 0 else 1)<30))=af
 line:(apos.endLine==lj.line)=af
 trees:fh lj (bx [e] X.V)=[(ag,eval e X.V)]
structure M2(X:Cx)(o:Expr)(m:Str)(apos:Pos)(e f:Expr)(lj:Pos):Prop where
 aj:lL o m X.V (eval o X.V)=eval o X.V
 rN:((fh lj (bx [e,f] X.V)).all (λx=>!x.1)&&(mz lj (mB [] X.V)).all (λx=>x.1.isSome)
  &&aD (([e,f]:List Expr).length+([]:List iy).length+(if([]:List iy).isEmpty then 0 else 1)<30))=af
 line:(apos.endLine==lj.line)=af
 trees:fh lj (bx [e,f] X.V)=[(ag,eval e X.V),(ag,eval f X.V)]
section
variable{N:St}
def jl6(r:A.units+20<cLine)(I:aK X d N H s)(g:gP H a y o)(n:aR y u)(h:∀p q,aK X d N H q->aR (o.getD .bo) p->Q p q):
   wpAny (bj X) A (call (.builtin "dict.get") [.ref a,u]) Q E s:=by
 rcases g with⟨i,k,e,j,l⟩|⟨i,k,b,e,j,v,l⟩
 .subst j;obtain⟨z,m,B,c,dd⟩:=vn I.be e;refine Ab tv dd.typeIs CI (HL _ _) (meets_dict_get (wJ X.P X.w) a (kY n) m) ⟨_,dd.mapOf,h _ _ (I.tok _) ?_⟩;rw[l];exact(c.val k).getD aa
 .subst j;cases(n);obtain⟨z,m,w,c,dd⟩:=KA I.be e;refine Ab tv dd.typeIs CI (HL _ _) (meetsH_dict_get (M.bH X.P X.w) a b m) ⟨Wl r,k,w,QK I.be v,dd,h _ _ (I.tok _) ?_⟩;rw[l];exact(c.val k).getD aa
def jl5(B:A.units+20<cLine)(I:aK X i N H s)(g:gP H a y o)(p:aR y u)(q:aR d r)(h:∀v w,aK X i N H w->aR (o.getD d) v->Q v w):
   wpAny (bj X) A (call (.builtin "dict.get") [.ref a,u,r]) Q E s:=by
 rcases g with⟨j,k,e,m,l⟩|⟨j,k,b,e,m,J,l⟩
 .subst m;obtain⟨z,n,O,c,dd⟩:=vn I.be e;refine Ab tv dd.typeIs CI (PySem.F.args_dict_get_3 _ _ _) (meets_dict_get_default (wJ X.P X.w) a (kY p) n r) ⟨_,dd.mapOf,h _ _ (I.tok _) ?_⟩;rw[l];exact(c.val k).getD q
 .subst m;cases(p);obtain⟨z,n,L,c,dd⟩:=KA I.be e;refine Ab tv dd.typeIs CI (PySem.F.args_dict_get_3 _ _ _) (meetsH_dict_get_default (M.bH X.P X.w) a b n r) ⟨Wl B,k,L,QK I.be J,dd,h _ _ (I.tok _) ?_⟩;rw[l];exact(c.val k).getD q
end
end L2
namespace Att
open PySem PySem.W PySem.Calls PyProof.Rows
def WW:∀(c)(d),WellAll P h d (c.map WData.int)->IntsAre d c:=by
 intro c
 induction c with
 |nil=>
  intro d w;cases w;exact .nil
 |cons n c e=>
  intro d w
  cases w with
  |cons a b=>
   cases a;exact .cons _ _ (e _ b)
def jca{l:CJ}(w:l.most=ae n)
  (c:l.row.toRowW.claim.pre args=af) (o:WellAll P h g args):
  ∃a v e,g=[cg a]/\args=[WData.list (e.map WData.int)]/\h.get? a=ae {cls:=.type "list",data:=.seq v.toArray}/\IntsAre v e/\e.length<=n:=by
 have p:=(pre_splitW c).1;have y:l.pre.holds [] {args:=args}=af:=(pre_splitW c).2;obtain⟨d,r,rfl,z,B⟩:=hasAllW_cons p;obtain rfl:=hasAllW_nil B;obtain⟨L,rfl,E⟩:=hasW_list z;obtain⟨e,rfl⟩:=items_int E
 have i:e.length<=n:=by
  have m:(WTm.not (.lt (.lit (.int n)) (.len (.arg 0)))).holds [] {args:=[.list (e.map .int)]}=af:=by
   have m:=(holds_andW y).1;rw[w]at m;exact m
  have u:=condW_of m (w_not (w_lt w_lit (w_len_list (w_arg aa))));refine CK λq=>?_
  first
   |(rw[decide_eq_true N]at u;exact absurd u au)
   |(simp at u;omega)
 cases o with
 |cons H I=>
  cases I
  cases H with
  |list J j=>exact⟨_,_,e,rfl,rfl,J,WW e _ j,i⟩
def jct(l:CJ)(args):l.row.toRowW.claim.post args (.bool af) args=af:=
 postW_of
  (by first|rfl|decide|simp[WShape.has,WShape.arms,WShape.armsAll])
  (w_eq_bool (w_res aa) w_lit) aa
end Att
namespace L2
open PySem PySem.Spec PyProof.Rows
theorem K9:∀{a}{c},IntsAre a c->aW (c.map V.int) a
 |_,_,.nil=>.nil
 |_,_,.cons n t h=>.cons ⟨t,rfl⟩ (K9 h)
def Ac(H:Hp):Prop:=∀b,H b=ah\/∃o a,H b=ae (.bQ o (.al a))
def jfV
  (KX:p.In c.heap) (I:c.heap.Ns ci mg) (E:c.heap.Ns builtinsNs mb) (HM:∀x:Str,x≠ "__name__" ->mb x=lW x) (J:c.heap.NoLimit) (hg:c.gens= #[])
  (ha:c.heap.get? a=ae {cls:=.type "list",data:=.seq L.toArray}) (hi:IntsAre L Y) (hl:Y.length<=ba) (hr:aX k callerA)
  (F:∀i,p.In i->i.Ns ci mg->cZ P w p mg i CX k fa fd [x] sp) (B:∀(s)(u),BindsTo s fd ⟨[u],[]⟩ [(x,u)])
  (hsp:∀H,Ac H->df p H a (Y.map V.int)->sp [.ref a] H (λv f=>v=.bl af) λf f f=>False)
  (hCX:∀H e j,CX [] H c (λf f f=>False) e j->False):
  lZ (aN P w) callerA (.call (.ref fa) ⟨[.ref a],[]⟩) (λr j=>r=.ok (.ret (.bool af))/\OldK c.heap j.heap/\j.os=c.os/\rD j.gens) c:=by
 have rv:=K9 hi;have N:=hi.length
 have y:∀H:Hp,Ac H->df p H a (Y.map V.int)->eA P w H c.heap->(∀b,H b≠ah->b=a)->(H a≠ah->p.lookup a=ah)->
    lZ (aN P w) callerA (.call (.ref fa) ⟨[.ref a],[]⟩) (λr j=>r=.ok (.ret (.bool af))/\OldK c.heap j.heap/\j.os=c.os/\rD j.gens) c:=by
  intro H hO hS O hA hK;have g:∀{b:ar}{o:Obj},c.heap.get? b=ae o->H b=ah->(lV c.heap H).get? b=ae o:=λe n=>Tp e n
  have mY:∀{b:ar}{o:Obj}{es:Array DictEntry}{ep:Nat},c.heap.get? b=ae o->o.data=.dict es ep->H b=ah:=by grind
  have l:∀{b:ar}{m:YE},c.heap.Ns b m->(lV c.heap H).Ns b m:=λ{b m} ⟨o,es,ep,e,d,r⟩=>⟨o,es,ep,g e (mY e d),d,r⟩
  have Q:p.In (lV c.heap H):=λb o e=>g (KX b o e) (by
    cases q:H b with
    |none=>rfl
    |some u=>
      have e':=hA b aZ;subst e'
      rw[hK aZ]at e;cases e)
  have hM:Mod p mg (lV c.heap H):=⟨Q,l I,⟨mb,l E,HM⟩,let ⟨mc,h1,h2⟩:=J;⟨mc,l h1,h2⟩⟩
  refine tt ((F _ Q (l I)).run callerA [] c H ⟨[.ref a],[]⟩ [.ref a] [.ref a] _ _ hr (⟨rfl,hM,λb o e=>Tq e,Nat.le_of_eq (To _ _),trivial,λb E=>absurd (show b∈([]:List ar) from E) aE,O,.of_eq hg⟩) (B c (.ref a)) (.cons aa .nil) (hsp H hO hS)) λr j h=>?_
  cases r with
  |error e=>exact(hCX H e j h).elim
  |ok fl=>
    cases fl with
    |next|brk|cont=>exact mT h
    |ret u=>
      obtain⟨v,H',os,bare,un,U,r',q⟩:=h;have q':=q;subst q';obtain rfl:u=o7 af:=r';refine⟨rfl,OldK.of_keep λb o e=>?_,os,bare⟩
      cases q:H b with
      |none=>exact un.keep b o e q (by intro z;exact absurd (show b∈([]:List ar) from z) aE) aE
      |some u=>
       rcases hO b with z|⟨ob,xs,z⟩
       .simp_all
       .have z2:=un.eQ b ob _ z;obtain⟨e1,_⟩:=O b _ z;obtain⟨e2,_⟩:=U b _ z2
        simp_all
 cases hk:p.lookup a with
 |some o=>
  have e:=KX a o hk;rw[ha]at e;cases e;refine y (λf=>ah) (λf=>.inl aa) (.inr ⟨_,L.toArray,_,hk,rfl,rfl,rfl,by rw[eW,N];exact hl,by simpa using rv⟩) (λb u z=>by have z':ah=ae u:=z;cases z') (λb z=>absurd aa z) λz=>absurd aa z
 |none=>
  refine y (λb=>if b=a then ae (.bQ {cls:=.type "list",data:=.seq L.toArray} (.al (Y.map V.int)))else ah) (λb=>?_) (.inl (.inr ⟨{cls:=.type "list",data:=.seq L.toArray},if_pos aa⟩)) (λb u z=>?_) (λb z=>?_) λf=>hk
  .grind
  .by_cases E:b=a
   .have z':=(if_pos E).symm.trans z;cases z';subst E;exact⟨ha,by rw[cX];exact hl,L,_,rv,ha⟩
   .simp_all
  .simp_all
noncomputable def JB(s:Stmt)(j:Nat):Stmt:=match s with
 |.ClassDef _ _ _ a _ _ _ _ _ _ _=>a.getD j (.Pass ⟨0,0,0,0⟩)
 |_=>.Pass ⟨0,0,0,0⟩
noncomputable def Jg(s:Stmt):Arguments:=match s with
 |.FunctionDef _ a _ _ _ _ _ _ _ _=>a
 |_=> {posonlyargs:=[],args:=[],vararg:=ah,kwonlyargs:=[],kw_defaults:=[],kwarg:=ah,defaults:=[]}
noncomputable def zg(s:Stmt):List Stmt:=match s with
 |.FunctionDef _ _ b _ _ _ _ _ _ _=>b
 |_=>[]
noncomputable def jj(s:Stmt):Scope:=match s with
 |.FunctionDef _ _ _ _ _ _ a _ _ _=>a
 |_=> {kind:=.function,names:=[],isGenerator:=ag,isCoroutine:=ag}
abbrev mD:w4:=λx x x x x x=>False
abbrev E0:XK:=λx x x=>False
def CM:ZM mD X E0:=λx x x x x x x h=>h.elim
structure mE(κ:bK)(x qual:Str)(st:Stmt)(f:ar)(fd:FuncData):Prop where
 ex:∃(oc:aJ)(od:Option ar)(kV doc pm:aJ)(an:Option ar)(CL ct:aJ)(E4:Array (Option aJ)),
  fd=rK x qual (Jg st) (zg st) (jj st) .none kV doc pm an CL ct/\κ.lookup f=ae ⟨oc,od,.func fd,E4⟩/\Bp κ CL qual=af
 kp:lc κ (.ref f)=af
section
def mE.ok{st}(F:mE j x c st f n)(S:aC N l (jj st))(len:∀d H Q E,m d H Q E->d.length=l.length)
  (e:∀(a)(A)(outer)(s)(H)(d)(Q)(E),aX k (A.deeper (i5 c (jj st) s.heap.objs.size f a))->m d H Q E->
   ∃t,eh (cA mD P w j mg aj N c (jj st) f a A outer s H E).rG (zg st) t/\t {nx:=λb o=>Q .bo o,rt:=Q} (start N d) H):cZ P w j mg aj mD (k+1) f n l m:=by
 obtain⟨u,v,kV,p,y,z,a,ct,r,rfl,lk,g⟩:=F.ex;refine Hx lk g S len λA outer s H d Q E hr i=>?_
 obtain⟨t,h,q⟩:=e a A outer s H d Q E hr i;exact⟨t,h.rG,q⟩
def mE.binds{st}(F:mE l x d st f m)
  (h:∀(kV a e)(g)(c ct)(i),i.length=j.length->bindArgs (rK x d (Jg st) (zg st) (jj st) .none kV a e g c ct) ⟨i,[]⟩=pure (j.zip i)):Binds l m j []:=by
 obtain⟨p,q,kV,a,e,g,c,ct,n,rfl,lk,o⟩:=F.ex;exact .all (h kV a e g c ct)
def NH{st}{kV e g d h}(l:i.lookup f=ae ⟨n,o,.func (rK x a (Jg st) (zg st) (jj st) .none kV e g m d h),j⟩)
 (c:Bp i d a=af) (k:lc i (.ref f)=af):mE i x a st f (rK x a (Jg st) (zg st) (jj st) .none kV e g m d h):=⟨⟨n,o,kV,e,g,m,d,h,j,rfl,l,c⟩,k⟩
end
def xt(a:aX k A):A.units+20<cLine:=by have:=a.units;omega
def aA(H a:Hp):Prop:=∀b o,H b=ae o->a b=ae o
def aA.refl(H):aA H H:=λx x h=>h
def aA.trans(a:aA H d)(b:aA d e):aA H e:=λc o h=>b c o (a c o h)
def aA.free(e:aA H a)(h:a l=Option.none):H l=Option.none:=by
 cases q:H l with
 |none=>rfl
 |some o=>
  rw[e l o q]at h;cases h
end L2
set_option autoImplicit true
set_option relaxedAutoImplicit true
local macro_rules|`(tactic|nomatch $x)=>`(tactic|with_unfolding_all exact $x)
namespace M
open PySem PySem.Spec L2
open PyProof.Rows hiding St
def dC{a:Scope}{x:Str}(h:(match a.names.lookup x with|some .local=>af|some .cell=>af|some .free=>af|_=>ag)=af):gj a x:=by
 delta gj
 cases e:a.names.lookup x with
 |none=>rw[e]at h;cases h
 |some k=>rw[e]at h;cases k<;>simp at h ⊢
def l6{a:Scope}{x:Str}(h:(match a.names.lookup x with|some .local=>af|some .cell=>af|_=>ag)=af):L2.Loc a x:=by
 delta L2.Loc
 cases e:a.names.lookup x with
 |none=>rw[e]at h;cases h
 |some k=>rw[e]at h;cases k<;>simp at h ⊢
inductive D where
 |bo|bl (b:Bool)|int (i:Int)|str (x:Str)
 |ap (ds:List D)|al (ds:List D)|dw (ds:List D)|cG (ks:List dY) (vs:List D)|bw (ks:List (List NK)) (vs:List D)|eX (c:Str)|gK (ks:List dY) (vs:List D)|bV (ks:List (List NK)) (vs:List D)|obj (c:Str) (ns:List Str) (vs:List D)
abbrev LD:=List D
mutual
noncomputable def D.lN:D->Bool
 |.bo|.bl _|.int _|.str _=>af
 |.ap a=>D.f9 a
 |.al _|.dw _|.cG _ _|.bw _ _=>ag
 |.eX _=>af
 |.gK _ _|.bV _ _|.obj _ _ _=>ag
noncomputable def D.f9:List D->Bool
 |[]=>af
 |d::a=>D.lN d&&D.f9 a
end
inductive aw(α:Type) where
 |ok (a:α)
 |exc (c:Str)
 |am
noncomputable def aw.bind(r:aw d)(f:d->aw e):aw e:=
 match r with
 |.ok a=>f a
 |.exc c=>.exc c
 |.am=>.am
instance:Monad aw where
 pure:=aw.ok
 bind:=aw.bind
def dD{c:Type}{a:c}{P:Prop}(h:(aw.am:aw c)=.ok a):P:=by cases h
def rO{c:Type}{a:c}{P:Prop}(h:ah=ae a):P:=by cases h
def CN{P:Prop}(h:ag=af):P:=by cases h
def je{r:aw d}{f}{b:e}(h:(r>>=f)=.ok b):∃a,r=.ok a/\f a=.ok b:=by
 cases r with
 |ok a=>exact⟨a,rfl,h⟩
 |exc _|am=>cases h
noncomputable def bh(c)[Decidable c](r:aw a):aw a:=if c then r else .am
def jE{c}[Decidable c]{r}{a:d}(h:bh c r=.ok a):c/\r=.ok a:=by
 delta bh at h
 grind
def jI{c}[Decidable c]{r:aw a}(h:c):bh c r=r:=if_pos h
def pE(e:bK)(H:Hp)(a:ar)(d:List V):Prop:=
 (∃o,H a=ae (.bQ o (.al d)))\/
  ∃(o:Obj)(c:Array aJ)(n:Nat),e.lookup a=ae o/\o.cls=.type "list" /\o.dict=ah/\o.data=.seq c n/\c.size<=ba/\aW d c.toList
def pE.nO(h:pE c H a d):df c H a d:=by
 rcases h with h|h
 .exact .inl (.inr h)
 .exact .inr h
def afK:D->List D
 |.ap a=>a
 |_=>[]
mutual
inductive aV(κ:bK):(ar->Prop)->Hp->V->D->Prop where
 |bo {A H}:aV κ A H .bo .bo
 |bl {A H} (b:Bool):aV κ A H (.bl b) (.bl b)
 |int {A H} (i:Int):aV κ A H (.int i) (.int i)
 |str {A H} (x:Str):x.length<=ba->aV κ A H (.str x) (.str x)
 |ap {A H} {a:ar} {xs:List V} {ds:List D}:H a=ae (.ap xs)->ay κ A H xs ds->aV κ A H (.ref a) (.ap ds)
 |al {A H} {a:ar} {xs:List V} {ds:List D}:H a=ae (.al xs)->A a->ay κ (λc=>A c/\c≠a) H xs ds->aV κ A H (.ref a) (.al ds)
 |CO {A H} {a:ar} {xs:List V} {ds:List D}:pE κ H a xs->ay κ A H xs ds->aV κ A H (.ref a) (.dw ds)
 |cG {A H} {a:ar} {kvs:List (dY×V)} {vs:List V} {ks:List dY} {ds:List D}:H a=ae (.dK kvs)->A a->kvs.map (·.1)=ks->kvs.map (·.2)=vs->ay κ (λc=>A c/\c≠a) H vs ds->aV κ A H (.ref a) (.cG ks ds)
 |bw {A H} {a:ar} {kvs:List (List NK×V)} {vs:List V} {ks:List (List NK)} {ds:List D}:H a=ae (.dT kvs)->A a->kvs.map (·.1)=ks->kvs.map (·.2)=vs->ay κ (λc=>A c/\c≠a) H vs ds->aV κ A H (.ref a) (.bw ks ds)
 |eX {A H} {a b C:ar} {o:Obj} {c:Str}:H a=ae (.bQ o (.aG b))->o.cls=.ref C->cH κ ci c=ae (ae (.ref C))->aV κ A H (.ref a) (.eX c)
 |gK {A H} {a:ar} {kvs:List (dY×V)} {vs:List V} {ks:List dY} {ds:List D}:((H a=ae (.dK kvs)/\A a)\/∃o,H a=ae (.bQ o (.dK kvs)))->kvs.map (·.1)=ks->kvs.map (·.2)=vs->ay κ (λc=>A c/\c≠a) H vs ds->aV κ A H (.ref a) (.gK ks ds)
 |bV {A H} {a:ar} {kvs:List (List NK×V)} {vs:List V} {ks:List (List NK)} {ds:List D}:(∃o,H a=ae (.bQ o (.dT kvs)))->kvs.map (·.1)=ks->kvs.map (·.2)=vs->ay κ (λc=>A c/\c≠a) H vs ds->aV κ A H (.ref a) (.bV ks ds)
 |obj {A H} {a C dx:ar} {fs:List (Str×V)} {vs:List V} {c:Str} {ns:List Str} {ds:List D}:H a=ae (.ins C dx fs)->A a->(cH κ ci c=ae (ae (.ref C))/\fs.map (·.1)=ns)->fs.map (·.2)=vs->ay κ (λc=>A c/\c≠a) H vs ds->aV κ A H (.ref a) (.obj c ns ds)
inductive ay(κ:bK):(ar->Prop)->Hp->List V->List D->Prop where
 |nil {A H}:ay κ A H [] []
 |cons {A H} {v:V} {d:D} {vs:List V} {ds:List D}:aV κ A H v d->ay κ A H vs ds->ay κ A H (v::vs) (d::ds)
end
def fQ(A:Wp)(H c:Hp):Prop:=∀a o,H a=ae o->(oh (ae o)->A a)->c a=ae o
def fQ.mono(h:fQ A H c)(w:∀a,B a->A a):fQ B H c:=λa o e m=>h a o e λz=>w a (m z)
section
def pE.bq(h:pE c H a d)(st:fQ A H g):pE c g a d:=by
 rcases h with⟨o,e⟩|h
 .exact .inl ⟨o,st a _ e (λz=>z.elim)⟩
 .exact .inr h
def ay.bq(r:ay g A H m n):fQ A H c->(∀a,A a->j a)->ay g j c m n:=by
 refine ay.rec (motive_1:=λA H v d y=>∀B:ar->Prop,fQ A H c->(∀a,A a->B a)->aV g B c v d) (λy y y=>.bo) (λb y y y=>.bl b) (λi y y y=>.int i) (λx h y y y=>.str x h) (λe y r y s w=>.ap (s _ _ e λz=>z.elim) (r _ s w)) (λe a y r y s w=>.al (s _ _ e λy=>a) (w _ a) (r _ ?_ ?_)) (λe y r y s w=>.CO (e.bq s) (r _ s w)) (λe a k l y r y s w=>.cG (s _ _ e λy=>a) (w _ a) k l (r _ ?_ ?_)) (λe a k l y r y s w=>.bw (s _ _ e λy=>a) (w _ a) k l (r _ ?_ ?_)) (λe k l y s w=>.eX (s _ _ e λz=>z.elim) k l) (λe k l y r y s w=>.gK (e.elim (λz=>.inl ⟨s _ _ z.1 λy=>z.2,w _ z.2⟩) (λz=>z.elim λy z=>.inr ⟨_,s _ _ z λz=>z.elim⟩)) k l (r _ ?_ ?_)) (λe k l y r y s w=>.bV (e.elim λy z=>⟨_,s _ _ z λz=>z.elim⟩) k l (r _ ?_ ?_)) (λe a k l y r y s w=>.obj (s _ _ e λy=>a) (w _ a) k l (r _ ?_ ?_)) (λy y y=>.nil) (λy y h t y s w=>.cons (h _ s w) (t _ s w)) r j
 any_goals exact s.mono λy z=>z.1
 all_goals exactλy z=>⟨w _ z.1,z.2⟩
def aV.bq(r:aV c A H v d)(s:fQ A H e)(w:∀a,A a->g a):aV c g e v d:=by
 cases ay.bq (.cons r .nil) s w;assumption
def aA.bq(h:aA H c):fQ A H c:=λa o e x=>h a o e
def aV.aB(r:aV a A H v d)(h:aA H c):aV a A c v d:=r.bq (aA.bq h) λx z=>z
def ay.aB(r:ay a A H v d)(h:aA H c):ay a A c v d:=r.bq (aA.bq h) λx z=>z
def aV.aS(r:aV c A H v d)(w:∀a,A a->g a):aV c g H v d:=r.bq (λx x e x=>e) w
def ay.aS(r:ay c A H v d)(w:∀a,A a->g a):ay c g H v d:=r.bq (λx x e x=>e) w
set_option tactic.hygienic true in
theorem ay.lN(r:ay a A H g c):D.f9 c=af->ay a j H g c:=by
 refine ay.rec (motive_1:=λy H v d y=>d.lN=af->aV a j H v d) (λy=>.bo) (λb y=>.bl b) (λi y=>.int i) (λx h y=>.str x h) (λe y r i=>.ap e (r i)) ?_ ?_ ?_ ?_ (λe k l y=>.eX e k l) ?_ ?_ ?_ (λy=>.nil) (λy y h t i=>?_) r
 case refine_8=>simp only[D.f9,fD]at i;exact .cons (h i.1) (t i.2)
 all_goals intros;rename_i i;cases i
def aV.lN(r:aV a A H v d)(i:d.lN=af):aV a c H v d:=by
 cases ay.lN (.cons r .nil) (by simp[D.f9,i]);assumption
def ay.cv(r:ay a A H (v::e) g):∃d c,g=d::c/\aV a A H v d/\ay a A H e c:=by
 cases r with
 |cons r t=>exact⟨_,_,rfl,r,t⟩
def ay.eM(r:ay a A H e (d::g)):∃v c,e=v::c/\aV a A H v d/\ay a A H c g:=by
 cases r with
 |cons r t=>exact⟨_,_,rfl,r,t⟩
def ay.pF(r:ay c A H a []):a=[]:=by cases r;rfl
def ay.fJ(r:ay c A H [] a):a=[]:=by cases r;rfl
def ay.length(r:ay κ A H vs ds):vs.length=ds.length:=by
 induction vs generalizing ds with
 |nil=>cases r.fJ;rfl
 |cons v vs a=>
  obtain⟨_,_,rfl,_,t⟩:=r.cv;simp[a t]
def ay.get{i:Nat}(r:ay g A H a c)(e:c[i]?=ae d):∃v,a[i]?=ae v/\aV g A H v d:=by
 induction a generalizing c i with
 |nil=>cases r.fJ;simp at e
 |cons v a h=>
  obtain⟨_,_,rfl,r,t⟩:=r.cv
  cases i with
  |zero=>simp at e;subst e;exact⟨_,rfl,r⟩
  |succ i=>simpa using h t (by simpa using e)
def ay.get'{i:Nat}(r:ay g A H a c)(e:a[i]?=ae v):∃d,c[i]?=ae d/\aV g A H v d:=by
 induction a generalizing c i with
 |nil=>simp at e
 |cons v a h=>
  obtain⟨_,_,rfl,r,t⟩:=r.cv
  cases i with
  |zero|succ _=>simp_all
def ay.append(r:ay c A H a d)(s:ay c A H e g):ay c A H (a++e) (d++g):=by
 induction a generalizing d with
 |nil=>cases r.fJ;exact s
 |cons v a h=>
  obtain⟨_,_,rfl,r,t⟩:=r.cv;exact .cons r (h t)
def ay.take(n)(r:ay d A H a c):ay d A H (a.take n) (c.take n):=by
 induction a generalizing c n with
 |nil=>cases r.fJ;simpa using .nil
 |cons v a e=>
  obtain⟨_,_,rfl,r,t⟩:=r.cv
  cases n with
  |zero=>exact .nil
  |succ n=>exact .cons r (e n t)
def ay.drop(n)(r:ay d A H a c):ay d A H (a.drop n) (c.drop n):=by
 induction a generalizing c n with
 |nil=>cases r.fJ;simpa using .nil
 |cons v a e=>
  cases n with
  |zero=>exact r
  |succ n=>
   obtain⟨_,_,rfl,r,t⟩:=r.cv;exact e n t
def ay.dropLast(r:ay a A H c d):ay a A H c.dropLast d.dropLast:=by
 rw[List.dropLast_eq_take,List.dropLast_eq_take,r.length];exact r.take _
def ay.isEmpty(r:ay d A H a c):c.isEmpty=a.isEmpty:=by cases r<;>rfl
def ll(g:bK)(A:Wp)(H:Hp)(v:V):D->Prop
 |.bo=>v=.bo
 |.bl b=>v=.bl b
 |.int i=>v=.int i
 |.str x=>v=.str x/\x.length<=ba
 |.ap e=>∃a h,v=.ref a/\H a=ae (.ap h)/\ay g A H h e
 |.al e=>∃a h,v=.ref a/\H a=ae (.al h)/\A a/\ay g (λc=>A c/\c≠a) H h e
 |.dw e=>∃a h,v=.ref a/\pE g H a h/\ay g A H h e
 |.cG j e=>∃a d,v=.ref a/\H a=ae (.dK d)/\A a/\d.map (·.1)=j/\ay g (λc=>A c/\c≠a) H (d.map (·.2)) e
 |.bw j e=>∃a d,v=.ref a/\H a=ae (.dT d)/\A a/\d.map (·.1)=j/\ay g (λc=>A c/\c≠a) H (d.map (·.2)) e
 |.eX c=>∃a b C o,v=.ref a/\H a=ae (.bQ o (.aG b))/\o.cls=.ref C/\cH g ci c=ae (ae (.ref C))
 |.gK j e=>∃a d,v=.ref a/\((H a=ae (.dK d)/\A a)\/∃o,H a=ae (.bQ o (.dK d)))/\d.map (·.1)=j/\ay g (λc=>A c/\c≠a) H (d.map (·.2)) e
 |.bV j e=>∃a d,v=.ref a/\(∃o,H a=ae (.bQ o (.dT d)))/\d.map (·.1)=j/\ay g (λc=>A c/\c≠a) H (d.map (·.2)) e
 |.obj c l e=>∃a C dx fs,v=.ref a/\H a=ae (.ins C dx fs)/\A a/\cH g ci c=ae (ae (.ref C))/\fs.map (·.1)=l/\ay g (λc=>A c/\c≠a) H (fs.map (·.2)) e
def aV.f(r:aV a A H v d):ll a A H v d:=by
 refine aV.casesOn r aa (λx=>rfl) (λx=>rfl) (λx h=>⟨rfl,h⟩) (λe r=>⟨_,_,rfl,e,r⟩) (λe h r=>⟨_,_,rfl,e,h,r⟩) (λe r=>⟨_,_,rfl,e,r⟩) (λe h k l r=>⟨_,_,rfl,e,h,k,l▸r⟩) (λe h k l r=>⟨_,_,rfl,e,h,k,l▸r⟩) (λe k l=>⟨_,_,_,_,rfl,e,k,l⟩) (λe k l r=>⟨_,_,rfl,e,k,l▸r⟩) (λe k l r=>⟨_,_,rfl,e,k,l▸r⟩) (λe h k l r=>⟨_,_,_,_,rfl,e,h,k.1,k.2,l▸r⟩)
def aV.dg(r:aV e A H v (.al g)):∃a d,v=.ref a/\H a=ae (.al d)/\A a/\ay e (λc=>A c/\c≠a) H d g:=r.f
def aV.lm(r:aV c A H v (.dw e)):∃a d,v=.ref a/\pE c H a d/\ay c A H d e:=r.f
def aV.fK(r:aV d A H v (.ap e)):∃a c,v=.ref a/\H a=ae (.ap c)/\ay d A H c e:=r.f
def aV.eG(r:aV a A H v (.int i)):v=.int i:=r.f
def aV.Bs(r:aV a A H v (.bl b)):v=.bl b:=r.f
def aV.ln(r:aV a A H v (.str x)):v=.str x/\x.length<=ba:=r.f
def aV.pG(r:aV a A H v .bo):v=.bo:=r.f
def ay.low(r:ay d (λc=>A c/\c≠a) H e g):ay d A H e g:=r.aS λx z=>z.1
def ay.dL(r:ay d A H g j):ay d (λc=>A c/\H c≠ah) H g j:=by
 refine ay.rec .bo (λb=>.bl b) (λi=>.int i) (λx h=>.str x h) (λe y r=>.ap e r) (λe a y r=>.al e ⟨a,?_⟩ ?_) (λe y r=>.CO e r) (λe a k l y r=>.cG e ⟨a,?_⟩ k l ?_) (λe a k l y r=>.bw e ⟨a,?_⟩ k l ?_) (λe k l=>.eX e k l) (λe k l y r=>.gK (e.elim (λz=>.inl ⟨z.1,z.2,by simp[z.1]⟩) .inr) k l ?_) (λe k l y r=>.bV e k l ?_) (λe a k l y r=>.obj e ⟨a,?_⟩ k l ?_) .nil (λy y h t=>.cons h t) r
 any_goals exact r.aS λy z=>⟨⟨z.1.1,z.2⟩,z.1.2⟩
 all_goals simp[e]
def aV.dL(r:aV a A H v d):aV a (λc=>A c/\H c≠ah) H v d:=by
 cases ay.dL (.cons r .nil);assumption
def aA.aQ(h:H p=ah):aA H (L2.aQ H p o):=λb u e=>by rw[jz (qi e h)];exact e
def ay.laid(r:ay d A H g h)(a:H p=ah):ay d (λc=>A c/\c≠p) (L2.aQ H p o) g h:=
 (r.dL.aB (aA.aQ a)).aS λc z=>⟨z.1,λe=>z.2 (by rw[e];exact a)⟩
end
inductive Slot where
 |un
 |aG (d:D)
 |ai (d:D)
abbrev Sl:=List Slot
def qh(env:Sl)(c:St)(a:ar):Prop:=∃(i:Nat)(d:D),env[i]?=ae (.aG d)/\c[i]?=ae (ae (.ref a))
abbrev HP(env:Sl)(c:St):ar->Prop:=λa=> ¬qh env c a
abbrev Sf(G:Wp)(env:Sl)(c:St):ar->Prop:=λa=> ¬qh env c a/\G a
inductive Top(κ:bK)(A:Wp)(H:Hp)(a:ar):D->Prop where
 |al {xs:List V} {ds:List D}:H a=ae (.al xs)->ay κ A H xs ds->Top κ A H a (.al ds)
 |cG {kvs:List (dY×V)} {vs:List V} {ks:List dY} {ds:List D}:H a=ae (.dK kvs)->kvs.map (·.1)=ks->kvs.map (·.2)=vs->ay κ A H vs ds->Top κ A H a (.cG ks ds)
 |bw {kvs:List (List NK×V)} {vs:List V} {ks:List (List NK)} {ds:List D}:H a=ae (.dT kvs)->kvs.map (·.1)=ks->kvs.map (·.2)=vs->ay κ A H vs ds->Top κ A H a (.bw ks ds)
 |obj {C dx:ar} {fs:List (Str×V)} {vs:List V} {c:Str} {ns:List Str} {ds:List D}:H a=ae (.ins C dx fs)->(cH κ ci c=ae (ae (.ref C))/\fs.map (·.1)=ns)->fs.map (·.2)=vs->ay κ A H vs ds->Top κ A H a (.obj c ns ds)
def Top.rep(t:Top j A H a d)(w:∀b,A b->i b/\b≠a)(h:i a):aV j i H (.ref a) d:=by
 cases t with
 |al e r=>exact .al e h (r.aS w)
 |cG e c g r=>exact .cG e h c g (r.aS w)
 |bw e c g r=>exact .bw e h c g (r.aS w)
 |obj e c g r=>exact .obj e h c g (r.aS w)
def Top.bq(t:Top j A H a d)(st:fQ A H i)(w:∀b,A b->l b)(h:∀o,H a=ae o->i a=ae o):Top j l i a d:=by
 cases t with
 |al e r=>exact .al (h _ e) (r.bq st w)
 |cG e c g r=>exact .cG (h _ e) c g (r.bq st w)
 |bw e c g r=>exact .bw (h _ e) c g (r.bq st w)
 |obj e c g r=>exact .obj (h _ e) c g (r.bq st w)
def Top.there(t:Top c A H a d):∃o,H a=ae o/\oh (ae o):=by
 cases t with
 |al e _|cG e _ _ _|bw e _ _ _|obj e _ _ _=>exact⟨_,e,trivial⟩
structure aH(κ:bK)(G:Wp)(H0:Hp)(env:Sl)(σ:St)(H:Hp):Prop where
 len:σ.length=env.length
 aj:aA H0 H
 g0:∀a,H0 a=ah->G a
 ai:∀(i:Nat)(d:D),env[i]?=ae (.ai d)->∃v,σ[i]?=ae (ae v)/\aV κ (Sf G env σ) H v d
 aG:∀(i:Nat)(d:D),env[i]?=ae (.aG d)->∃a,σ[i]?=ae (ae (.ref a))/\H0 a=ah/\Top κ (Sf G env σ) H a d
 mZ:∀(i j:Nat)(d e:D)(a:ar),env[i]?=ae (.aG d)->env[j]?=ae (.aG e)->σ[i]?=ae (ae (.ref a))->σ[j]?=ae (ae (.ref a))->i=j
section
def aH.aB(e:aH c G g env j H)(h:aA H l):aH c G g env j l where
 len:=e.len
 aj:=e.aj.trans h
 g0:=e.g0
 ai:=λi d z=>let ⟨v,h1,h2⟩:=e.ai i d z;⟨v,h1,h2.aB h⟩
 aG:=λi d z=>let ⟨a,h1,h2,m⟩:=e.aG i d z;⟨a,h1,h2,m.bq (aA.bq h) (λx z=>z) (λo q=>h _ o q)⟩
 mZ:=e.mZ
def aH.there(e:aH h G j env c H)(o:qh env c a):∃u,H a=ae u:=by
 obtain⟨i,d,h1,h2⟩:=o;obtain⟨b,l,_,g⟩:=e.aG i d h1;obtain⟨u,m,_⟩:=g.there
 simp_all
def aH.m3(k:aH h G j env c H)(o:qh env c a)(e:H a=ae u):oh (ae u):=by
 obtain⟨i,d,h1,h2⟩:=o;obtain⟨b,l,_,g⟩:=k.aG i d h1;obtain⟨n,p,m⟩:=g.there
 simp_all
def aH.new(k:aH d G e env c H):∀a,H a=ah->Sf G env c a:=λa z=>⟨λo=>(by
 obtain⟨u,q⟩:=k.there o
 rw[z]at q;cases q),k.g0 a (aA.free k.aj z)⟩
end
inductive Lv where
 |b|s|t
abbrev Any:ar->Prop:=λx=>True
def Lv.A(l:Lv)(G:Wp)(env:Sl)(a:St):ar->Prop:=
 match l with
 |.b=>Any
 |.s|.t=>Sf G env a
def bI(H:Hp)(v:V):Prop:=∀a,v=.ref a->∀o,H a=ae o-> ¬oh (ae o)
def Lv.T(l:Lv)(H:Hp)(v:V):Prop:=
 match l with
 |.t=>bI H v
 |_=>True
def bI.aB(h:aA H c)(n:bI c v):bI H v:=λa e o q=>n a e o (h a o q)
def Lv.pH{l:Lv}(h:aA H a)(n:l.T a v):l.T H v:=by
 cases l with
 |t=>exact bI.aB h n
 |b|s=>trivial
def tE(e:bK)(l:Lv)(f:Sl->aw D):TE:=λg H Q=>∃G h a d,aH e G h a g H/\f a=.ok d/\∀v c,aA H c->aV e (l.A G a g) c v d->l.T H v->Q v c
def tT(d:bK)(f:Sl->aw Bool):TT:=λe H Q=>∃G g a b,aH d G g a e H/\f a=.ok b/\∀c,aA H c->Q b c
def tA(d:bK)(l:Lv)(f:Sl->aw (List D)):TA:=λe H Q=>∃G i a g,aH d G i a e H/\f a=.ok g/\∀h c,aA H c->ay d (l.A G a e) c h g->Q h c
@[irreducible] def DE (X:Cx) (l:Lv) (e:Expr) (f:Sl->aw D):Prop:=PE X e (tE X.K l f)
@[irreducible] def DT (X:Cx) (e:Expr) (f:Sl->aw Bool):Prop:=PT X e (tT X.K f)
@[irreducible] def DA (X:Cx) (l:Lv) (a:List Expr) (f:Sl->aw (List D)):Prop:=PA X a (tA X.K l f)
inductive br where
 |nx (env:Sl)|rt (fr:Bool) (d:D)|bk (env:Sl)|ct (env:Sl)
abbrev T3:=Sl->aw D
abbrev T0:=Sl->aw Bool
abbrev TZ:=Sl->aw br
abbrev TY:=Sl->aw (List D)
abbrev TX:=List D->aw D
abbrev TW:=D->Sl->aw Sl
structure bN(env:Sl)(σ:St)(H:Hp)(env':Sl)(Bt:St)(H':Hp):Prop where
 keep:∀b o,H b=ae o-> ¬qh env σ b->H' b=ae o
 more:∀b,qh env' Bt b->qh env σ b\/H b=ah
 size:∀b,H' b=ah->H b=ah
def oA(h:bK)(G:Wp)(g:Hp)(env:Sl)(i:St)(H:Hp)(E:Ends)(o:br):Prop:=
 match o with
 |.nx a=>∀c e,aH h G g a c e->bN env i H a c e->E.nx c e
 |.bk a=>∀c e,aH h G g a c e->bN env i H a c e->E.bk c e
 |.ct a=>∀c e,aH h G g a c e->bN env i H a c e->E.ct c e
 |.rt j d=>∀v e,aA g e->aV h G e v d->(j=af->bI g v)->E.rt v e
def tS(c:bK)(g:TZ):TS:=λE d H=>∃G e a o,aH c G e a d H/\g a=.ok o/\oA c G e a d H E o
@[irreducible] def DS (X:Cx) (st:Stmt) (g:TZ):Prop:=PS X st (tS X.K g)
@[irreducible] def h9 (X:Cx) (st:List Stmt) (g:TZ):Prop:=eh X st (tS X.K g)
section
variable{st:Stmt}
def PE.imp(h:PE X e t)(w:∀a H Q,d a H Q->t a H Q):PE X e d:=λc s a H Q I q=>h c s a H Q I (w a H Q q)
def PT.imp(h:PT X e t)(w:∀a H Q,d a H Q->t a H Q):PT X e d:=λc s a H Q I q=>h c s a H Q I (w a H Q q)
def PA.imp(h:PA X e t)(w:∀a H Q,g a H Q->t a H Q):PA X e g:=λd c s a H Q I q=>h d c s a H Q I (w a H Q q)
def PS.imp(h:PS X st t)(w:∀E a H,d E a H->t E a H):PS X st d:=λc s a H E I q=>h c s a H E I (w E a H q)
def eh.imp(h:eh X d t)(w:∀E a H,e E a H->t E a H):eh X d e:=λc s a H E I q=>h c s a H E I (w E a H q)
end
def bN.refl(h:aA H a):bN env c H env c a:=⟨λb o e x=>h b o e,λb o=>.inl o,λb e=>aA.free h e⟩
def bN.trans(a:bN env j H d h l)(b:bN d h l g i m):bN env j H g i m where
 keep:=λc o e n=>b.keep c o (a.keep c o e n) λz=>by
  rcases a.more c z with z|z
  all_goals simp_all
 more:=λc o=>by
  rcases b.more c o with z|z
  .exact a.more c z
  .exact .inr (a.size c z)
 size:=λc e=>a.size c (b.size c e)
def bN.aB(h:aA H d)(b:bN env e d a c g):bN env e H a c g:=(bN.refl h).trans b
section
variable{X:Cx}{e:Expr}{f:T3}
def Lv.bA{l:Lv}:∀a,l.A G env c a->Any a:=λx x=>trivial
def DE.b(h:DE X l e f):DE X .b e f:=by
 nomatch (PE.imp h<|by rintro j H Q ⟨G,c,a,d,k,g,q⟩;exact⟨G,c,a,d,k,g,λv i s r x=>q v i s (r.aS Lv.bA) trivial⟩)
def DE.s(h:DE X .t e f):DE X .s e f:=by
 nomatch (PE.imp h<|by rintro j H Q ⟨G,c,a,d,k,g,q⟩;exact⟨G,c,a,d,k,g,λv i s r x=>q v i s r trivial⟩)
def NI(s:aA H c)(r:aV g A c v d)(i:d.lN=af):bI H v:=λa e o q m=>by
 subst e;have r:=r.f;cases d<;>try exact CN i
 .cases r
 .cases r
 .cases r
 .cases r.1
 .obtain⟨_,_,e1,e,_⟩:=r;cases e1;rw[s _ _ q]at e;cases e;exact m
 .obtain⟨_,_,_,_,e1,e,_⟩:=r;cases e1;rw[s _ _ q]at e;cases e;exact m
def lO(f:T3):Sl->aw D:=λa=>f a>>=λd=>bh (d.lN=af) (.ok d)
def DE.lO{l l':Lv}(h:DE X l e f):DE X l' e (lO f):=by
 nomatch (PE.imp h<|by
  rintro n H Q ⟨G,c,a,d,k,g,q⟩;obtain⟨o,e1,e2⟩:=je g;obtain⟨i,j⟩:=jE e2;cases j;refine⟨G,c,a,d,k,e1,λv m s r x=>q v m s (r.lN i) ?_⟩
  cases l' with
  |t=>exact NI s r i
  |b=>trivial
  |s=>trivial)
end
def Y9:Expr->Bool
 |.Starred _ _=>ag
 |_=>af
def jq(h:Y9 e=af):bx (e::a) env=(ag,eval e env)::bx a env:=by
 cases e<;>first|rfl|cases h
def vN(h:a.all Y9=af):(bx a env).all (λx=>!x.1)=af:=by
 induction a with
 |nil=>rfl
 |cons e r c=>
  rw[tw,fD]at h;rw[jq h.1,tw,c h.2];rfl
def NJ(h:l.all (λx=>!x.1)=af):(fh pos l).all (λx=>!x.1)=af:=by
 induction l with
 |nil=>rfl
 |cons p r a=>
  obtain⟨s,t⟩:=p;rw[tw,fD]at h;show((!s)&&(fh pos r).all (λx=>!x.1))=af;rw[a h.2,Bool.and_true];exact h.1
def jR(h:c.all Y9=af):(fh a (bx c env)).any (·.1)=ag:=by
 have:=NJ (pos:=a) (vN (env:=env) h)
 simp_all
def xS(h:(e::c).all Y9=af)(g:aD ((e::c).length<30)=af):
  ((
   fh a (bx (e::c) env)).all (λx=>!x.1)&&(mz a (mB [] env)).all (λx=>x.1.isSome)
   &&aD ((e::c).length+([]:List iy).length+(if([]:List iy).isEmpty then 0 else 1)<30))=af:=by
 have d:(mz a (mB [] env)).all (λx=>x.1.isSome)=af:=rfl;rw[NJ (vN h),d]
 simp_all
section
variable{X:Cx}{a b c:Expr}{l:Lv}
def cI(i:Int):Sl->aw D:=λx=>.ok (.int i)
def cB(b:Bool):Sl->aw D:=λx=>.ok (.bl b)
def cN:Sl->aw D:=λx=>.ok .bo
def cS(x:Str):Sl->aw D:=λy=>.ok (.str x)
def bR(i:Nat):Sl->aw D:=λe=>match e[i]? with
 |some (.ai d)=>.ok d
 |_=>.am
def gm(i:Nat):Sl->aw D:=λe=>match e[i]? with
 |some (.ai d)|some (.aG d)=>.ok d
 |_=>.am
def ke(h:bR i env=.ok d):env[i]?=ae (.ai d):=by
 delta bR at h
 split at h
 .cases h;assumption
 .cases h
def kg(h:gm i env=.ok d):env[i]?=ae (.ai d)\/env[i]?=ae (.aG d):=by
 delta gm at h
 split at h
 .cases h;left;assumption
 .cases h;right;assumption
 .cases h
def X8{i:Nat}{a}(k:aH m G n env g H)(h:env[i]?=ae (.aG d))(j:g[i]?=ae (ae (.ref a))):∀c,Sf G env g c->c≠a:=λc z e=>z.1 (by rw[e];exact⟨i,d,h,j⟩)
def dv(i)(g:X.N[i]?=ae x:=by rfl)(h:gj X.V.scope x:=by exact dC aa)(j:YG x:=by decide)
   (e:YF x:=by decide):DE X .s (.Name x m) (bR i):=by
 nomatch (
  PE.imp (zC g h j e)<|by
   rintro u H Q ⟨G,w,n,d,k,o,q⟩;obtain⟨v,p,r⟩:=k.ai i d (ke o)
   exact⟨v,p,q v H (aA.refl H) r trivial⟩)
def db(i)(j:X.N[i]?=ae x:=by rfl)(m:gj X.V.scope x:=by exact dC aa)(n:YG x:=by decide)
   (g:YF x:=by decide):DE X .b (.Name x o) (gm i):=by
 nomatch (
  PE.imp (zC j m n g)<|by
   rintro u H Q ⟨G,w,p,d,k,r,q⟩;rcases kg r with z|z
   .obtain⟨v,e,h⟩:=k.ai i d z;exact⟨v,e,q v H (aA.refl H) (h.aS λa a=>trivial) trivial⟩
   .obtain⟨v,e,_,h⟩:=k.aG i d z
    exact⟨_,e,q _ H (aA.refl H) (h.rep (λc y=>⟨trivial,X8 k z e c y⟩) trivial) trivial⟩)
def Sc(e:bK)(v:V)(d:D):Prop:=(∀A H,aV e A H v d)/\∀a,v≠ .ref a
def Sc.T(h:Sc g v d):l.T H v:=by
 cases l with
 |t=>exactλa e=>absurd e (h.2 a)
 |b|s=>trivial
def nP(i):Sc κ (.int i) (.int i):=⟨λx x=>.int i,λa e=>by cases e⟩
def iz(i):Sc κ (.bl i) (.bl i):=⟨λx x=>.bl i,λa e=>by cases e⟩
def jn1:Sc d .bo .bo:=⟨λx x=>.bo,λa e=>by cases e⟩
def Fa(x)(h:x.length<=ba):Sc κ (.str x) (.str x):=⟨λy y=>.str x h,λa e=>by cases e⟩
def oB(h:PE X e (tC v))(r:Sc X.K v d):DE X l e (λx=>.ok d):=by
 nomatch (
  PE.imp h<|by
   rintro j H Q ⟨G,m,g,n,k,i,q⟩;cases i
   exact q v H (aA.refl H) (r.1 _ H) r.T)
def NL:DE X l (.Constant (.int i) j d) (cI i):=oB Tv (nP i)
def wf:DE X l (.Constant (.bool i) j d) (cB i):=oB M9 (iz i)
def QU:DE X l (.Constant .none j d) cN:=oB Tw jn1
def QT(h:x.length<=ba:=by decide):DE X l (.Constant (.str x) j d) (cS x):=oB Tx (Fa x h)
def NM(d:Gl X x)(e:X.mg x=ae (.int i t))(g:YG x:=by decide):DE X l (.Name x h) (cI i):=
 oB (YR (v:=.int i) d e ⟨t,rfl⟩ g) (nP i)
def jjC(d:Gl X x)(e:X.mg x=ae (.str y t))(g:y.length<=ba:=by decide)(h:YG x:=by decide):DE X l (.Name x i) (cS y):=
 oB (YR (v:=.str y) d e ⟨t,rfl⟩ h) (Fa y g)
def fR(e:bK)(r:R2)(g:D->D->aw D):Prop:=∀(x y:V)(H:Hp)(a b d:D)(Q:VK),aV e Any H x a->aV e Any H y b->g a b=.ok d->(∀v,Sc e v d->Q v H)->r x y H Q
def Bu(e:bK)(r:R2)(g:D->D->aw D):Prop:=∀(A:Wp)(x y:V)(H:Hp)(a b d:D)(Q:VK),aV e A H x a->aV e A H y b->g a b=.ok d->(∀v h,aA H h->aV e (λc=>H c=ah\/A c) h v d->bI H v->Q v h)->r x y H Q
def aq(e h:T3)(g:D->D->aw D):Sl->aw D:=λd=>e d>>=λx=>h d>>=λy=>g x y
def HQ(w:fR i r g)(h:tE i l (aq z B g) E H Q):v4 r (tE i N z) (tE i O B) E H Q:=by
 obtain⟨G,m,e,d,k,j,q⟩:=h;obtain⟨a,e1,j⟩:=je j;obtain⟨b,e2,I⟩:=je j;refine⟨G,m,e,a,k,e1,λx U n J c=>⟨G,m,e,b,k.aB n,e2,λy o p L c=>?_⟩⟩;exact w x y o a b d Q ((J.aB p).aS Lv.bA) (L.aS Lv.bA) I λv u=>q v o (n.trans p) (u.1 _ _) u.T
def jmw(p:Bu i r g)(h:tE i .t (aq u w g) B H Q):v4 r (tE i .s u) (tE i .s w) B H Q:=by
 obtain⟨G,m,e,d,k,j,q⟩:=h;obtain⟨a,e1,j⟩:=je j;obtain⟨b,e2,E⟩:=je j;refine⟨G,m,e,a,k,e1,λx H1 n I f=>⟨G,m,e,b,k.aB n,e2,λy J o L f=>?_⟩⟩;have sm:=n.trans o;exact p _ x y J a b d Q (I.aB o) L E λv N O U Y=>q v N (sm.trans O) (U.aS λc z=>z.elim (λz=>k.new c (aA.free sm z)) λz=>z) (Y.aB sm)
def jmx(p:Bu i r g)(h:tE i .b (aq u w g) z H Q):v4 r (tE i .b u) (tE i .b w) z H Q:=by
 obtain⟨G,m,e,d,k,j,q⟩:=h;obtain⟨a,e1,j⟩:=je j;obtain⟨b,e2,B⟩:=je j;refine⟨G,m,e,a,k,e1,λx U n E f=>⟨G,m,e,b,k.aB n,e2,λy I o J f=>?_⟩⟩;exact p _ x y I a b d Q (E.aB o) J B λv L N O Y=>q v L ((n.trans o).trans N) (O.aS λc f=>trivial) trivial
def vq(d:c9 X (iG e) r)(i:fR X.K r g)(j:DE X q a m)(n:DE X u b o):DE X l (.BinOp a e b p) (aq m o g):=by
 nomatch (
  PE.imp (ET d j n) λx x x h=>HQ i h)
def qd(d:c9 X (iG e) r)(i:Bu X.K r g)(j:DE X .s a m)(n:DE X .s b o):DE X .t (.BinOp a e b p) (aq m o g):=by
 nomatch (
  PE.imp (ET d j n) λx x x h=>jmw i h)
def HR(d:c9 X (iG e) r)(i:Bu X.K r g)(j:DE X .b a m)(n:DE X .b b o):DE X .b (.BinOp a e b p) (aq m o g):=by
 nomatch (
  PE.imp (ET d j n) λx x x h=>jmx i h)
def yk(e:c9 X (gp d) r)(i:fR X.K r g)(j:DE X u a m)(n:DE X v b o)(p:Cs d b=ag:=by first|exact Nn _|(with_unfolding_all rfl)):DE X l (.Compare a [d] [b] q) (aq m o g):=by
 nomatch (
  PE.imp (jip e j n p) λx x x h=>HQ i h)
def aU(f:T3):Sl->aw Bool:=λe=>f e>>=λd=>match d with
 |.bl b=>.ok b
 |_=>.am
def jjX{b}(h:aU f env=.ok b):f env=.ok (.bl b):=by
 obtain⟨d,e1,e2⟩:=je h
 cases d with
 |bl c=>simp_all
 |_=>exact dD e2
def UY(g:∀d H Q,tE i l f d H Q->t d H Q)(h:tT i (aU f) d H Q):Hf t d H Q:=by
 obtain⟨G,j,e,b,k,m,q⟩:=h;refine g d H _ ⟨G,j,e,.bl b,k,jjX m,λv n s r x=>⟨b,r.Bs,q n s⟩⟩
def j4(e:c9 X (gp d) r)(i:fR X.K r g)(j:DE X u a m)(n:DE X v b o)(p:Cs d b=ag:=by first|exact Nn _|(with_unfolding_all rfl)):DT X (.Compare a [d] [b] q) (aU (aq m o g)):=by
 nomatch (
  PT.imp (jie e j n p) λx x x h=>UY (l:=.b) (λx x x h=>HQ i h) h)
def QZ(e h i:T3)(g j:D->D->aw D):Sl->aw D:=λd=>e d>>=λx=>h d>>=λy=>g x y>>=λz=>match z with
 |.bl af=>i d>>=λw=>j y w
 |.bl ag=>.ok (.bl ag)
 |_=>.am
def vM(N:fR i r g)(p:fR i O U)(h:tE i l (QZ Y f2 f3 g U) σ H Q):Hg r O (tE i l1 Y) (tE i l2 f2) (tE i l3 f3) σ H Q:=by
 obtain⟨G,u,e,d,k,j,q⟩:=h;obtain⟨a,e1,j⟩:=je j;obtain⟨b,e2,j⟩:=je j;obtain⟨z,e3,B⟩:=je j;refine⟨G,u,e,a,k,e1,λx H1 m r1 c=>⟨G,u,e,b,k.aB m,e2,λy E n I c=>?_⟩⟩;refine N x y E a b z _ ((r1.aB n).aS Lv.bA) (I.aS Lv.bA) e3 λv o=>?_
 cases z with
 |bl t=>
  refine⟨t,(o.1 Any E).Bs,?_⟩
  cases t with
  |false=>
   cases B;exact q _ E (m.trans n) (.bl ag) (iz (κ:=i) ag).T
  |true=>
   obtain⟨w,e5,e6⟩:=je B;refine⟨G,u,e,w,(k.aB m).aB n,e5,λy' J L r4 c=>?_⟩;refine p y y' J b w d Q ((I.aB L).aS Lv.bA) (r4.aS Lv.bA) e6 λv o=>q v J (m.trans (n.trans L)) (o.1 _ _) o.T
 |_=>exact dD B
def Z8(m:c9 X (gp j) r)(n:fR X.K r g)(e:c9 X (gp d) o)(i:fR X.K o p)(q:DE X H a u)(v:DE X I b w)(y:DE X J c z)
   (B:lastMarks [j,d] [b,c]=ag:=by with_unfolding_all rfl):DE X l (.Compare a [j,d] [b,c] E) (QZ u w z g p):=by
 nomatch (
  PE.imp (jfj m e q v y B) λx x x h=>vM n i h)
def uZ(m:c9 X (gp j) r)(n:fR X.K r g)(e:c9 X (gp d) o)(i:fR X.K o p)(q:DE X H a u)(v:DE X I b w)(y:DE X J c z)
   (B:lastMarks [j,d] [b,c]=ag:=by with_unfolding_all rfl):DT X (.Compare a [j,d] [b,c] E) (aU (QZ u w z g p)):=by
 nomatch (
  PT.imp (je9 m e q v y B) λx x x h=>UY (l:=.b) (λx x x h=>vM n i h) h)
def qK(h:DE X l e f)(d:∀whole,isTrue e X.V whole=(do let v<-whole;rF e.pos;mS [v] (truthy v)):=by intro _;rfl):DT X e (aU f):=by
 nomatch (
  PT.imp (Tz h d) λx x x h=>UY (λx x x h=>h) h)
def NN:D->aw Bool
 |.bo=>.ok ag
 |.bl b=>.ok b
 |.int i=>.ok (i !=0)
 |.str x=>.ok ((x.length:Int) !=0)
 |.ap d|.al d|.dw d=>.ok (!d.isEmpty)
 |.cG _ _|.bw _ _|.eX _|.gK _ _|.bV _ _|.obj _ _ _=>.am
def jms{b}(r:aV g A H v d)(h:NN d=.ok b):wd g v H b:=by
 have r:=r.f;cases d<;>cases h
 .cases r;rfl
 .cases r;rfl
 .cases r;rfl
 .cases r.1;exact⟨r.2,rfl⟩
 .obtain⟨_,_,rfl,e,r⟩:=r;exact .inr (.inl ⟨_,.of e,by rw[r.isEmpty]⟩)
 .obtain⟨_,_,rfl,e,_,r⟩:=r;exact .inl ⟨_,.of e,by rw[r.isEmpty]⟩
 .obtain⟨_,_,rfl,e,r⟩:=r;exact .inl ⟨_,e.nO,by rw[r.isEmpty]⟩
def iJ(f:T3):Sl->aw Bool:=λd=>f d>>=NN
def HS(h:DE X l e f)(i:∀whole,isTrue e X.V whole=(do let v<-whole;rF e.pos;mS [v] (truthy v)):=by intro _;rfl):DT X e (iJ f):=by
 nomatch (
  PT.imp (je8 h i)<|by
   rintro o H Q ⟨G,j,g,b,k,m,q⟩;obtain⟨d,e1,e2⟩:=je m
   exact⟨G,j,g,d,k,e1,λv n s r x=>⟨b,jms r e2,q n s⟩⟩)
section
variable{rest:List Expr}
def bt(g:T0):Sl->aw Bool:=λd=>g d>>=λb=>.ok (!b)
def zc(h:DT X a g):DT X (.UnaryOp .Not a i) (bt g):=by
 nomatch (
  PT.imp (TJ h)<|by
   rintro n H Q ⟨G,j,e,b,k,m,q⟩;obtain⟨d,e1,e2⟩:=je m;cases e2
   exact⟨G,j,e,d,k,e1,q⟩)
@[irreducible] def DW (X:Cx) (e:Expr) (f:T0):Prop:=PW X e (tT X.K f)
theorem PW.imp(h:PW X e t)(w:∀d H Q,i d H Q->t d H Q):PW X e i:=λj g s d H Q I q=>h j g s d H Q I (w d H Q q)
def DW.dt(h:DW X e g):DT X e g:=by
 nomatch (PW.pt h)
def Kz(h:DT X a g):DW X (.BoolOp .And [a] d) g:=by
 nomatch (TC h)
def yT(h:DT X a g):DW X (.BoolOp .Or [a] d) g:=by
 nomatch (TD h)
def fu(e g2:T0):Sl->aw Bool:=λd=>e d>>=λb=>if b=af then g2 d else .ok ag
def eY(e g2:T0):Sl->aw Bool:=λd=>e d>>=λb=>if b=af then .ok af else g2 d
def Uq(i:DT X a j)(m:DW X (.BoolOp .And (b::rest) g) g2):DW X (.BoolOp .And (a::b::rest) g) (fu j g2):=by
 nomatch (
  PW.imp (TF i m)<|by
   rintro v H Q ⟨G,h,e,r,k,n,q⟩;obtain⟨d,e1,e2⟩:=je n;refine⟨G,h,e,d,k,e1,λo s=>?_⟩
   cases d with
   |true=>rw[if_pos aa]at e2 ⊢;exact⟨G,h,e,r,k.aB s,e2,λp u=>q p (s.trans u)⟩
   |false=>rw[if_neg Af]at e2 ⊢;cases e2;exact q o s)
def Jf(i:DT X a j)(m:DW X (.BoolOp .Or (b::rest) g) g2):DW X (.BoolOp .Or (a::b::rest) g) (eY j g2):=by
 nomatch (
  PW.imp (TH i m)<|by
   rintro v H Q ⟨G,h,e,r,k,n,q⟩;obtain⟨d,e1,e2⟩:=je n;refine⟨G,h,e,d,k,e1,λo s=>?_⟩
   cases d with
   |false=>rw[if_neg Af]at e2 ⊢;exact⟨G,h,e,r,k.aB s,e2,λp u=>q p (s.trans u)⟩
   |true=>rw[if_pos aa]at e2 ⊢;cases e2;exact q o s)
def l7(f:T3)(g:T3)(w:Bool):Sl->aw D:=λe=>f e>>=λd=>match d with
 |.bl b=>if b=w then g e else .ok (.bl b)
 |_=>.am
def Qe(h:DE X l a f):DE X l (.BoolOp e [a] d) f:=by
 nomatch (TN h)
def yW(i:DE X E a j)(m:DE X l (.BoolOp .And (b::rest) g) n):DE X l (.BoolOp .And (a::b::rest) g) (l7 j n af):=by
 nomatch (
  PE.imp (TQ i m)<|by
   rintro I H Q ⟨G,h,e,r,k,o,q⟩;obtain⟨d,e1,e2⟩:=je o;refine⟨G,h,e,d,k,e1,λv p s u x=>?_⟩
   cases d with
   |bl t=>
    refine⟨t,u.Bs,?_⟩
    cases t with
    |true=>exact⟨G,h,e,r,k.aB s,e2,λv w y z B=>q v w (s.trans y) z (Lv.pH s B)⟩
    |false=>cases e2;exact q _ p s (.bl ag) (iz (κ:=X.K) ag).T
   |_=>exact dD e2)
def Ag:D->aw D
 |.bl b=>.ok (.bl (!b))
 |_=>.am
def lq(f:T3):Sl->aw D:=λd=>f d>>=Ag
def Uu(h:DE X o a f):DE X l (.UnaryOp .Not a g) (lq f):=by
 nomatch (
  PE.imp (TR h)<|by
   rintro p H Q ⟨G,i,e,r,k,j,q⟩;obtain⟨d,e1,e2⟩:=je j;refine⟨G,i,e,d,k,e1,λv m s n x=>?_⟩
   cases d with
   |bl t=>cases e2;exact⟨t,n.Bs,q _ m s (.bl _) (iz (κ:=X.K) _).T⟩
   |_=>exact dD e2)
def Fb(g:T0)(e h:T3):Sl->aw D:=λd=>g d>>=λb=>if b=af then e d else h d
def HU(o:DT X c g)(p:DE X l a u)(w:DE X l b y):DE X l (.IfExp c a b z) (Fb g u y):=by
 nomatch (
  PE.imp (TV o p w)<|by
   rintro E H Q ⟨G,h,e,r,k,B,q⟩;obtain⟨d,e1,e2⟩:=je B;refine⟨G,h,e,d,k,e1,λI s=>?_⟩
   cases d with
   |true=>rw[if_pos aa]at e2 ⊢;exact⟨G,h,e,r,k.aB s,e2,λv i j m n=>q v i (s.trans j) m (Lv.pH s n)⟩
   |false=>rw[if_neg Af]at e2 ⊢;exact⟨G,h,e,r,k.aB s,e2,λv i j m n=>q v i (s.trans j) m (Lv.pH s n)⟩)
end
def jf(f:T3)(g:TY):Sl->aw (List D):=λe=>f e>>=λd=>g e>>=λh=>.ok (d::h)
def aT:Sl->aw (List D):=λx=>.ok []
def yX:DA X l [] aT:=by
 nomatch (PA.imp zV<|by rintro h H Q ⟨G,i,e,d,k,g,q⟩;cases g;exact q [] H (aA.refl H) .nil)
def jg(p:DE X l e f)(r:DA X l j g)(u:Wn X e j:=by exact jq aa):DA X l (e::j) (jf f g):=by
 nomatch (
  PA.imp (qc p r u)<|by
   rintro J H Q ⟨G,m,h,L,k,w,q⟩;obtain⟨d,e1,e2⟩:=je w;obtain⟨i,y,z⟩:=je e2;cases z
   exact⟨G,m,h,d,k,e1,λv N n B x=>⟨G,m,h,i,k.aB n,y,λO E o I=>q _ E (n.trans o) (.cons (B.aB o) I)⟩⟩)
def qX(s:aA H g)(d:g p=ah):bI H (.ref p):=λa e o q=>by
 cases e;rw[s _ _ q]at d;cases d
def aO(g:TY):Sl->aw D:=λd=>g d>>=λe=>bh (ao e<=ba) (.ok (.ap e))
def bJ(g:TY):Sl->aw D:=λd=>g d>>=λe=>bh (ao e<=ba) (.ok (.al e))
def jN(h:DA X .s n g):DE X .t (.Tuple n z o) (aO g):=by
 nomatch (
  PE.imp (jkR h)<|by
   rintro B H Q ⟨G,r,e,d,k,u,q⟩;obtain⟨v,e1,e2⟩:=je u;obtain⟨w,y⟩:=jE e2;cases y;refine⟨G,r,e,v,k,e1,λE I j m=>⟨by rw[m.length];exact w,λp i=>?_⟩⟩
   exact q _ _ (j.trans (aA.aQ i)) (.ap jv (m.aB (aA.aQ i))) (qX j i))
def qx(h:DA X .s n g):DE X .t (.List n o) (bJ g):=by
 nomatch (
  PE.imp (jkW h)<|by
   rintro z H Q ⟨G,r,i,d,k,u,q⟩;obtain⟨v,e1,e2⟩:=je u;obtain⟨w,y⟩:=jE e2;cases y;refine⟨G,r,i,v,k,e1,λB E j m=>⟨by rw[m.length];exact w,λp e=>?_⟩⟩
   exact q _ _ (j.trans (aA.aQ e)) (.al jv (k.new p (aA.free j e)) (m.laid e)) (qX j e))
def CP(e:bK)(r:List V->Hp->VK->Prop)(g:LD->aw D):Prop:=∀(h:List V)(H:Hp)(i:LD)(d:D)(Q:VK),ay e Any H h i->g i=.ok d->(∀v,Sc e v d->Q v H)->r h H Q
def Xo(h:bK)(r:List V->Hp->VK->Prop)(g:LD->aw D):Prop:=∀(A:Wp)(i:List V)(H:Hp)(j:LD)(d:D)(Q:VK),ay h A H i j->g j=.ok d->(∀v e,aA H e->aV h (λc=>H c=ah\/A c) e v d->bI H v->Q v e)->r i H Q
def app(f:TY)(g:LD->aw D):Sl->aw D:=λd=>f d>>=g
def jmD(o:CP i r g)(h:tE i I (app p g) u H Q):Cz r (tA i l p) u H Q:=by
 obtain⟨G,w,e,d,k,y,q⟩:=h;obtain⟨j,e1,e2⟩:=je y;refine⟨G,w,e,j,k,e1,λz m B E=>?_⟩;exact o z m j d Q (E.aS Lv.bA) e2 λv n=>q v m B (n.1 _ _) n.T
def NO(n:Xo j r g)(h:tE j .t (app o g) p H Q):Cz r (tA j .s o) p H Q:=by
 obtain⟨G,u,e,d,k,w,q⟩:=h;obtain⟨m,e1,e2⟩:=je w;refine⟨G,u,e,m,k,e1,λy B i E=>?_⟩;exact n _ y B m d Q E e2 λv I J L N=>q v I (i.trans J) (L.aS λc z=>z.elim (λz=>k.new c (aA.free i z)) λz=>z) (N.aB i)
def jmE(m:Xo i r g)(h:tE i .b (app n g) o H Q):Cz r (tA i .b n) o H Q:=by
 obtain⟨G,p,e,d,k,u,q⟩:=h;obtain⟨j,e1,e2⟩:=je u;refine⟨G,p,e,j,k,e1,λw y z B=>?_⟩;exact m _ w y j d Q B e2 λv E I J L=>q v E (z.trans I) (J.aS λc x=>trivial) trivial
section
variable{id:String}
def qe(n:bG X (.builtin id) r)(o:CP X.K r g)(q:Gl X x)(u:X.mg x=ah)(v:lW x=ae (.builtin id))
   (w:DA X l (e::d) y) (z:x≠ "__name__" :=by decide) (i:YG x:=by decide)
   (B:Wn X e d:=by exact jq aa) (j:Vl X m d:=by exact jR aa):DE X l' (.Call (.Name x p) (e::d) [] m) (app y g):=by
 nomatch (
  PE.imp (yd n q u v w z i B j) λa a a h=>jmD o h)
def zZ(n:bG X (.type T) r)(o:Xo X.K r g)(q:Gl X x)(u:X.mg x=ah)(v:lW x=ae (.type T))
   (w:DA X .s (e::d) y) (z:x≠ "__name__" :=by decide) (i:YG x:=by decide)
   (B:Wn X e d:=by exact jq aa) (j:Vl X m d:=by exact jR aa):DE X .t (.Call (.Name x p) (e::d) [] m) (app y g):=by
 nomatch (
  PE.imp (yM n q u v w z i B j) λa a a h=>NO o h)
def Yt(n:bG X (.type T) r)(o:Xo X.K r g)(q:Gl X x)(u:X.mg x=ah)(v:lW x=ae (.type T))
   (w:DA X .b (e::d) y) (z:x≠ "__name__" :=by decide) (i:YG x:=by decide)
   (B:Wn X e d:=by exact jq aa) (j:Vl X m d:=by exact jR aa):DE X .b (.Call (.Name x p) (e::d) [] m) (app y g):=by
 nomatch (
  PE.imp (yM n q u v w z i B j) λa a a h=>jmE o h)
end
def nQ(g:bK)(j:Bool)(n:Nat)(F:LD->aw D):Sp:=λh H Q x=>∃B i d,ao h=n/\ay g B H h i/\F i=.ok d/\∀v e,aA H e->aV g (λa=>H a=ah\/B a) e v d->(j=af->bI H v)->Q v e
def jl(n:Nat)(F:LD->aw D)(g:TY):Sl->aw D:=λd=>g d>>=λe=>bh (ao e=n) (F e)
section
def jjD(G:cZ X.P X.w X.K X.mg X.aj B k r I J (nQ X.K L n F))(N:aX k X.A)(O:Gl X x)(U:X.mg x=ae (.ref r))(Y:lc X.K (.ref r)=af)(hb:Binds X.K I J [])(hx:ZM B X E)
   (ha:DA X .s (e::h) g) (i:YG x:=by decide) (he:Wn X e h:=by exact jq aa) (j:Vl X m h:=by exact jR aa):
   DE X .s (.Call (.Name x p) (e::h) [] m) (jl n F g):=by
 nomatch (
  PE.imp (kr G N O U Y hb .nil hx ha i he j)<|by
   rintro σ H Q ⟨GG,H0,o,d,k,ef,q⟩;obtain⟨u,e1,e2⟩:=je ef;obtain⟨hn,e3⟩:=jE e2;refine⟨GG,H0,o,u,k,e1,λvs H1 w y=>?_⟩;show nQ X.K L n F (vs++[]) H1 Q E;rw[rH]
   exact⟨_,u,d,by rw[y.length];exact hn,y,e3,λv H2 s2 r2 a=>q v H2 (w.trans s2) (r2.aS λc z=>z.elim (λz=>k.new c (aA.free w z)) λz=>z) trivial⟩)
def jgK(G:cZ X.P X.w X.K X.mg X.aj B k u I J (nQ X.K af n F))(L:aX k X.A)(N:Gl X x)(O:X.mg x=ae (.ref u))(U:lc X.K (.ref u)=af)(Y:Binds X.K I J [])(hx:ZM B X E)
   (ha:DA X .s (e::h) g) (i:YG x:=by decide) (he:Wn X e h:=by exact jq aa) (j:Vl X m h:=by exact jR aa):
   DE X .t (.Call (.Name x p) (e::h) [] m) (jl n F g):=by
 nomatch (
  PE.imp (kr G L N O U Y .nil hx ha i he j)<|by
   rintro σ H Q ⟨GG,H0,o,d,k,ef,q⟩;obtain⟨w,e1,e2⟩:=je ef;obtain⟨hn,e3⟩:=jE e2;refine⟨GG,H0,o,w,k,e1,λvs H1 r y=>?_⟩;show nQ X.K af n F (vs++[]) H1 Q E;rw[rH]
   exact⟨_,w,d,by rw[y.length];exact hn,y,e3,λv H2 s2 r2 nt=>q v H2 (r.trans s2) (r2.aS λc z=>z.elim (λz=>k.new c (aA.free r z)) λz=>z) ((nt aa).aB r)⟩)
def jgL(G:cZ X.P X.w X.K X.mg X.aj y k r z B (nQ X.K I n F))(J:aX k X.A)(L:Gl X x)(N:X.mg x=ae (.ref r))(O:lc X.K (.ref r)=af)(U:Binds X.K z B [])(Y:ZM y X E)
   (ha:DA X .b (e::h) g) (i:YG x:=by decide) (he:Wn X e h:=by exact jq aa) (j:Vl X m h:=by exact jR aa):
   DE X .b (.Call (.Name x p) (e::h) [] m) (jl n F g):=by
 nomatch (
  PE.imp (kr G J L N O U .nil Y ha i he j)<|by
   rintro σ H Q ⟨GG,H0,o,d,k,ef,q⟩;obtain⟨u,e1,e2⟩:=je ef;obtain⟨hn,e3⟩:=jE e2;refine⟨GG,H0,o,u,k,e1,λvs H1 s1 w=>?_⟩;show nQ X.K I n F (vs++[]) H1 Q E;rw[rH]
   exact⟨_,u,d,by rw[w.length];exact hn,w,e3,λv H2 s2 r2 a=>q v H2 (s1.trans s2) (r2.aS λc a=>trivial) trivial⟩)
end
def HV(i:Int):D->aw D
 |.al e|.dw e|.ap e=>match h8 e i with
  |some d=>.ok d
  |none=>.am
 |.str z=>match h8 z.cps.toList i with
  |some c=>.ok (.str ⟨#[c]⟩)
  |none=>.am
 |_=>.am
def bc(a b:D):aw D:=match b with
 |.int i=>HV i a
 |_=>.am
def KY(r:ay m A H n g)(h:h8 g i=ae d):∃v,h8 n i=ae v/\aV m A H v d:=by
 delta h8 at h ⊢
 rw[r.length]
 cases e:pB g.length i with
 |none=>simp_all
 |some j=>rw[e]at h;exact r.get h
def jiu(c):(⟨#[c]⟩:Str).length<=ba:=by show 1<=ba;decide
def NP{a b}(j:aV X.K A H x a)(m:aV X.K Any H y b)(h:bc a b=.ok d)(q:∀v,aV X.K A H v d->Q v H):Nw X.K x y H Q:=by
 cases b<;>try exact dD h
 cases a<;>try exact dD h
 all_goals
   delta bc HV at h
   dsimp only at h
   split at h<;>cases h
   cases m.eG
 .obtain⟨rfl,n⟩:=j.ln;exact .inr (.inr ⟨_,_,_,rfl,rfl,n,‹_›,q _ (.str _ (by show 1<=ba;decide))⟩)
 .obtain⟨p,e,rfl,g,r⟩:=j.fK;obtain⟨v,e2,i⟩:=KY r ‹_›;exact .inr (.inl ⟨p,e,_,v,rfl,rfl,.of g,e2,q v i⟩)
 .obtain⟨p,e,rfl,g,_,r⟩:=j.dg;obtain⟨v,e2,i⟩:=KY r.low ‹_›;exact .inl ⟨p,e,_,v,rfl,rfl,.of g,e2,q v i⟩
 .obtain⟨p,e,rfl,g,r⟩:=j.lm;obtain⟨v,e2,i⟩:=KY r ‹_›;exact .inl ⟨p,e,_,v,rfl,rfl,g.nO,e2,q v i⟩
def jY(m:DE X .s a n)(o:DE X N b p)(r:K1 b:=by intro _ _;rfl):DE X .s (.Subscript a b u) (aq n p bc):=by
 nomatch (
  PE.imp (HB Nx m o r)<|by
   rintro O H Q ⟨G,h,e,d,k,g,q⟩;obtain⟨w,e1,g⟩:=je g;obtain⟨z,e2,B⟩:=je g;refine⟨G,h,e,w,k,e1,λx U i E c=>⟨G,h,e,z,k.aB i,e2,λy I j J c=>?_⟩⟩
   exact NP (E.aB j) (J.aS Lv.bA) B λv L=>q v I (i.trans j) L trivial)
@[irreducible] def DO (X:Cx) (e:Option Expr) (f:Sl->aw (Option Int)):Prop:=PO X e (λh H Q=>∃G j d i,aH X.K G j d h H/\f d=.ok i/\∀g,aA H g->Q i g)
theorem PO.imp{e}(h:PO X e t)(w:∀d H Q,i d H Q->t d H Q):PO X e i:=λg s d H Q I q=>h g s d H Q I (w d H Q q)
def Qn:Sl->aw (Option Int):=λx=>.ok ah
def JI:DO X ah Qn:=by
 nomatch (PO.imp jii<|by rintro g H Q ⟨G,h,d,i,k,e,q⟩;cases e;exact q H (aA.refl H))
def NQ:D->aw (Option Int)
 |.int i=>.ok (ae i)
 |_=>.am
def xr(f:T3):Sl->aw (Option Int):=λd=>f d>>=NQ
def yx(h:DE X l e f):DO X (ae e) (xr f):=by
 nomatch (PO.imp (jih h)<|by
  rintro p H Q ⟨G,m,g,i,k,n,q⟩;obtain⟨d,e1,e2⟩:=je n
  cases d with
  |int j=>cases e2;exact⟨G,m,g,.int j,k,e1,λv o s r x=>⟨j,r.eG,q o s⟩⟩
  |_=>exact dD e2)
def cutD(d:LD)(lo e:Option Int):LD:=(d.drop (HT.ck (ao d) 0 lo)).take (HT.ck (ao d) (ao d) e-HT.ck (ao d) 0 lo)
def vx{lo}(r:ay d A H e g):ay d A H (oy e lo h) (cutD g lo h):=by
 delta oy cutD;rw[r.length];exact(r.drop _).take _
def zO(f:T3)(e h:Sl->aw (Option Int))(g:D->Option Int->Option Int->aw D):Sl->aw D:=λd=>f d>>=λa=>e d>>=λlo=>h d>>=λi=>g a lo i
end
section
def ju{a:Type}{l:List a}{x}(h:i≠j):(l.set i x)[j]?=l[j]?:=rE h
def jy{c:Type}{l}{x y:c}(h:(l.set i x)[i]?=ae y):y=x/\i<ao l:=by
 have a:i<ao l:=by
  have:=(iZ.mp h).1;simpa using this
 rw[oj a]at h;exact⟨(i3 h).symm,a⟩
def Wz(h:qh (env.set i s) (l.set i (ae v)) a):qh env l a\/(∃d,s=.aG d/\v=.ref a):=by
 obtain⟨j,d,c,g⟩:=h
 by_cases e:i=j
 .subst e;obtain⟨m,_⟩:=jy c;obtain⟨n,_⟩:=jy g;exact .inr ⟨d,m.symm,(i3 n).symm⟩
 .rw[ju e]at c g;exact .inl ⟨j,d,c,g⟩
def aH.m4(k:aH l G y env c H)(r:aV l (Sf G env c) H v d):aH l G y (env.set i (.ai d)) (c.set i (ae v)) H:=by
 have w:∀a,Sf G env c a->Sf G (env.set i (.ai d)) (c.set i (ae v)) a:=λa n=>⟨λo=>(by
   rcases Wz o with z|⟨L,z,_⟩
   .exact n.1 z
   .cases z),n.2⟩
 refine⟨by simp[k.len],k.aj,k.g0,λj e h=>?_,λj e h=>?_,λj m e B a h1 h2 p u=>?_⟩
 .by_cases z:i=j
  .subst z;obtain⟨q,hl⟩:=jy h;cases q;exact⟨v,oj (by rw[k.len];exact hl),r.aS w⟩
  .rw[ju z]at h ⊢;obtain⟨g,h1,h2⟩:=k.ai j e h;exact⟨g,h1,h2.aS w⟩
 .by_cases z:i=j
  .subst z;obtain⟨q,hl⟩:=jy h;cases q
  .rw[ju z]at h ⊢;obtain⟨g,h1,E,h2⟩:=k.aG j e h;exact⟨g,h1,E,h2.bq (λx x e x=>e) w λx e=>e⟩
 .have I:i≠j:=λz=>by subst z;obtain⟨q,_⟩:=jy h1;cases q
  have J:i≠m:=λz=>by subst z;obtain⟨q,_⟩:=jy h2;cases q
  rw[ju I]at h1 p;rw[ju J]at h2 u;exact k.mZ j m e B a h1 h2 p u
def YU:D->Bool
 |.al _|.cG _ _|.bw _ _|.obj _ _ _=>af
 |_=>ag
def kz(r:aV g A H v d)(h:YU d=af):∃a,v=.ref a/\A a/\(∃o,H a=ae o/\oh (ae o))/\Top g (λc=>A c/\c≠a) H a d:=by
 have r:=r.f;cases d<;>cases h
 .obtain⟨_,_,rfl,e,a,r⟩:=r;exact⟨_,rfl,a,⟨_,e,trivial⟩,.al e r⟩
 .obtain⟨_,_,rfl,e,a,k,r⟩:=r;exact⟨_,rfl,a,⟨_,e,trivial⟩,.cG e k aa r⟩
 .obtain⟨_,_,rfl,e,a,k,r⟩:=r;exact⟨_,rfl,a,⟨_,e,trivial⟩,.bw e k aa r⟩
 .obtain⟨_,_,_,_,rfl,e,a,k,l,r⟩:=r;exact⟨_,rfl,a,⟨_,e,trivial⟩,.obj e ⟨k,l⟩ aa r⟩
def jlc(s:aA H d)(g:bI H (.ref a))(h:∃o,d a=ae o/\oh (ae o)):H a=ah:=by
 cases e:H a with
 |none=>rfl
 |some o=>
  obtain⟨j,c,i⟩:=h;rw[s a o e]at c;cases c;exact(g a aa o e i).elim
def aH.HW(k:aH O G H0 env g H)(s:aA H Q)(r:aV O (Sf G env g) Q v d)(nt:bI H v)(hd:YU d=af):aH O G H0 (env.set i (.aG d)) (g.set i (ae v)) Q/\∃a,v=.ref a/\H a=ah:=by
 obtain⟨a,rfl,ga,mt,top⟩:=kz r hd;have I:=jlc s nt mt;refine⟨?_,a,rfl,I⟩
 have w:∀c,(Sf G env g c/\c≠a)->Sf G (env.set i (.aG d)) (g.set i (ae (V.ref a))) c:=λc n=>⟨λo=>(by
   rcases Wz o with z|⟨d',z,l⟩
   .exact n.1.1 z
   .cases l;exact n.2 aa),n.1.2⟩
 have p:∀c,(Sf G env g c/\H c≠ah)->Sf G (env.set i (.aG d)) (g.set i (ae (V.ref a))) c:=λc n=>w c ⟨n.1,λe=>n.2 (by rw[e];exact I)⟩
 have k1:=k.aB s;refine⟨by simp[k.len],k1.aj,k.g0,λj e h=>?_,λj e h=>?_,λj J e U b h1 h2 L y=>?_⟩
 .by_cases z:i=j
  .subst z;obtain⟨q,hl⟩:=jy h;cases q
  .rw[ju z]at h ⊢;obtain⟨N,h1,h2⟩:=k.ai j e h;exact⟨N,h1,(h2.dL.aB s).aS p⟩
 .by_cases z:i=j
  .subst z;obtain⟨q,hl⟩:=jy h;cases q;exact⟨a,oj (by rw[k.len];exact hl),aA.free k.aj I,top.bq (λx x e x=>e) w λx e=>e⟩
  .rw[ju z]at h ⊢;obtain⟨N,h1,h0,h2⟩:=k.aG j e h;refine⟨N,h1,h0,?_⟩
   cases h2 with
   |al e2 m=>exact .al (s _ _ e2) ((m.dL.aB s).aS p)
   |cG e2 B E m=>exact .cG (s _ _ e2) B E ((m.dL.aB s).aS p)
   |bw e2 B E m=>exact .bw (s _ _ e2) B E ((m.dL.aB s).aS p)
   |obj e2 B E m=>exact .obj (s _ _ e2) B E ((m.dL.aB s).aS p)
 .have new:∀(j:Nat)(e:D),env[j]?=ae (.aG e)->g[j]?=ae (ae (.ref a))->False:=λj e q1 q2=>by
    obtain⟨u,q⟩:=k.there ⟨j,e,q1,q2⟩;rw[I]at q;cases q
  by_cases Y:i=j
  .subst Y
   by_cases l:i=J
   .exact l
   .rw[ju l]at h2 y;obtain⟨q,_⟩:=jy L;cases q;exact(new J U h2 y).elim
  .rw[ju Y]at h1 L
   by_cases l:i=J
   .subst l;obtain⟨q,_⟩:=jy y;cases q;exact(new j e h1 L).elim
   .rw[ju l]at h2 y;exact k.mZ j J e U b h1 h2 L y
def bN.set(sm:aA H c)(fresh:∀a d,s=.aG d->v=.ref a->H a=ah):bN env g H (env.set i s) (g.set i (ae v)) c:=
 ⟨λb o e x=>sm b o e,λb o=>by
  rcases Wz o with z|⟨h,z,j⟩
  .exact .inl z
  .exact .inr (fresh b h z j),λb e=>aA.free sm e⟩
def bN.sf(f:bN env e H c d g):∀a,(Sf G env e a/\H a≠ah)->Sf G c d a:=λa z=>⟨λo=>(f.more a o).elim z.1.1 z.2,z.1.2⟩
def bN.st(k:aH j G l env c H)(f:bN env c H d h i):fQ (λa=>Sf G env c a/\H a≠ah) H i:=λa o e m=>f.keep a o e λg=>(m (k.m3 g e)).1.1 g
def bN.rep(k:aH e G i env g H)(f:bN env g H a c h)(r:aV e (Sf G env g) H v d):aV e (Sf G a c) h v d:=r.dL.bq (f.st k) f.sf
def bN.Ah(k:aH d G j env e H)(f:bN env e H a c g)(r:ay d (Sf G env e) H h i):ay d (Sf G a c) g h i:=r.dL.bq (f.st k) f.sf
end
def Bv(d:D):Slot:=if YU d=af then .aG d else .ai d
def aH.pI(k:aH j G l env c H)(s:aA H g)(r:aV j (Sf G env c) g v d)(m:bI H v):
   aH j G l (env.set i (Bv d)) (c.set i (ae v)) g/\bN env c H (env.set i (Bv d)) (c.set i (ae v)) g:=by
 delta Bv
 by_cases h:YU d=af
 .rw[if_pos h];obtain⟨z,n,o,p⟩:=k.HW s r m h;refine⟨z,.set s λa q x e=>?_⟩
  simp_all
 .rw[if_neg h];exact⟨(k.aB s).m4 r,.set s λx x z x=>by cases z⟩
def bP:Sl->aw br:=λa=>.ok (.nx a)
def CQ(f:T3):Sl->aw br:=λa=>f a>>=λx=>.ok (.nx a)
def pJ(h:Int->Int->Int)(a b:D):aw D:=match a,b with
 |.int m,.int n=>.ok (.int (h m n))
 |_,_=>.am
def az(e g2:TZ):Sl->aw br:=λc=>e c>>=λo=>match o with
 |.nx a=>g2 a
 |.rt g d=>.ok (.rt g d)
 |.bk a=>.ok (.bk a)
 |.ct a=>.ok (.ct a)
section
variable{st:Stmt}{rest:List Stmt}
def jM:h9 X [] bP:=by
 nomatch (eh.imp ki<|by
  rintro E a H ⟨G,e,c,o,k,d,q⟩;cases d
  exact q a H k (bN.refl (aA.refl H)))
def Js(f:bN env l H c j m)(q:oA n G p env l H E o):oA n G p c j m E o:=by
 cases o with
 |nx _|bk _|ct _=>exactλa g h i=>q a g h (f.trans i)
 |rt r d=>exact q
def jd(h:DS X st i)(j:h9 X rest g2):h9 X (st::rest) (az i g2):=by
 nomatch (eh.imp (y7 h j)<|by
  rintro E u H ⟨G,e,c,o,k,l,q⟩;obtain⟨g,e1,e2⟩:=je l;refine⟨G,e,c,g,k,e1,?_⟩
  cases g with
  |nx a=>exactλm v n p=>⟨G,e,a,o,n,e2,Js p q⟩
  |rt _ _|bk _=>cases e2;exact q
  |ct r=>cases e2;exact q)
def ji(a:DS X st c):h9 X [st] c:=by
 nomatch (eh.imp (Wt a) λE d H q=>q)
def aY(f:T3):Sl->aw br:=λa=>f a>>=λd=>.ok (.rt af d)
def jO(h:DE X .t e f):DS X (.Return (ae e) g) (aY f):=by
 nomatch (PS.imp (GV h)<|by
  rintro E n H ⟨G,i,c,o,k,j,q⟩;obtain⟨d,e1,e2⟩:=je j;cases e2
  exact⟨G,i,c,d,k,e1,λv l s r m=>q v l (k.aj.trans s) (r.aS λa z=>z.2) λx=>bI.aB k.aj m⟩)
def retS(f:T3):Sl->aw br:=λa=>f a>>=λd=>.ok (.rt ag d)
def Zq(h:DE X .s e f):DS X (.Return (ae e) g) (retS f):=by
 nomatch (PS.imp (GV h)<|by
  rintro E m H ⟨G,i,c,o,k,j,q⟩;obtain⟨d,e1,e2⟩:=je j;cases e2
  exact⟨G,i,c,d,k,e1,λv l s r n=>q v l (k.aj.trans s) (r.aS λa z=>z.2) λz=>by cases z⟩)
def rP(i:Nat):Sl->aw D:=λa=>match a[i]? with
 |some (.aG d)=>.ok d
 |some (.ai d)=>bh (d.lN=af) (.ok d)
 |_=>.am
set_option tactic.hygienic true in
theorem Qt(i)(n:X.N[i]?=ae x:=by rfl)(r:gj X.V.scope x:=by exact dC aa)(u:YG x:=by decide)
    (l:YF x:=by decide):DS X (.Return (ae (.Name x p)) w) (aY (rP i)):=by
 nomatch (PS.imp (GV (zC n r u l)) λE N H=>by
  rintro⟨G,O,y,o,k,B,q⟩;obtain⟨d,e1,e2⟩:=je B;cases e2
  delta rP at e1
  split at e1
  .rename_i I g;cases e1;obtain⟨a,h,J,j⟩:=k.aG i d g;refine⟨.ref a,h,q _ H k.aj (j.rep (λc z=>⟨z.2,X8 k g h c z⟩) (k.g0 a J)) λf b e Q U=>?_⟩
   simp_all
  .rename_i I g;obtain⟨m,L⟩:=jE e1;cases L;obtain⟨v,h,j⟩:=k.ai i d g;exact⟨v,h,q v H k.aj (j.lN m) λf=>NI k.aj j m⟩
  .cases e1)
def bS(t:T0)(c g2:TZ):Sl->aw br:=λa=>t a>>=λb=>if b=af then c a else g2 a
def qS(h:DT X c t)(i:h9 X e j)(l:h9 X a g2):DS X (.If c e a m) (bS t j g2):=by
 nomatch (PS.imp (GX h i l)<|by
  rintro E p H ⟨G,g,d,o,k,n,q⟩;obtain⟨b,e1,e2⟩:=je n;refine⟨G,g,d,b,k,e1,λr s=>?_⟩
  cases b with
  |true=>rw[if_pos aa]at e2 ⊢;exact⟨G,g,d,o,k.aB s,e2,Js (bN.refl s) q⟩
  |false=>rw[if_neg Af]at e2 ⊢;exact⟨G,g,d,o,k.aB s,e2,Js (bN.refl s) q⟩)
def cR(i:Nat)(f:T3):Sl->aw br:=λa=>f a>>=λd=>.ok (.nx (a.set i (Bv d)))
def zD(i)(l:X.N.Nodup)(h:DE X .t e f)(m:X.N[i]?=ae x:=by rfl)(n:Loc X.V.scope x:=by exact l6 aa)(p:kw e (ae (.Name x a)) c.line X.V=pure ag:=by rfl)
   (u:Vk X x:=by first|exact .inl aa|exact .inr aa|assumption):DS X (.Assign [.Name x a] e c) (cR i f):=by
 nomatch (
  PS.imp (G3 l m n h p u)<|by
   rintro E B H ⟨G,w,g,o,k,y,q⟩;obtain⟨d,e1,e2⟩:=je y;cases e2
   exact⟨G,w,g,d,k,e1,λv z s r j=>q _ z (k.pI s r j).1 (k.pI s r j).2⟩)
def jF(i:Nat)(f:T3):Sl->aw br:=λa=>f a>>=λd=>.ok (.nx (a.set i (.ai d)))
def jD(i)(j:X.N.Nodup)(h:DE X .s e f)(l:X.N[i]?=ae x:=by rfl)(m:Loc X.V.scope x:=by exact l6 aa)(n:kw e (ae (.Name x a)) c.line X.V=pure ag:=by rfl)
   (p:Vk X x:=by first|exact .inl aa|exact .inr aa|assumption):DS X (.Assign [.Name x a] e c) (jF i f):=by
 nomatch (
  PS.imp (G3 j l m h n p)<|by
   rintro E B H ⟨G,u,g,o,k,w,q⟩;obtain⟨d,e1,e2⟩:=je w;cases e2
   exact⟨G,u,g,d,k,e1,λv y s r b=>q _ y ((k.aB s).m4 r) (.set s λb b z b=>by cases z)⟩)
def NR(i)(p:X.N.Nodup)(u:DE X l e f)(y:GZ X B (Ng h))(I:X.N[i]?=ae x:=by rfl)(J:Loc X.V.scope x:=by exact l6 aa)
   (L:Vk X x:=by first|exact .inl aa|exact .inr aa|assumption):
   DS X (.AugAssign (.Name x j) B e N) (jF i (aq (bR i) f (pJ h))):=by
 nomatch (
  PS.imp (US p I J u y L)<|by
   rintro E σ H ⟨G,O,c,o,k,Q,q⟩;obtain⟨d,e1,e2⟩:=je Q;obtain⟨a,U,Y⟩:=je e1;obtain⟨b,e5,g⟩:=je Y;cases e2;obtain⟨v,h1,h2⟩:=k.ai i a (ke U);refine⟨v,h1,G,O,c,b,k,e5,λw H' s r t=>?_⟩
   cases a with
   |int m=>
    cases b with
    |int n=>
     cases g;cases h2.eG;cases r.eG;exact⟨m,n,rfl,rfl,q _ H' ((k.aB s).m4 (.int _)) (.set s λt t z t=>by cases z)⟩
    |_=>exact dD g
   |_=>exact dD g)
end
def Fc(x:Str):It:=⟨λi y=>i<x.cps.size,λi H v a=>a=H/\∃c,x.cps[i]?=ae c/\v=.str ⟨#[c]⟩,λi y=>x.cps.size<=i⟩
def jaH(a)(x)(t):Turn P w κ tg (Fc x) [a] a (λi h=>h.IsStrIter a "str_ascii_iterator" x t i) where
 mem:=by simp
 obj:=λi h st b g=>by
  obtain⟨o,e,c,d⟩:=st
  simp_all
 keep:=λi h B st k=>let ⟨o,L,r⟩:=st;⟨o,k a aE o L,r⟩
 item:=by
  intro X N hw O J i j s Q H E I m st p;have n:i<x.cps.size:=p;obtain⟨q,u,U,v,y,z⟩:=m a aE;refine wpAny_pyNext_ascii_item st (c:=x.cps[i]) (by simp[n]) λB l Y=>?_
  obtain⟨o,e,c,d⟩:=id l;exact⟨_,rfl,Bh e c d au ⟨.str ⟨#[x.cps[i]]⟩,H,(I.turned (λb o g e=>(Y.2 b g).trans e) q u v y z),⟨_,rfl⟩,⟨rfl,_,by simp[n],rfl⟩,l,λb g=>(m b g).1⟩⟩
 done:=by
  intro X N hw O J i j s Q H E I m st p;have n:=p;obtain⟨q,u,U,v,y,z⟩:=m a aE;exact wpAny_pyNext_ascii_end (I.ok.hd J) st (by simp;exact n) λB eb=>⟨rfl,I.turned (λb o g e=>eb b o g e) q u v y z⟩
 self:=λf f f f f st h=>wpAny_pyIter_striter_ascii st h
def jbU(a)(x)(t):Turn P w κ tg (Fc x) [a] a (λi h=>h.IsStrIter a "str_iterator" x t i) where
 mem:=by simp
 obj:=λi h st b g=>by
  obtain⟨o,e,c,d⟩:=st
  simp_all
 keep:=λi h B st k=>let ⟨o,L,r⟩:=st;⟨o,k a aE o L,r⟩
 item:=by
  intro X N hw O J i j s Q H E I m st p;have n:i<x.cps.size:=p;obtain⟨q,u,U,v,y,z⟩:=m a aE;refine wpAny_pyNext_wide_item st (c:=x.cps[i]) (by simp[n]) λB l Y=>?_
  obtain⟨o,e,c,d⟩:=id l;exact⟨_,rfl,Bh e c d au ⟨.str ⟨#[x.cps[i]]⟩,H,(I.turned (λb o g e=>(Y.2 b g).trans e) q u v y z),⟨_,rfl⟩,⟨rfl,_,by simp[n],rfl⟩,l,λb g=>(m b g).1⟩⟩
 done:=by
  intro X N hw O J i j s Q H E I m st p;have n:=p;obtain⟨q,u,U,v,y,z⟩:=m a aE;exact wpAny_pyNext_wide_end (I.ok.hd J) st (by simp;exact n) λB eb=>⟨rfl,I.turned (λb o g e=>eb b o g e) q u v y z⟩
 self:=λf f f f f st h=>wpAny_pyIter_striter_wide st h
def Walk(J:It)(a:List V)(P:Hp->Prop):Prop:=∀i H,P H->(i<ao a->J.go i H)/\(i<ao a->∀x c,J.ER i H x c->c=H/\a[i]?=ae x)/\(ao a<=i->J.stop i H)
def Yd(a:bK)(A:Wp)(c H e:Hp)(x:V)(d:D):Prop:=
 (e=H/\aV a A c x d)\/∃p g h,H p=ah/\x=.ref p/\e=L2.aQ H p (.ap g)/\d=.ap h/\ay a A c g h
def Fd(e:bK)(A:Wp)(g:Hp)(J:It)(a:LD)(P:Hp->Prop):Prop:=∀i H,P H->(i<ao a->J.go i H)/\(∀d,a[i]?=ae d->∀x c,J.ER i H x c->Yd e A g H c x d)/\(ao a<=i->J.stop i H)
def Walk.toD(c:ay g A j l m)(w:Walk J l P):Fd g A j J m P:=λi H p=>by
 have hl:=c.length;obtain⟨n,o,q⟩:=w i H p;refine⟨λh=>n ak,λd hd x u y=>?_,λh=>q ak⟩;have z:=(iZ.mp hd).1;obtain⟨e,v⟩:=o ak x u y;obtain⟨B,a,r⟩:=c.get' v;rw[hd]at a;cases a;exact .inl ⟨e,r⟩
def tI(h:bK)(f:TY):TI:=λe H R=>∃G l a i,aH h G l a e H/\f a=.ok i/\
 ∀J c P,aA H c->Fd h (Sf G a e) c J i P->P c->(∀d g j,bN a e c d g j->P j)->R J c
@[irreducible] def DI (X:Cx) (a e:Expr) (f:TY):Prop:=PI X a e (tI X.K f)
def YC(z:Str):LD:=z.cps.toList.map λc=>.str ⟨#[c]⟩
def Fe:D->aw (List D)
 |.al a|.dw a|.ap a=>.ok a
 |.str z=>.ok (YC z)
 |_=>.am
def Bw(z:Str):List V:=z.cps.toList.map λc=>.str ⟨#[c]⟩
def jb5(z):ay d A H (Bw z) (YC z):=by
 delta Bw YC
 generalize z.cps.toList=l
 induction l with
 |nil=>exact .nil
 |cons c r a=>exact .cons (.str _ (jiu c)) a
section
def cF(f:T3):Sl->aw (List D):=λa=>f a>>=Fe
def qM(h:DE X .s e f):DI X tg e (cF f):=by
 nomatch (by
  rintro O s σ H R I ⟨G,H0,E,ds,k,ef,q⟩;obtain⟨d,e1,e2⟩:=je ef;refine bE (h O s σ H (λv m=>aA H m/\aV X.K (Sf G E σ) m v d) I ⟨G,H0,E,d,k,e1,λv w s r A=>⟨s,r⟩⟩) ?_;rintro v n ⟨x,m,j,r1,sm,rep⟩;have k1:=k.aB sm
  cases d with
  |al Q=>
   cases e2;obtain⟨a,g,rfl,B,na,U⟩:=rep.dg;cases r1;obtain⟨Y,rv,p,hz⟩:=j.list (.of B);refine vH p.isList ?_;refine⟨n.heap.objs.size,[n.heap.objs.size],_,_,m,rfl,j.kept λb o e=>cc _ e,Wh a _,⟨_,dA _ aa,rfl,rfl⟩,λb hb=>?_,?_⟩
   .have e:b=n.heap.objs.size:=by simp_all
    subst e;exact j.fZ (bz _) (j.be.fresh (bz _))
   .refine q _ m (λH=>H a=ae (.al g)) sm (Walk.toD U.low λi w p=>?_) B (λu L w fr=>fr.keep a _ B na.1);exact⟨λl=>⟨g,g[i],.of p,by simp[l]⟩,λA x w y=>⟨y.1,y.2 g (.of p)⟩,λl=>⟨g,.of p,l⟩⟩
  |dw Q=>
   cases e2;obtain⟨a,g,rfl,B,U⟩:=rep.lm;cases r1;obtain⟨Y,rv,p,hz⟩:=j.list B.nO;refine vH p.isList ?_;refine⟨n.heap.objs.size,[n.heap.objs.size],_,_,m,rfl,j.kept λb o e=>cc _ e,Wh a _,⟨_,dA _ aa,rfl,rfl⟩,λb hb=>?_,?_⟩
   .have e:b=n.heap.objs.size:=by simp_all
    subst e;exact j.fZ (bz _) (j.be.fresh (bz _))
   .refine q _ m (λH=>pE X.K H a g) sm (Walk.toD U λi w p=>?_) B (λu L w fr=>?_)
    .exact⟨λl=>⟨g,g[i],p.nO,by simp[l]⟩,λA x w y=>⟨y.1,y.2 g p.nO⟩,λl=>⟨g,p.nO,l⟩⟩
    .rcases B with⟨o,eo⟩|z
     .exact .inl ⟨o,fr.keep a _ eo λow=>(k1.m3 ow eo).elim⟩
     .exact .inr z
  |ap Q=>
   cases e2;obtain⟨a,g,rfl,B,U⟩:=rep.fK;cases r1;obtain⟨Y,rv,p,hz⟩:=j.tuple (.of B);refine wpAny_pyIter_tuple (p) ?_;refine⟨n.heap.objs.size,[n.heap.objs.size],_,_,m,rfl,j.kept λb o e=>cc _ e,UX a _,⟨_,dA _ aa,rfl,rfl⟩,λb hb=>?_,?_⟩
   .have e:b=n.heap.objs.size:=by simp_all
    subst e;exact j.fZ (bz _) (j.be.fresh (bz _))
   .refine q _ m (λH=>H a=ae (.ap g)) sm (Walk.toD U λi w p=>?_) B (λu L w fr=>fr.keep a _ B λow=>(k1.m3 ow B).elim);exact⟨λl=>⟨g,g[i],.of p,by simp[l]⟩,λA x w y=>⟨y.1,y.2 g (.of p)⟩,λl=>⟨g,.of p,l⟩⟩
  |str z=>
   cases e2;obtain⟨rfl,hz⟩:=rep.ln;obtain⟨t,rfl⟩:=r1
   have fin:∀(J:It),J=Fc z->∃(g:List V)(P:Hp->Prop),ay X.K (Sf G E σ) m g (YC z)/\Walk J g P/\P m/\∀u L w,bN E σ m u L w->P w:=by
     rintro J rfl;refine⟨Bw z,λA=>True,jb5 z,λi w A=>?_,trivial,λA A A A=>trivial⟩;have hl:(Bw z).length=z.cps.size:=by simp[Bw]
     refine⟨λl=>by rw[hl]at l;exact l,λl x H2 y=>?_,λl=>by rw[hl]at l;exact l⟩;obtain⟨y1,c,y2,y3⟩:=y;refine⟨y1,?_⟩;subst y3;simp[Bw,y2]
   obtain⟨g,P,h1,h2,h3,h4⟩:=fin (Fc z) aa
   cases N:z.cps.all (· <128)with
   |true=>
     refine wpAny_pyIter_ascii N ?_;refine⟨n.heap.objs.size,[n.heap.objs.size],_,_,m,rfl,j.kept λb o e=>cc _ e,jaH _ z t,⟨_,dA _ aa,rfl,rfl⟩,λb hb=>?_,q _ m P sm (Walk.toD h1 h2) h3 h4⟩;have e:b=n.heap.objs.size:=by simp_all
     subst e;exact j.fZ (bz _) (j.be.fresh (bz _))
   |false=>
     refine wpAny_pyIter_wide N ?_;refine⟨n.heap.objs.size,[n.heap.objs.size],_,_,m,rfl,j.kept λb o e=>cc _ e,jbU _ z t,⟨_,dA _ aa,rfl,rfl⟩,λb hb=>?_,q _ m P sm (Walk.toD h1 h2) h3 h4⟩;have e:b=n.heap.objs.size:=by simp_all
     subst e;exact j.fZ (bz _) (j.be.fresh (bz _))
  |_=>exact dD e2)
def WZ(lo:Int)(n:Nat):LD:=(gH n).map λ(i:Nat)=>.int (lo+(i:Int))
def Bx(lo:Int)(n:Nat):List V:=(gH n).map λ(i:Nat)=>.int (lo+(i:Int))
def jdt(lo)(n):ay d A H (Bx lo n) (WZ lo n):=by
 delta Bx WZ
 generalize gH n=l
 induction l with
 |nil=>exact .nil
 |cons c r a=>exact .cons (.int _) a
def jaA(lo)(n):Walk (ES lo n) (Bx lo n) (λz=>True):=λi H z=>by
 have c:(Bx lo n).length=n:=by simp[Bx]
 refine⟨λa=>by rw[c]at a;exact a,λa x g y=>?_,λa=>by rw[c]at a;exact a⟩;obtain⟨d,e⟩:=y;refine⟨d,?_⟩;subst e;rw[c]at a;simp[Bx,a]
def Ai:LD->aw (List D)
 |[.int j]=>bh (-(2^62)<=j/\j<2^62) (.ok (WZ 0 j.toNat))
 |_=>.am
def ay.one(r:ay a A H c [d]):∃v,c=[v]/\aV a A H v d:=by
 cases r with
 |cons h t=>cases t;exact⟨_,rfl,h⟩
def ay.aq(r:ay c A H e [d,g]):∃v a,e=[v,a]/\aV c A H v d/\aV c A H a g:=by
 cases r with
 |cons h t=>
  obtain⟨a,rfl,i⟩:=t.one;exact⟨_,_,rfl,h,i⟩
def PI.imp(h:PI X d e t)(w:∀a H Q,g a H Q->t a H Q):PI X d e g:=λc s a H Q I q=>h c s a H Q I (w a H Q q)
def ia(c:TY):Sl->aw (List D):=λa=>c a>>=Ai
def yU(d:Gl X "range")(e:X.mg "range" =ah)(g:DA X l [a] h)(i:bx [a] X.V=[(ag,eval a X.V)]:=by rfl):DI X I (.Call (.Name "range" p) [a] [] j) (ia h):=by
 nomatch (
  PI.imp (XT d e g i)<|by
   rintro J H R ⟨G,m,c,L,k,n,q⟩;obtain⟨o,e1,e2⟩:=je n;refine⟨G,m,c,o,k,e1,λN u w y=>?_⟩
   delta Ai at e2
   split at e2
   .obtain⟨⟨z,B⟩,E⟩:=jE e2;cases E;obtain⟨v,rfl,r⟩:=y.one;cases r.eG;exact⟨_,rfl,z,B,q _ u _ w (Walk.toD (jdt 0 _) (jaA 0 _)) trivial λx x x x=>trivial⟩
   .cases e2)
def tG(g:bK)(t:TW):TG:=λv h H Q=>∃G i c d a,aH g G i c h H/\aV g (Sf G c h) H v d/\t d c=.ok a/\∀e,aH g G i a e H->bN c h H a e H->Q e H
@[irreducible] def DG (X:Cx) (a:Expr) (t:TW):Prop:=PG X a (tG X.K t)
theorem PG.imp(h:PG X d t)(w:∀v a H Q,e v a H Q->t v a H Q):PG X d e:=λc s a H v u Q I r q=>h c s a H v u Q I r (w v a H Q q)
def gN(i:Nat):D->Sl->aw Sl:=λd a=>.ok (a.set i (.ai d))
def jr(i)(c:X.N.Nodup)(g:X.N[i]?=ae x:=by rfl)(h:Loc X.V.scope x:=by exact l6 aa)
   (j:Vk X x:=by first|exact .inl aa|exact .inr aa|assumption):DG X (.Name x l) (gN i):=by
 nomatch (
  PG.imp (kq c g h j)<|by
   rintro v n H Q ⟨G,o,m,d,a,k,r,e,q⟩;cases e
   exact q _ (k.m4 r) (.set (aA.refl H) λy y z y=>by cases z))
def g2(t u:TW):D->Sl->aw Sl:=λd c=>match d with
 |.ap [x,y]=>t x c>>=λa=>u y a
 |_=>.am
def qY(p:X.bU=af)(w:DG X a t)(y:DG X b u)
   (z:(i4 [a,b] X.V).map (·.2)=oo a X.V::(i4 [b] X.V).map (·.2):=by rfl) (h:(i4 [b] X.V).map (·.2)=oo b X.V::(i4 [] X.V).map (·.2):=by rfl)
   (B:(i4 [a,b] X.V).length=2:=by rfl) (i:(i4 [a,b] X.V).findIdx? (·.1)=ah:=by rfl):DG X (.Tuple [a,b] k E) (g2 t u):=by
 nomatch (
  PG.imp (Nd p (ZX w (ZX y Nc h) z) B i)<|by
   rintro v σ H Q ⟨G,m,j,d,g,k,r,e,q⟩
   delta g2 at e
   split at e
   .obtain⟨c,e1,e2⟩:=je e;obtain⟨a,xs,rfl,I,J⟩:=r.fK;obtain⟨L,n,rfl,N,O⟩:=J.aq;refine⟨a,_,rfl,.of I,rfl,L,[n],rfl,G,m,j,_,c,k,N,e1,λU Y o=>⟨n,[],rfl,G,m,c,_,g,Y,o.rep k O,e2,λl k2 f2=>⟨rfl,q l k2 (o.trans f2)⟩⟩⟩
   .cases e)
def gb(f:T3)(t:TW):Sl->aw br:=λa=>f a>>=λd=>t d a>>=λc=>.ok (.nx c)
def ZL(l:DE X .s e f)(m:DG X a t)(n:swapsWithSole [a] e h.line X.V=pure ag:=by rfl)(hw:swappedStores [a] e X.V=pure ah:=by rfl)
   (p:(i4 [a] X.V).map (·.2)=[oo a X.V]:=by rfl):DS X (.Assign [a] e h) (gb f t):=by
 nomatch (
  PS.imp (Nf l m n hw p)<|by
   rintro E J H ⟨G,j,c,o,k,u,q⟩;obtain⟨d,e1,e2⟩:=je u;obtain⟨g,w,y⟩:=je e2;cases y
   exact⟨G,j,c,d,k,e1,λv z s r x=>⟨G,j,c,d,g,k.aB s,r,w,λi B I=>q i z B (I.aB s)⟩⟩)
def bu(c:D->Sl->aw br):LD->Sl->aw br
 |[],e=>.ok (.nx e)
 |d::g,e=>c d e>>=λo=>match o with
  |.nx a|.ct a=>bu c g a
  |.bk a=>.ok (.nx a)
  |.rt h d=>.ok (.rt h d)
def qu(t:TW)(g:TZ):D->Sl->aw br:=λd a=>t d a>>=g
def cw(f:TY)(t:TW)(g:TZ):Sl->aw br:=λa=>f a>>=λc=>bu (qu t g) c a
def zQ(U:vF (bj X) X.A X.V X.xe)(hc:X.bU=af)(hi:DI X tg e fi)(hg:DG X tg t)(hb:h9 X I g)
   (hs:∀x,so e X.V x=pure x:=by intro _;rfl):DS X (.For tg e I [] pos) (cw fi t g):=by
 nomatch (
  PS.imp (vW U hc hi hg hb hs)<|by
   rintro E σ H ⟨G,L,r,o,k,ef,q⟩;obtain⟨h,e1,e2⟩:=je ef;refine⟨G,L,r,h,k,e1,λJ H1 P sm wk p0 sD=>?_⟩;have k1:=k.aB sm;have q1:=Js (bN.refl sm) q;refine⟨λi m j v=>m=ao h-i/\i<=ao h/\∃c,aH X.K G L c j v/\bN r σ H1 c j v/\bu (qu t g) (h.drop i) c=.ok o,⟨ao h,by simp,fH _,r,k1,bN.refl (aA.refl H1),by simpa using e2⟩,?_⟩;rintro i m j v ⟨rfl,hi,c,k',N,Y⟩;obtain⟨w1,w2,w3⟩:=wk i v (sD c j v N)
   by_cases O:i<ao h
   .refine .inr ⟨w1 O,?_⟩;rw[CS O]at Y;obtain⟨o1,e3,e4⟩:=je Y;obtain⟨u,e5,e6⟩:=je e3;refine⟨λd w=>ao h-(i+1)=ao h-(i+1)/\i+1<=ao h/\∃a,aH X.K G L a d w/\bN r σ H1 a d w/\bu (qu t g) (h.drop (i+1)) a=.ok o,λd w z=>⟨ao h-(i+1),by omega,z⟩,λx w y=>?_⟩
    obtain⟨Q,rd⟩:aA v w/\aV X.K (Sf G c j) w x h[i]:=by
     rcases w2 _ (cW O) x w y with⟨rfl,rd⟩|⟨p,vs,es,U,rfl,rfl,ed,rQ⟩
     .exact⟨aA.refl _,N.rep k1 rd⟩
     .refine⟨aA.aQ U,?_⟩;rw[ed];exact .ap jv ((N.Ah k1 rQ).aB (aA.aQ U))
    refine⟨G,L,c,h[i],u,k'.aB Q,rd,e5,λBy CU CV=>⟨G,L,u,o1,CU,e6,?_⟩⟩;have B:=(N.trans (bN.refl Q)).trans CV
    cases o1 with
    |nx a|ct a=>exactλd H3 l n=>⟨rfl,O,a,l,B.trans n,e4⟩
    |bk a=>cases e4;exactλd H3 l n=>q1 d H3 l (B.trans n)
    |rt fr dd=>cases e4;exact q1
   .have he:i=ao h:=by omega
    refine .inl ⟨w3 ak,?_⟩;rw[CW ak]at Y;cases Y
    exact q1 j v k' N)
def wl(n:Nat)(t:T0)(g:TZ):Sl->aw br:=λc=>match n with
 |0=>.am
 |n+1=>t c>>=λb=>if b=af then g c>>=λo=>match o with
   |.nx a|.ct a=>wl n t g a
   |.bk a=>.ok (.nx a)
   |.rt e d=>.ok (.rt e d)
  else .ok (.nx c)
def KC(n)(U:vF (bj X) X.A X.V X.xe)(Y:DT X c t)(hb:h9 X r g):DS X (.While c r [] pos) (wl n t g):=by
 nomatch (
  PS.imp (UU U Y hb)<|by
   rintro E L H ⟨G,u,l,o,k,ef,q⟩;refine⟨λm j y=>∃d,aH X.K G u d j y/\bN l L H d j y/\wl m t g d=.ok o,⟨n,l,k,bN.refl (aA.refl H),ef⟩,?_⟩;rintro m j y ⟨d,B,N,O⟩
   cases m with
   |zero=>cases O
   |succ m=>
    obtain⟨b,e1,e2⟩:=je O;refine⟨G,u,d,b,B,e1,λH1 v=>?_⟩
    cases b with
    |false=>
     cases e2;exact q j H1 (B.aB v) (N.trans (bN.refl v))
    |true=>
     obtain⟨Q,e3,w⟩:=je e2;refine⟨λe I=>∃a,aH X.K G u a e I/\bN l L H a e I/\wl m t g a=.ok o,λe I z=>⟨m,tq m,z⟩,G,u,d,Q,B.aB v,e3,?_⟩;have p:=N.trans (bN.refl v)
     cases Q with
     |nx a|ct a=>exactλe J h i=>⟨a,h,p.trans i,w⟩
     |bk a=>cases w;exactλe J h i=>q e J h (p.trans i)
     |rt fr dd=>cases w;exact q)
end
def bQ(i:Nat)(env:Sl):Sl:=match env[i]? with
 |some (.aG d)=>env.set i (.ai d)
 |_=>env
set_option tactic.hygienic true in
theorem Vz(h:qh (bQ i env) g a):qh env g a:=by
 unfold bQ at h
 split at h
 .rename_i d m;obtain⟨j,e,c,l⟩:=h
  by_cases z:i=j
  .subst z;obtain⟨q,_⟩:=jy c;cases q
  .rw[ju z]at c;exact⟨j,e,c,l⟩
 .exact h
def aH.bQ{y:bK}(i:Nat)(k:aH y G E env r H):aH y G E (bQ i env) r H:=by
 have w:∀a,Sf G env r a->Sf G (M.bQ i env) r a:=λa n=>⟨λo=>n.1 (Vz o),n.2⟩
 cases l:env[i]? with
 |none=>
  have e:M.bQ i env=env:=by delta M.bQ;rw[l]
  rw[e];exact k
 |some s=>
  cases s with
  |un=>
   have e:M.bQ i env=env:=by delta M.bQ;rw[l]
   rw[e];exact k
  |ai d=>
   have e:M.bQ i env=env:=by delta M.bQ;rw[l]
   rw[e];exact k
  |aG d=>
   have e:M.bQ i env=env.set i (.ai d):=by delta M.bQ;rw[l]
   obtain⟨a,h1,I,h2⟩:=k.aG i d l
   have na:HP (M.bQ i env) r a:=by
     rintro⟨j,m,g,p⟩;rw[e]at g
     by_cases z:i=j
     .subst z;obtain⟨q,_⟩:=jy g;cases q
     .rw[ju z]at g;exact z (k.mZ i j d m a l g h1 p)
   rw[e]at w na ⊢;refine⟨by simp[k.len],k.aj,k.g0,λj m h=>?_,λj m h=>?_,λj B J L b g p N O=>?_⟩
   .by_cases z:i=j
    .subst z;obtain⟨q,hl⟩:=jy h;cases q;exact⟨_,h1,h2.rep (λc z=>⟨w c z,X8 k l h1 c z⟩) ⟨na,k.g0 a I⟩⟩
    .rw[ju z]at h;obtain⟨u,v,g2⟩:=k.ai j m h;exact⟨u,v,g2.aS w⟩
   .by_cases z:i=j
    .subst z;obtain⟨q,hl⟩:=jy h;cases q
    .rw[ju z]at h;obtain⟨u,v,g0,g2⟩:=k.aG j m h;exact⟨u,v,g0,g2.bq (λx x e x=>e) w λx e=>e⟩
   .have Q:i≠j:=λz=>by subst z;obtain⟨q,_⟩:=jy g;cases q
    have U:i≠B:=λz=>by subst z;obtain⟨q,_⟩:=jy p;cases q
    rw[ju Q]at g;rw[ju U]at p;exact k.mZ j B J L b g p N O
def ic(i:Nat)(g:TZ):Sl->aw br:=λa=>g (bQ i a)
def Xb(i){st}(h:DS X st g):DS X st (ic i g):=by
 nomatch (PS.imp h<|by
  rintro E j H ⟨G,c,a,o,k,d,q⟩;refine⟨G,c,bQ i a,o,k.bQ i,d,?_⟩
  exact Js (⟨λx x e x=>e,λb o=>.inl (Vz o),λx e=>e⟩) q)
end M
namespace PySem.AutoSeq1
open PySem Builtin
def fT(l)(c)(n)(b)(a)(j)(dd)(m)(o: ¬(!c.isEmpty&&E6 (c.size+a.size))=af)(p:c.size<=ba)(q:c.size+a.size<=ba+1):
  Meets (mF.«list.extend» ⟨[.ref l,.ref b],[]⟩) (λf R s=>s.heap.get? l=ae {cls:=.type "list",dict:=ah,data:=.seq c n,slots:= #[]}/\s.heap.get? b=ae {cls:=.type "tuple",dict:=dd,data:=.seq a j,slots:=m}/\R (.ok (.ret lI)) {s with heap:=s.heap.update l (lM λx=>x++a),toks:=s.toks}):=
 .of_wp λe w A R s h=>by
  obtain⟨u,g,d,tk,os⟩:=s;obtain⟨i,r,h⟩:=h;have v:=idx_int;have y:=sub_tuple_tuple;have z:=sub_list_list;have B:=sub_tuple_list;have E:=sub_list_tuple;
  wp_walk using(CY i aa),Ff i,Ff r;exact⟨_,rfl,h⟩
end PySem.AutoSeq1
namespace M
open PySem PySem.Spec L2
open PyProof.Rows hiding St
def pK:∀{a:LD},D.f9 a=af↔ ∀d∈a,d.lN=af:=
 @(bv (by simp[D.f9]) λd a c=>by simp[D.f9,c])
section
def je5:V->List V->Hp->VK->Prop:=λx d H Q=>∃l b a c,x=.ref l/\d=[.ref b]/\H l=ae (.al a)/\H b=ae (.ap c)/\ao a+ao c<=ba/\Q .bo (aQ H l (.al (a++c)))
def ja9:Bq X "list.extend" je5:=by
 intro p s σ H x vs v us Q I B E h;obtain⟨l,b,xs,zs,rfl,rfl,w,J,hz,q⟩:=h;cases B;obtain⟨u,rfl,L⟩:=E.one;cases L;obtain⟨z,c,n,r,hl,e⟩:=I.iH w;obtain⟨a,y,⟨ob,e2,N,O,U⟩,z2⟩:=I.tuple (.of J);have Y:=y.length;obtain⟨c2,g,dt2,i⟩:=ob;have j:=N;have m:=U;subst j m;have o:c.toArray.size+a.toArray.size<=ba:=by simp_all
 have d: ¬(!c.toArray.isEmpty&&E6 (c.toArray.size+a.toArray.size))=af:=by
  rw[uo o,E7]
  simp_all
 refine yE HG ⟨_,e,rfl⟩ F.entry_list_extend (F.args_list_extend_2 _ _)
  (AutoSeq1.fT l c.toArray n b a.toArray O g i d ak ak) ⟨e,e2,?_⟩
 refine⟨.bo,_,I.oz w e aE (r.append y) ?_,rfl,q⟩
 simp_all
def Zh(h:env[i]?=ae (.aG d)):qh (env.set i (.aG l)) m a↔qh env m a:=by
 have n:=(iZ.mp h).1
 constructor
 .rintro⟨j,e,g,c⟩
  by_cases z:i=j
  .subst z;exact⟨i,d,h,c⟩
  .rw[ju z]at g;exact⟨j,e,g,c⟩
 .rintro⟨j,e,g,c⟩
  by_cases z:i=j
  .subst z;exact⟨i,l,oj n,c⟩
  .exact⟨j,e,by rw[ju z];exact g,c⟩
def aH.ls(k:aH I G Q env d H)(g:env[i]?=ae (.aG J))(u:d[i]?=ae (ae (.ref a)))(U:H a=ae Y)(hm:oh (ae Y))
   (top:∀(L)(E),fQ (Sf G env d) H E->E a=ae o'->(∀b,Sf G env d b->L b)->Top I L E a B):aH I G Q (env.set i (.aG B)) d (aQ H a o')/\bN env d H (env.set i (.aG B)) d (aQ H a o'):=by
 have hl:=(iZ.mp g).1;have N:qh env d a:=⟨i,_,g,u⟩
 have st:fQ (Sf G env d) H (aQ H a o'):=λc o e m=>by
   rw[jz ?_]
   .exact e
   .rintro rfl;rw[U]at e;cases e;exact(m hm).1 N
 have w:∀c,Sf G env d c->Sf G (env.set i (.aG B)) d c:=λc n=>⟨λo=>n.1 ((Zh g).mp o),n.2⟩
 refine⟨⟨by simp[k.len],λc o e=>?_,k.g0,λj l h=>?_,λj l h=>?_,λj O l d2 b q1 q2 q3 q4=>?_⟩,⟨λc o e n=>?_,λc o=>.inl ((Zh g).mp o),λc e=>?_⟩⟩
 .have r:c≠a:=by
    rintro rfl;obtain⟨b,h1,y,_⟩:=k.aG i _ g;rw[u]at h1;cases h1;rw[y]at e;cases e
  rw[jz r];exact k.aj c o e
 .by_cases z:i=j
  .subst z;obtain⟨q,_⟩:=jy h;cases q
  .rw[ju z]at h;obtain⟨v,h1,h2⟩:=k.ai j l h;exact⟨v,h1,h2.bq st w⟩
 .by_cases z:i=j
  .subst z;obtain⟨q,_⟩:=jy h;cases q;obtain⟨b,h1,y,_⟩:=k.aG i _ g;rw[u]at h1;cases h1;exact⟨a,u,y,top _ _ st jv w⟩
  .rw[ju z]at h;obtain⟨b,h1,y,h2⟩:=k.aG j l h
   have hb:b≠a:=by
     rintro rfl;exact z (k.mZ i j _ _ b g h u h1)
   exact⟨b,h1,y,h2.bq st w λo e=>by rw[jz hb];exact e⟩
 .have p:∀(j:Nat)(l:D),(env.set i (.aG B))[j]?=ae (.aG l)->∃J:D,env[j]?=ae (.aG J):=λj l q=>by
    by_cases z:i=j
    .subst z;exact⟨_,g⟩
    .rw[ju z]at q;exact⟨_,q⟩
  obtain⟨e1,z1⟩:=p j l q1;obtain⟨e2,z2⟩:=p O d2 q2;exact k.mZ j O e1 e2 b z1 z2 q3 q4
 .have r:c≠a:=by
    rintro rfl;exact n N
  rw[jz r];exact e
 .by_cases r:c=a
  .subst r;rw[jv]at e;cases e
  .rw[jz r]at e;exact e
def aH.write(k:aH g G h env c H)(j:env[i]?=ae (.aG (.al n)))(l:c[i]?=ae (ae (.ref a)))(m:H a=ae (.al o))
  (r:ay g (Sf G env c) H d ds'):aH g G h (env.set i (.aG (.al ds'))) c (aQ H a (.al d))/\bN env c H (env.set i (.aG (.al ds'))) c (aQ H a (.al d)):=
 k.ls j l m trivial λp q st e w=>.al e (r.bq st w)
def ye{i:Nat}(k:aH g G n env c H)(h:env[i]?=ae (.aG (.al j))):∃a d,c[i]?=ae (ae (.ref a))/\H a=ae (.al d)/\ay g (Sf G env c) H d j:=by
 obtain⟨a,l,o,m⟩:=k.aG i _ h
 cases m with
 |al e r=>exact⟨a,_,l,e,r⟩
noncomputable def eH(i:Nat)(env:Sl):aw (List D):=match env[i]? with
 |some (.aG (.al a))=>.ok a
 |_=>.am
def yf(h:eH i env=.ok a):env[i]?=ae (.aG (.al a)):=by
 delta eH at h
 split at h
 .cases h;assumption
 .cases h
def qL(i:Nat)(f:T3):Sl->aw br:=λa=>eH i a>>=λc=>f a>>=λd=>bh (ao c<ba) (.ok (.nx (a.set i (.aG (.al (c++[d]))))))
def zY(i)(Q:DE X .s e f)(U:X.N[i]?=ae x:=by rfl)(Y:gj X.V.scope x:=by exact dC aa)
   (hd:YG x:=by decide) (u:YF x:=by decide)
   (j:lL (.Name x p) "append" X.V (eval (.Name x p) X.V)=eval (.Name x p) X.V:=by rfl)
   (m:((fh c (bx [e] X.V)).all (λx=>!x.1)&&(mz c (mB [] X.V)).all (λx=>x.1.isSome)
    &&aD ([e].length+([]:List iy).length+(if([]:List iy).isEmpty then 0 else 1)<30))=af:=by exact xS aa aa)
   (l:(h.endLine==c.line)=af:=by rfl) (B:bx [e] X.V=(ag,eval e X.V)::bx [] X.V:=by exact jq aa) (g:(fh c (bx [] X.V)).any (·.1)=ag:=by exact jR aa)
   (w:kw (.Call (.Attribute (.Name x p) "append" h) [e] [] c) ah y.line X.V=pure ag:=by rfl):
   DS X (.Expr (.Call (.Attribute (.Name x p) "append" h) [e] [] c) y) (qL i f):=by
 nomatch (
  PS.imp (Zg (ku CZ PySem.F.slot_list_append PySem.F.type_list_append VM (zC U Y hd u) (qc Q zV B) j m l B g) w)<|by
   rintro E σ H ⟨G,H0,z,o,k,ef,q⟩;obtain⟨ds,e1,e2⟩:=je ef;obtain⟨d,e3,e4⟩:=je e2;obtain⟨hz,e5⟩:=jE e4;cases e5;have I:=yf e1;obtain⟨a,J,L,N,O⟩:=ye k I;refine⟨.ref a,L,.inl ⟨rfl,J,.of N⟩,G,H0,z,d,k,e3,λv H1 r r1 b=>?_⟩;have n:=r _ _ N;refine⟨a,J,v,rfl,rfl,n,by rw[O.length];exact hz,?_⟩;have W:=(k.aB r).write I L n ((O.aB r).append (.cons r1 .nil))
   exact q σ _ W.1 (W.2.aB r))
def we(i:Nat)(f:T3):Sl->aw br:=λa=>eH i a>>=λe=>f a>>=λd=>match d with
 |.al c|.ap c=>bh (ao e+ao c<=ba) (.ok (.nx (a.set i (.aG (.al (e++c))))))
 |_=>.am
def QR(i)(he:DE X .s e f)(hN:X.N[i]?=ae x:=by rfl)(hv:gj X.V.scope x:=by exact dC aa)
   (hd:YG x:=by decide) (z:YF x:=by decide)
   (l:lL (.Name x p) "extend" X.V (eval (.Name x p) X.V)=eval (.Name x p) X.V:=by rfl)
   (u:((fh c (bx [e] X.V)).all (λx=>!x.1)&&(mz c (mB [] X.V)).all (λx=>x.1.isSome)
    &&aD ([e].length+([]:List iy).length+(if([]:List iy).isEmpty then 0 else 1)<30))=af:=by exact xS aa aa)
   (m:(j.endLine==c.line)=af:=by rfl) (hs:bx [e] X.V=(ag,eval e X.V)::bx [] X.V:=by exact jq aa) (g:(fh c (bx [] X.V)).any (·.1)=ag:=by exact jR aa)
   (B:kw (.Call (.Attribute (.Name x p) "extend" j) [e] [] c) ah I.line X.V=pure ag:=by rfl):
   DS X (.Expr (.Call (.Attribute (.Name x p) "extend" j) [e] [] c) I) (we i f):=by
 nomatch (
  PS.imp (Zg (ku CZ HG PySem.F.type_list_extend (pC.or jc0 ja9) (zC hN hv hd z) (qc he zV hs) l u m hs g) B)<|by
   rintro E σ H ⟨G,H0,J,o,k,ef,q⟩;obtain⟨ds,e1,e2⟩:=je ef;obtain⟨d,e3,L⟩:=je e2;have N:=yf e1;obtain⟨a,O,Q,hx,y⟩:=ye k N;refine⟨.ref a,Q,.inl ⟨rfl,O,.of hx⟩,G,H0,J,d,k,e3,λv H1 n r1 s=>?_⟩;have h:=n _ _ hx
   cases d with
   |al es=>
    obtain⟨U,Y⟩:=jE L;cases Y;obtain⟨b,ys,rfl,hb,_,w⟩:=r1.dg;have r:=w.low;refine .inl ⟨a,b,O,ys,rfl,rfl,h,hb,by rw[y.length,w.length];exact U,?_⟩;have W:=(k.aB n).write N Q h ((y.aB n).append r);exact q σ _ W.1 (W.2.aB n)
   |ap es=>
    obtain⟨U,Y⟩:=jE L;cases Y;obtain⟨b,ys,rfl,hb,w⟩:=r1.fK;have r:=w;refine .inr ⟨a,b,O,ys,rfl,rfl,h,hb,by rw[y.length,w.length];exact U,?_⟩;have W:=(k.aB n).write N Q h ((y.aB n).append r);exact q σ _ W.1 (W.2.aB n)
   |_=>exact dD L)
def NS(i:Nat):Sl->aw br:=λa=>eH i a>>=λx=>.ok (.nx (a.set i (.aG (.al []))))
def jgB(i)(v:X.N[i]?=ae x:=by rfl)(w:gj X.V.scope x:=by exact dC aa)
   (y:YG x:=by decide) (h:YF x:=by decide)
   (e:lL (.Name x p) "clear" X.V (eval (.Name x p) X.V)=eval (.Name x p) X.V:=by rfl) (g:(c.endLine==d.line)=af:=by rfl)
   (j:kw (.Call (.Attribute (.Name x p) "clear" c) [] [] d) ah l.line X.V=pure ag:=by rfl):DS X (.Expr (.Call (.Attribute (.Name x p) "clear" c) [] [] d) l) (NS i):=by
 nomatch (
  PS.imp (Zg (Nz CZ PySem.F.slot_list_clear PySem.F.type_list_clear jfJ (zC v w y h) e g) j)<|by
   rintro E z H ⟨G,J,B,o,k,I,q⟩;obtain⟨L,e1,e2⟩:=je I;cases e2;have n:=yf e1;obtain⟨a,r,u,m,N⟩:=ye k n;have W:=k.write n u m .nil
   exact⟨.ref a,u,.inl ⟨rfl,r,.of m⟩,a,r,rfl,rfl,m,q z _ W.1 W.2⟩)
end
def Uy(I:Nat->bT->Prop)
  (z:∀n s,I n s->wpAny (aN a w) A (pyNext Q) (λr e=>match r with
   |none=>R (.ok .next) e
   |some v=>wpAny (aN a w) A (letOwnedTupleGo d Q v) (λb g=>wpAny (aN a w) A (oo d env v) (λb l=>
    wpAny (aN a w) A (forIn J af λc r=>if r=af then do let ok<-isTrue c env (eval c env);pure (Fg ok)else pure (Fg r)) (λok i=>
     if ok=af then wpAny (aN a w) A (eval L env) (λx o=>
      wpAny (aN a w) A (call (.builtin "list.append") [N,x]) (λb p=>∃m,m<n/\I m p) (λb b=>False) o) (λb b=>False) i
     else∃m,m<n/\I m i) (λb b=>False) l) (λb b=>False) g) (λb b=>False) e) (λb b=>False) s)
  (n:Nat) (h:I n s):lZ (aN a w) A (.compLoop (.ListComp L [⟨d,iter,J,0⟩] O U) 0 Q N env) R s:=by
 refine codeAny_loop aa I (λn s Y=>?_) n h;refine wpAny_noted ?_;rw[compTurn_list];refine ax (wpAny_standAt (ax (lU (z n s Y) (λr e q=>?_) λb b j=>j.elim)))
 cases r with
 |none=>exact aP q
 |some v=>
  refine ax (lU q (λb g y=>?_) λb b j=>j.elim);refine ax (lU y (λb l B=>ax (lU B (λok i u=>?_) λb b j=>j.elim)) λb b j=>j.elim)
  cases ok with
  |false=>exact aP ⟨rfl,u⟩
  |true=>
   exact ax (ax (lU u (λx o E=>ax (lU E (λb p H=>aP (aP ⟨rfl,H⟩)) λb b j=>j.elim)) λb b j=>j.elim))
noncomputable def HX(X:Cx)(N:List Str)(a:Scope)(c:List (Str×ar))(C:ar)(s:bT)(H:Hp)(d:List ar):Cx where
 P:=X.P
 w:=X.w
 K:=X.K
 mg:=X.mg
 aj:=X.aj
 A:=X.A
 N:=N
 eB:=s
 lX:=H
 V:=compEnvC a c C X.V
 outer:=X.stack
 stack:=X.stack
 ex:=d
 fn:=λx=>ag
 bU:=af
 pn:=[]
 xe:=λx x=>False
@[irreducible] def Bz (X:Cx) (d:List Expr) (c:T0):Prop:=
 ∀(a:List (ar×Obj))(s:bT)(e:L2.St)(H:Hp)(Q:Bool->Hp->Prop),aK X a e H s->tT X.K c e H Q->
  wpAny (bj X) X.A (forIn d af λc r=>if r=af then do let ok<-isTrue c X.V (eval c X.V);pure (Fg ok)else pure (Fg r)) (TP X a e Q) X.xe s
noncomputable def qm:Sl->aw Bool:=λx=>.ok af
def zt:Bz X [] qm:=by
 nomatch (by
  rintro a s e H Q I ⟨G,g,c,b,k,d,q⟩;cases d
  exact wpAny_tests_nil ⟨H,I,q H (aA.refl H)⟩)
def jjx(h:DT X c g):Bz X [c] g:=by
 nomatch (λa s d H Q I q=>wpAny_tests_one (h a s d H Q I q))
def xT(n:Nat)(t:TW)(c:T0)(h:T3):LD->Sl->aw Sl
 |[],e=>.ok e
 |d::i,e=>t d e>>=λa=>c a>>=λb=>if b=af
  then h a>>=λv=>eH n a>>=λg=>bh (ao g<ba) (xT n t c h i (a.set n (.aG (.al (g++[v])))))
  else xT n t c h i a
noncomputable def oC(a:Bool)(env:Sl)(j:Nat):Slot:=match env[j]? with
 |some (.ai d)=>.ai d
 |some (.aG d)=>if a=af then .ai d else .un
 |_=>.un
def Qa(a:Bool)(m:Nat)(c:List Nat)(env:Sl):Sl:=Cy m .un++c.map (oC a env)++[.aG (.al [])]
def zz(h:Bool)(m:Nat)(g:List Nat)(fi:TY)(t:TW)(c:T0)(i:T3):Sl->aw D:=λa=>
 fi a>>=λj=>xT (m+ao g) t c i j (Qa h m g a)>>=λd=>eH (m+ao g) d>>=λe=>bh (h=af->D.f9 e=af) (.ok (.al e))
noncomputable def yY(m:Nat)(c:List Nat)(d:L2.St)(a:ar):L2.St:=Cy m ah++c.map (λj=>(d[j]?).join)++[ae (.ref a)]
theorem xP{env:Env}:∀{names:List (Str×NameKind)}{x:Str}{k:NameKind},
  (names.map λ(n,k)=>if(k==Aj&&env.scope.kind==.function&&env.kindOf n==ae .cell)then(n,Ak)else(n,k)).lookup x=ae k->∃c,(x,c)∈names/\(k=c\/c=.free)
 |[],_,_,h=>by simp at h
 |(n,c)::r,x,k,h=>by
  have a:nJ x ((if(c==Aj&&env.scope.kind==.function&&env.kindOf n==ae .cell)=af then(n,Ak)else(n,c))::(r.map λ(n,k)=>if(k==Aj&&env.scope.kind==.function&&env.kindOf n==ae .cell)then(n,Ak)else(n,k)))=ae k:=h
  by_cases e:(c==Aj&&env.scope.kind==.function&&env.kindOf n==ae .cell)=af
  .rw[if_pos e]at a;simp only[Al]at a
   cases d:x==n with
   |true=>simp_all
   |false=>
    rw[d]at a;obtain⟨g,i,j⟩:=xP a
    grind
  .rw[if_neg e]at a;simp only[Al]at a
   cases d:x==n with
   |true=>simp_all
   |false=>
    rw[d]at a;obtain⟨g,i,j⟩:=xP a
    grind
noncomputable def tx(z:Option Str)(a:List (Str×ar))(C:ar):List (Str×ar):=match z with
 |none=>a
 |some y=>(y,C+1)::a
noncomputable def HY(z:Option Str)(h:Heap):Heap:=match z with
 |none=>h
 |some _=>h.push {cls:=.type "cell",data:=.cell ah}
abbrev qT(z:Option Str)(X:Cx)(N:List Str)(a:Scope)(c:List (Str×ar))(C:ar)(s:bT)(H:Hp)(d:List ar):Cx:={HX X N a (tx z c C) C s H d with fn:=λx=>ae x==z}
def Am(h:nJ x (tx z a C)=ae c):(z=ae x/\c=C+1)\/(z≠ae x/\a.lookup x=ae c):=by
 cases z with
 |none=>exact .inr ⟨nofun,h⟩
 |some z=>
  have h:nJ x ((z,C+1)::a)=ae c:=h
  cases e:x==z with
  |true=>simp_all
  |false=>grind
def Fh(d:z≠ae x)(h:a.lookup x=ae c):nJ x (tx z a C)=ae c:=by
 cases z with
 |none=>exact h
 |some z=>
  show nJ x ((z,C+1)::a)=ae c
  grind
def ja8{code}
  (made:∀n,cellsFrom (n+1) a.names p=tx z p n) (d:∀h,pushCells h a.names=HY z h)
  (u:∀m,m.Ns s.heap.objs.size (λx=>ah)->(∀b o,s.heap.get? b=ae o->m.get? b=ae o)->(∀y,z=ae y->m.IsCell (s.heap.objs.size+1) ah)->Q (newEnv a s.heap.objs.size globals (tx z p s.heap.objs.size) i j code (ae g) c) {s with heap:=m}):
  wpAny M A (newFunctionEnv a globals p [] i j code (ae g) c) Q E s:=by
 simp only[newFunctionEnv,Option.isSome_some,if_true];refine ax (wpAny_alloc ?_);refine ax (wpAny_layCells _ (λname l q=>by cases r:l==Ak<;>simp[r]) _ _ _ _ ?_);have v:(s.heap.push {cls:=.type "dict",data:=.dict #[]}).objs.size=s.heap.objs.size+1:=by simp_all
 have w:=made s.heap.objs.size;rw[<-v]at w;rw[w,d];refine aP ?_;have B:=Heap.Ns.new s.heap (.type "dict")
 cases z with
 |none=>exact u _ B (λb o e=>cc _ e) nofun
 |some z=>
  refine u ((s.heap.push {cls:=.type "dict",data:=.dict #[]}).push {cls:=.type "cell",data:=.cell ah}) (B.keeps λb o e=>cc _ e) (λb o e=>cc _ (cc _ e)) λx x=>⟨_,by rw[<-v];exact dA _ aa,rfl⟩
structure gv(z:Option Str)(X:Cx)(scope:Scope)(cl:List (Str×ar))(N:List Str)(m:Nat)(js:List Nat):Prop where
 HZ:closureFor scope X.V=pure cl
 kind:scope.kind=.function
 names:∀x∈scope.names,x.2=.local->scope.names.lookup x.1=ae .local
 An:∀y∈scope.names,y.2=.cell->z=ae y.1
 made:∀n,cellsFrom (n+1) scope.names cl=tx z cl n
 Ao:∀h,pushCells h scope.names=HY z h
 zk:∀y,z=ae y->scope.names.lookup y=ae .cell
 cls:∀x c,cl.lookup x=ae c->X.V.cells.lookup x=ae c
 free:∀y∈scope.names,y.2=.free->∃c,cl.lookup y.1=ae c
 nd:N.Nodup
 len:ao N=m+ao js+1
 cap:∀(k j:Nat),js[k]?=ae j->∃y,N[m+k]?=ae y/\X.N[j]?=ae y/\(X.V.scope.names.lookup y=ae .cell\/X.V.scope.names.lookup y=ae .free)/\scope.names.lookup y=ae .free
 last:∀y,N[m+ao js]?=ae y->∀p∈scope.names,p.1≠y
section
variable{c:T0}
def jjI{σ:L2.St}{C:ar}{E:List ar}(S:gv z X a U N m js)(J:X.bU=af)(I:aK X p σ H s)(r:s.heap.objs.size<=C)(B:∀b∈E,eE X p H b)(w:∀b∈E,b<s.heap.objs.size):
  (qT z X N a U C s H E).Ok where
 mod:=I.ok.mod
 kind:=S.kind
 glob:=I.ok.glob
 blt:=I.ok.blt
 above:=r
 inj:=λx y c g d=>by
  have Y:∀u,X.V.cells.lookup u=ae (C+1)->False:=λu e=>by
    obtain⟨v,o,ho,_⟩:=I.cell u _ e;exact absurd (b7 ho) (Nat.not_lt_of_le (cn r (pd _)))
  rcases Am g with⟨ex,L⟩|⟨_,O⟩
  .rcases Am d with⟨Q,_⟩|⟨_,g2⟩
   .rw[ex]at Q;exact i3 Q
   .rw[L]at g2;exact(Y _ (S.cls _ _ g2)).elim
  .rcases Am d with⟨Q,L⟩|⟨_,g2⟩
   .rw[L]at O;exact(Y _ (S.cls _ _ O)).elim
   .exact I.ok.inj x y c (S.cls x c O) (S.cls y c g2)
 has:=λx h=>by
  have mem:z=ae x\/∃j,(x,j)∈a.names/\j=.free:=by
    rcases h with h|h<;>obtain⟨j,g,d⟩:=xP h
    .rcases d with z|z
     .exact .inl (S.An _ g z.symm)
     .exact .inr ⟨j,g,z⟩
    .rcases d with z|z
     .exact .inr ⟨j,g,z.symm⟩
     .exact .inr ⟨j,g,z⟩
  by_cases l:z=ae x
  .subst l;exact⟨C+1,by show nJ x ((x,C+1)::U)=_;simp[Al]⟩
  .obtain⟨j,g,d⟩:=mem.resolve_left l;obtain⟨c,J⟩:=S.free _ g d;exact⟨c,Fh l J⟩
 sj:=λx c h d=>by
  have e:ae x=z:=by simpa using h
  rcases Am d with⟨_,rfl⟩|⟨n,_⟩
  .exact cn r (pd _)
  .exact(n e.symm).elim
 hd:=λf=>I.ok.hd J
 frames:=I.ok.frames
 tf:=.inl aa
 tj:=λb i=>⟨λz=>absurd (dZ (w b i) (by rw[z];exact r)) (rC _),λx c h=>by
  rcases Am h with⟨_,rfl⟩|⟨_,h⟩
  .exactλe=>absurd (w b i) (Nat.not_lt_of_le (by rw[<-e];exact cn r (pd _)))
  .exact(B b i).2.2.2.2.1 x c (S.cls x c h)⟩
 bs:=I.bs
 oi:=cn I.ok.oi I.sz
 j2:=λb o e i=>by
  rcases(B b i).2.2.2.1 with z|z
  .exact I.ok.j2 b o e z
  .exact absurd (dZ (b7 e) (cn I.ok.oi z)) (rC _)
 kb:=λb i z=>by
  rcases cM.mp (I.kv b z)with q|q
  .exact(B b i).2.1 q
  .exact(B b i).2.2.1 q
 fG:=I.stack
 pv:=I.fY
def NT(h:oC a env j=.aG d):False:=by
 delta oC at h
 split at h
 .cases h
 .split at h<;>cases h
 .cases h
def jby(h:qh (Qa u m g env) (yY m g p a) b):b=a:=by
 obtain⟨i,d,h,l⟩:=h
 have q:i=m+ao g:=by
  delta Qa at h
  by_cases o:i<m
  .rw[oD,mC (by simpa using o),Ap]at h
   split at h<;>cases h
  .rw[oD,mG (by simpa using o)]at h;simp at h
   by_cases l:i-m<ao g
   .rw[mC (by simpa using l),hU]at h
    cases e:g[i-m]? with
    |none=>rw[e]at h;cases h
    |some j=>
      rw[e]at h;have r:=i3 h;exact(NT r).elim
   .rw[mG (by simpa using l)]at h;simp at h
    by_cases v:i-m-ao g=0
    .omega
    .rw[Cb cf]at h;cases h
 subst q
 have n:(yY m g p a)[m+ao g]?=ae (ae (.ref a)):=by
  delta yY
  rw[oD,mG aE,mG aE];simp
 rw[n]at l;cases l;rfl
abbrev Gc(a:Bool)(G:Wp)(env:Sl)(d:L2.St):ar->Prop:=λc=>G c/\(a=ag-> ¬qh env d c)
set_option tactic.hygienic true in
theorem jgs(k:aH N G H0 env n H)(O:H a=ah):
   aH N (Gc E G env n) H (Qa E m g env) (yY m g n a) (aQ H a (.al [])):=by
 have l:∀(i:Nat)(d:D),(Qa E m g env)[i]?=ae (.aG d)->i=m+ao g/\d=.al []:=λi d h=>by
   unfold Qa at h
   by_cases q:i<m
   .rw[oD,mC (by simpa using q),Ap]at h
    split at h<;>cases h
   .rw[oD,mG (by simpa using q)]at h;simp at h
    by_cases p:i-m<ao g
    .rw[mC (by simpa using p),hU]at h
     cases e:g[i-m]? with
     |none=>rw[e]at h;cases h
     |some j=>
       rw[e]at h;have u:=i3 h;exact(NT u).elim
    .rw[mG (by simpa using p)]at h;simp at h
     by_cases w:i-m-ao g=0
     .rw[w]at h;cases h;exact⟨by omega,rfl⟩
     .rw[Cb cf]at h;cases h
 have y:(yY m g n a)[m+ao g]?=ae (ae (.ref a)):=by
   unfold yY;rw[oD,mG aE,mG aE];simp
 have B:∀b,qh (Qa E m g env) (yY m g n a) b->b=a:=by
   rintro b ⟨i,d,q,p⟩;obtain⟨rfl,rfl⟩:=l i d q;rw[y]at p;cases p;rfl
 have sm:aA H (aQ H a (.al [])):=aA.aQ O;refine⟨by simp[Qa,yY],sm,λc z=>⟨(k.new c z).2,λx=>(k.new c z).1⟩,λi d h=>?_,λi d h=>?_,λi j d e b q p w J=>(l i d q).1.trans (l j e p).1.symm⟩
 .unfold Qa at h
  by_cases q:i<m
  .rw[oD,mC (by simpa using q),Ap]at h
   split at h<;>cases h
  .rw[oD,mG (by simpa using q)]at h;simp at h
   by_cases p:i-m<ao g
   .rw[mC (by simpa using p),hU]at h
    cases e:g[i-m]? with
    |none=>rw[e]at h;cases h
    |some j=>
      rw[e]at h;have u:=i3 h
      have Q:(yY m g n a)[i]?=ae ((n[j]?).join):=by
        unfold yY;rw[oD,mG (by simpa using q)];simp;rw[mC (by simpa using p),hU,e];rfl
      have I:∀v,n[j]?=ae (ae v)->aV N (Gc E G env n) H v d->∃v,(yY m g n a)[i]?=ae (ae v)/\aV N (Sf (Gc E G env n) (Qa E m g env) (yY m g n a)) (aQ H a (.al [])) v d:=λv e1 r=>by
        refine⟨v,by rw[Q,e1];rfl,(r.dL.aB sm).aS λb z=>⟨λo=>?_,z.1⟩⟩;rw[B b o]at z;exact z.2 O
      unfold oC at u
      split at u
      .rename_i Y L;cases u;obtain⟨v,w,J⟩:=k.ai j d L;exact I v w (J.aS λc z=>⟨z.2,λx=>z.1⟩)
      .rename_i Y L
       split at u
       .rename_i U;cases u;obtain⟨v,w,h0,J⟩:=k.aG j d L;exact I _ w (J.rep (λc z=>⟨⟨z.2,λx=>z.1⟩,X8 k L w c z⟩) ⟨k.g0 _ h0,λz=>by rw[U]at z;cases z⟩)
       .cases u
      .cases u
   .rw[mG (by simpa using p)]at h;simp at h
    by_cases w:i-m-ao g=0
    .rw[w]at h;cases h
    .rw[Cb cf]at h;cases h
 .obtain⟨rfl,rfl⟩:=l i d h;exact⟨a,y,O,.al jv .nil⟩
def Ux(use)(Q')(im)(N)(m)(js)(S:gv z X g cl N m js)(hc:X.bU=af)(hi:PI X tg iter (tI X.K fi))
   (hb:∀(C)(s)(H)(fp),PG (qT z X N g cl C s H fp) tg (tG X.K t)/\Bz (qT z X N g cl C s H fp) ifs c/\PE (qT z X N g cl C s H fp) elt (tE X.K .s fe))
   (hs:∀x,so iter X.V x=pure x) {O:L2.St} (I:aK X pins O H s) (k:aH X.K G H0 env O H) (ef:zz im m js fi t c fe env=.ok d)
   (Ia:∀(a C)(s')(L)(mm)(r),s'.heap.Ns C mm->(∀h',iw C s'.heap h'->aK X pins O L {s' with heap:=h'})->eE X pins L C->aA H L->aV X.K (Sf G env O) L (.ref a) d->bI H (.ref a)->compPost (bj X) X.A X.xe use Q' (.ref a) C (.ok r) s'):
   wpAny (bj X) X.A (comprehension (.ListComp elt [⟨tg,iter,ifs,0⟩] g pos) g X.V (firstIterPos [⟨tg,iter,ifs,0⟩] pos) (newList []) (firstAsync [⟨tg,iter,ifs,0⟩]) (firstIter [⟨tg,iter,ifs,0⟩] X.V) use) Q' X.xe s:=by
 nomatch (by
  obtain⟨ds,e1,ef⟩:=je ef;obtain⟨Aq,e2,ef⟩:=je ef;obtain⟨afL,e3,e4⟩:=je ef;obtain⟨Ib,e4⟩:=jE e4;cases e4;refine wpAny_comprehension_free aa hs S.HZ S.kind S.names ?_;refine bE (hi pins s O H (λJ H1=>∃P,aA H H1/\Fd X.K (Sf G env O) H1 J ds P/\P H1/\∀w E L,bN env O H1 w E L->P L) I ⟨G,H0,env,ds,k,e1,λJ H1 P a b c' d'=>⟨P,a,b,c',d'⟩⟩) λv s1 h1=>bE h1 λX1 s2 h2=>?_
  obtain⟨it,fp,tn,J,Q,rfl,I2,T,Ck,f2,P,sm,wk,p0,sD⟩:=h2;have k2:=k.aB sm;refine nM (ja8 S.made S.Ao (λAr pL pM pN=>?_));dsimp only at pL pM pN ⊢;have Ie:=I2.be.fresh (bz _)
  let a:=s2.heap.objs.size
  have ha:=Ie;have I3:=I2.yD (t':=s2.toks) .nil (fH _)
  let s3:bT:={s2 with heap:=s2.heap.push {cls:=.type "list",dict:=ah,data:=.seq ([]:List aJ).toArray}}
  let C:=s3.heap.objs.size
  have f3:∀b∈fp,eE X pins (aQ Q a (.al [])) b:=λb l=>by
   obtain⟨z0,z⟩:=f2 b l;refine⟨?_,z⟩
   have hb2:b≠a:=by
     obtain⟨o,ho,_⟩:=T.obj 0 _ Ck b l;exact di (b7 ho)
   rw[jz hb2];exact z0
  have Fi:∀b∈fp,b<s3.heap.objs.size:=λb l=>by
   obtain⟨o,ho,_⟩:=T.obj 0 _ Ck b l;refine dZ (b7 ho) ?_;rw[su];exact pd _
  have XO:=jjI S hc I3 (bz _) f3 Fi;obtain⟨DGt,DTc,DEe⟩:=hb C s3 (aQ Q a (.al [])) fp;have old:∀b o,s3.heap.get? b=ae o->Ar.get? b=ae o:=λb o e=>pM b o e
  have I4:aK (qT z X N g cl C s3 (aQ Q a (.al [])) fp) [] (yY m js O a) (aQ Q a (.al [])) {s2 with heap:=Ar,toks:=s2.toks+([]:List (Str×aJ)).length}:=by
   refine⟨XO,rfl,I3.bare,Un.kept old,⟨_,pL,λi y v' h1 h2 h3=>?_⟩,λy c' h=>?_,I3.be.fresh (bz _),λy c' h=>(by
     rcases Am h with⟨_,rfl⟩|⟨_,h⟩
     .exact I3.be.fresh (pd _)
     .exact I3.cO y c' (S.cls y c' h)),λp hp=>absurd hp (by simp[HX]),I3.be.kept old,?_⟩
   . --a C0 name
     have Ig:N[i]?=ae y:=h1;unfold yY at h2
     by_cases q1:i<m
     .rw[oD,mC (by simpa using q1),Ap]at h2
      split at h2<;>cases h2
     .rw[oD,mG (by simpa using q1)]at h2;simp at h2
      by_cases q2:i-m<js.length
      .rw[mC (by simpa using q2),hU]at h2
       cases e:js[i-m]? with
       |none=>rw[e]at h2;cases h2
       |some j=>
         rw[e]at h2;have C1:(O[j]?).join=ae v':=i3 h2
         have hj:O[j]?=ae (ae v'):=by
           cases z:O[j]? with
           |none=>rw[z]at C1;cases C1
           |some w'=>rw[z]at C1;simp at C1;rw[C1]
         obtain⟨y',g1,g2,g3,g4⟩:=S.cap (i-m) j e
         have ey:y'=y:=by
           rw[show m+(i-m)=i by omega,Ig]at g1;exact(i3 g1).symm
         subst ey;obtain⟨mm,hn,hl⟩:=I3.loc
         have vis:gj X.V.scope y':=by
           rcases g3 with z|z
           .exact .inr (.inl z)
           .exact .inr (.inr z)
         obtain⟨u,ru,lk⟩:=hl j y' v' g2 hj vis;refine⟨u,ru,.inr ⟨?_,?_⟩⟩
         .rcases h3 with z|z
          .exfalso;obtain⟨k',m1,m2⟩:=xP z;have Fh:=S.names _ m1;rcases m2 with w'|w'
           .subst w';have:=Fh aa;rw[g4]at this;cases this
           .subst w'
            have:∀{names:List (Str×NameKind)},names.lookup y'=ae .free->(names.map λ(n,k)=>if(k==Aj&&X.V.scope.kind==.function&&X.V.kindOf n==ae .cell)then(n,Ak)else(n,k)).lookup y'≠ae .local:=by
             intro names
             induction names with
             |nil=>intro h;cases h
             |cons p r ih=>
              obtain⟨n,kk⟩:=p;intro h h';have tz:nJ y' ((if(kk==Aj&&X.V.scope.kind==.function&&X.V.kindOf n==ae .cell)=af then(n,Ak)else(n,kk))::(r.map λ(n,k)=>if(k==Aj&&X.V.scope.kind==.function&&X.V.kindOf n==ae .cell)then(n,Ak)else(n,k)))=ae .local:=h';simp only[Al]at h
              cases hx:y'==n with
              |true=>
               rw[hx]at h;cases h
               split at tz<;>simp[Al,hx]at tz
              |false=>
               rw[hx]at h
               split at tz<;>(simp only[Al,hx]at tz;exact ih h tz)
            exact this g4 z
          .exact z
         .rcases lk with⟨kk,_⟩|⟨kk,c',Bg,C3⟩
          .exfalso;have NU:X.V.scope.names.lookup y'=ae .local:=kk;rcases g3 with z|z<;>(rw[z]at NU;cases NU)
          .obtain⟨c2,tD⟩:=S.free (y',.free) (xb g4) aa
           have:c2=c':=by
             have:=S.cls _ _ tD;rw[Bg]at this;exact(i3 this).symm
           subst this;obtain⟨o,ho,hd⟩:=C3;exact⟨c2,Fh (λq=>by rw[S.zk _ q]at g4;cases g4) tD,o,old _ _ ho,hd⟩
      .exfalso
       have C4:i=m+js.length:=by
         have hl:=(iZ.mp Ig).1;rw[S.len]at hl;omega
       subst C4;have no:=S.last y Ig;rcases h3 with z|z|z<;>
       .obtain⟨k',m1,_⟩:=xP z;exact no _ m1 aa
   .rcases Am h with⟨q,rfl⟩|⟨_,h⟩
    .exact⟨ah,pN _ q⟩
    .obtain⟨v',o,ho,hd⟩:=I3.cell y c' (S.cls y c' h);exact⟨v',o,old _ _ ho,hd⟩
   .show(yY m js O a).length=N.length;rw[S.len];simp[yY];omega
  have kC:aH X.K (Gc im G env O) Q (Qa im m js env) (yY m js O a) (aQ Q a (.al [])):=jgs k2 ha
  have fC:∀b∈fp,eE (qT z X N g cl C s3 (aQ Q a (.al [])) fp) [] (aQ Q a (.al [])) b:=λb l=>by
   obtain⟨z0,z1,z2,z3,z4,z5⟩:=f3 b l;exact⟨z0,(XO.tj b l).1,XO.kb b l,.inl l,(XO.tj b l).2,λp hp=>absurd hp (by simp[HX])⟩
  have stC:=T.keep 0 _ _ Ck λb l o e=>old b o (cc _ e)
  have loop:lZ (bj X) X.A (.compLoop (.ListComp elt [⟨tg,iter,ifs,0⟩] g pos) 0 (.ref it) (.ref a) (compEnvC g (tx z cl C) C X.V))
     (compPost (bj X) X.A X.xe use Q' (.ref a) C) {s2 with heap:=Ar,toks:=s2.toks+([]:List (Str×aJ)).length}:=by
   refine Uy (λn s'=>∃i E L w,n=ds.length+1-i/\i<=ds.length/\aK (qT z X N g cl C s3 (aQ Q a (.al [])) fp) [] E L s'/\tn i s'.heap/\(∀b∈fp,L b=ah)/\(∀b,qh w E b->b=a)/\
       aH X.K (Gc im G env O) Q w E L/\bN (Qa im m js env) (yY m js O a) (aQ Q a (.al [])) w E L/\xT (m+js.length) t c fe (ds.drop i) w=.ok Aq) ?_ (ds.length+1)
     ⟨0,_,_,_,rfl,fH _,I4,stC,λb l=>(fC b l).1,?_,kC,bN.refl (aA.refl _),by simpa using e2⟩
   .rintro n s' ⟨i,E,L,w,rfl,C4,Ic,st,fr,C5,kc,fc,ec⟩;have hP:=sD env O L (bN.refl kc.aj);obtain⟨w1,w2,w3⟩:=wk i L hP;have Ih:∀{L:Hp},(∀b∈fp,L b=ah)->∀b∈fp,eE (qT z X N g cl C s3 (aQ Q a (.al [])) fp) [] L b:=λhn b l=>⟨hn b l,(fC b l).2⟩
    by_cases cr:i<ds.length
    .have hd:i<ds.length:=by omega
     rw[CS hd]at ec;obtain⟨Y,e5,ec⟩:=je ec;obtain⟨b,e6,ec⟩:=je ec;refine bE (T.item (qT z X N g cl C s3 (aQ Q a (.al [])) fp) aa aa aa aa i [] s' E L (λf f=>False) Ic (Ih fr) st (w1 cr)) ?_;rintro r s4 ⟨u,hr,h4⟩;subst hr;refine bE h4 ?_;rintro _ s5 ⟨x,H5,I5,r5,y5,Ii,G7⟩
     have NW:∀b,(Sf G env O b/\Q b≠ah)->Sf (Gc im G env O) w E b:=λb z=>⟨λo=>(by
       rw[C5 b o]at z
       exact z.2 ha),z.1.2,λf=>z.1.1⟩
     obtain⟨C6,Ij⟩:aA L H5/\aV X.K (Sf (Gc im G env O) w E) H5 x ds[i]:=by
       rcases w2 _ (cW hd) x H5 y5 with⟨rfl,rd⟩|⟨p,vs,es,hp,rfl,rfl,ed,rQ⟩
       .exact⟨aA.refl _,(rd.dL.aB kc.aj).aS NW⟩
       .refine⟨aA.aQ hp,?_⟩;rw[ed];exact .ap jv (((rQ.dL.aB kc.aj).aS NW).aB (aA.aQ hp))
     have kc5:=kc.aB C6;have I5':=I5.pinned (Ih G7) (T.obj _ _ Ii);refine bE (DGt _ s5 E H5 x u (λBy Hn=>Hn=H5/\aH X.K (Gc im G env O) Q Y By H5/\bN w E H5 Y By H5) I5' r5 ⟨_,Q,w,ds[i],Y,kc5,Ij,e5,λBy k1 f1=>⟨rfl,k1,f1⟩⟩) λf s6 Cn=>?_;obtain⟨vO,H6,I6,z6,k6,NX⟩:=Cn
     subst z6
     have Ik:∀b,qh Y vO b->b=a:=λb o=>by
       rcases NX.more b o with z|z
       .exact C5 b z
       .obtain⟨uu,hu⟩:=k6.there o;rw[z]at hu;cases hu
     refine bE (DTc _ s6 vO H6 (λb' Hn=>b'=b/\aA H6 Hn) I6 ⟨_,Q,Y,b,k6,e6,λHn sn=>⟨rfl,sn⟩⟩) ?_;rintro ok s7 ⟨H7,I7,z7,NY⟩;subst z7;have k7:=k6.aB NY;have NZ:=((fc.trans (bN.refl C6)).trans NX).trans (bN.refl NY)
     have out:∀{s8:bT}{BA:L2.St}{H8:Hp}{oE:Sl},aK (qT z X N g cl C s3 (aQ Q a (.al [])) fp) ([]++Vu fp s5.heap) BA H8 s8->(∀b,qh oE BA b->b=a)->aH X.K (Gc im G env O) Q oE BA H8->
         bN (Qa im m js env) (yY m js O a) (aQ Q a (.al [])) oE BA H8->xT (m+js.length) t c fe (ds.drop (i+1)) oE=.ok Aq->
         ∃mm,mm<ds.length+1-i/\∃i E L w,mm=ds.length+1-i/\i<=ds.length/\aK (qT z X N g cl C s3 (aQ Q a (.al [])) fp) [] E L s8/\tn i s8.heap/\(∀b∈fp,L b=ah)/\(∀b,qh w E b->b=a)/\
           aH X.K (Gc im G env O) Q w E L/\bN (Qa im m js env) (yY m js O a) (aQ Q a (.al [])) w E L/\xT (m+js.length) t c fe (ds.drop i) w=.ok Aq:=by
       intro s8 BA H8 oE I8 ow8 k8 f8 e8;refine⟨ds.length+1-(i+1),by omega,i+1,BA,H8,oE,rfl,cr,I8.f6,T.keep _ _ _ Ii λb l o e=>(I8.pin (b,o) (mU _ (mU _ (JX l e)))).1,λb l=>?_,ow8,k8,f8,e8⟩;obtain⟨o,e,_⟩:=T.obj _ _ Ii b l;exact(I8.pin (b,o) (mU _ (mU _ (JX l e)))).2.1
     cases ok with
     |false=>
       rw[if_neg Af]at ec ⊢;exact out I7 Ik k7 NZ ec
     |true=>
       rw[if_pos aa]at ec ⊢;obtain⟨vd,e7,ec⟩:=je ec;obtain⟨acc,e8,ec⟩:=je ec;obtain⟨hz,ec⟩:=jE ec;refine bE (DEe _ s7 vO H7 (λy Hn=>aA H7 Hn/\aV X.K (Sf (Gc im G env O) Y vO) Hn y vd) I7 ⟨_,Q,Y,vd,k7,e7,λy Hn sn rn f=>⟨sn,rn⟩⟩) ?_;rintro yv s8 ⟨y,H8,I8,ry,N0,Il⟩;have k8:=k7.aB N0;have Fj:=yf e8;obtain⟨a8,N1,N2,N3,N4⟩:=ye k8 Fj;have ea:=Ik a8 ⟨_,_,Fj,N2⟩;subst ea;have W:=k8.write Fj N2 N3 (N4.append (.cons Il .nil))
       refine bE (VM _ s8 vO H8 (.ref a) [y] (.ref a) [yv] (λf Hn=>Hn=aQ H8 a (.al (N1++[y]))) I8 aa (.cons ry .nil)
         ⟨a,N1,y,rfl,rfl,N3,by rw[N4.length];exact hz,rfl⟩) λ_ s9 ⟨_,H9,I9,_,z9⟩=>?_
       subst z9;exact out I9 (λb o=>Ik b ((Zh Fj).mp o)) W.1 ((NZ.trans (bN.refl N0)).trans W.2) ec
    .have he:i=ds.length:=by omega
     rw[CW ak]at ec;cases ec;refine bE (T.done (qT z X N g cl C s3 (aQ Q a (.al [])) fp) aa aa aa aa i [] s' E L (λf f=>False) Ic (Ih fr) st (w3 ak)) ?_;rintro r s4 ⟨hr,I5⟩;subst hr;have Im:=yf e3;obtain⟨aF,xsF,N6,hxF,N7⟩:=ye kc Im;have ea:=C5 aF ⟨_,_,Im,N6⟩;subst ea;obtain⟨mm,hn,_⟩:=I5.loc;refine Ia a C s4 L mm _ hn (λh' BB=>?_) (I3.fZ (bz _) I5.free) (sm.trans kc.aj) (.al hxF (k.new a (aA.free sm ha)) ?_) (qX sm ha)
     rotate_left
     .cases N8:im with
      |true=>exact N7.lN (Ib N8)
      |false=>exact N7.aS λc z=>⟨⟨z.2.2 N8,z.2.1⟩,X8 kc Im N6 c z⟩
     have nC:∀b o,L b=ae o->b≠C:=λb o e z=>by
       have:=I5.free;rw[z]at e;have e':L C=ah:=this;rw[e]at e';cases e'
     have B:=I5.aj;have Io:∀b o,s3.heap.get? b=ae o->b≠C:=λb o e=>di (b7 e)
     have U:Un (eD X.stack) fp (aQ Q a (.al [])) L s3.heap h':=⟨λb o e n l pO=>(BB.2 b (Io b o e)).trans (B.keep b o e n l pO),
       λb o e n l pO=>let ⟨sl,z⟩:=B.slot b o e n l pO;⟨sl,(BB.2 b (Io b o e)).trans z⟩,B.free,
       λb o e pO=>let ⟨o',z⟩:=B.there b o e pO;⟨o',(BB.2 b (Io b o e)).trans z⟩,B.ee,B.eQ,B.fg⟩
     refine aK.lY I3 I5.os U (λb o e=>(I5.be b o e).bq (λc' u Bg qq=>(BB.2 c' ?_).trans qq) (λf z=>z) λf f z=>z) I5.bare (λb l=>?_)
     .rcases Bg with z|z
      .rw[z];exact nC b o e
      .exact nC c' _ z
     .obtain⟨z0,z1,z2,z3,z4,z5⟩:=f3 b l;exact⟨z3,z1,z4,z5⟩
   .exactλb o=>jby o
  exact codeAny_compStart_list loop (T.self _ 0 _ _ _ stC loop))
def zE(u)(N)(m)(j)(S:gv z X e l N m j)(y:X.bU=af)(B:DI X v iter fi)
   (E:∀(C)(s)(H)(g),N.Nodup->DG (qT z X N e l C s H g) v t/\Bz (qT z X N e l C s H g) n c/\DE (qT z X N e l C s H g) .s o J)
   (L:∀x,so iter X.V x=pure x:=by intro _;rfl):
   DE X .t (.ListComp o [⟨v,iter,n,0⟩] e O) (zz u m j fi t c J):=by
 nomatch (by
  rintro h s U H Q I ⟨G,H0,Y,d,k,ef,q⟩
  exact Ux ah (EP X h U Q) u N m j S y B (λC s H g=>E C s H g S.nd) L I k ef λa C s' w mm r hn i Fi sm rep nt=>⟨mm,hn,λh' p=>⟨.ref a,w,i h' p,rfl,q _ w sm rep nt⟩⟩)
def jgA(L:D->Slot)(i)(hW:∀{G}{O H B}{env}{j}{v}{d},aH X.K G O env j H->aA H B->aV X.K (Sf G env j) B v d->bI H v->aH X.K G O (env.set i (L d)) (j.set i (ae v)) B/\bN env j H (env.set i (L d)) (j.set i (ae v)) B)(hN:X.N.Nodup)(im)(N)(m)(Q)(S:gv z X g U N m Q)(hc:X.bU=af)(hi:DI X Y iter fi)
   (hb:∀(C)(s)(H)(l),N.Nodup->DG (qT z X N g U C s H l) Y t/\Bz (qT z X N g U C s H l) n c/\DE (qT z X N g U C s H l) .s u fe)
   (hxi:X.N[i]?=ae x) (hx:Loc X.V.scope x) (hf:Vk X x)
   (C7:kw (.ListComp u [⟨Y,iter,n,0⟩] g pos) (ae (.Name x p)) ps.line X.V=pure af) (hs:∀x,so iter X.V x=pure x):
   DS X (.Assign [.Name x p] (.ListComp u [⟨Y,iter,n,0⟩] g pos) ps) (λenv=>zz im m Q fi t c fe env>>=λd=>.ok (.nx (env.set i (L d)))):=by
 nomatch (by
  rintro w s j H E I ⟨G,O,env,o,k,ef,q⟩;obtain⟨d,e1,e2⟩:=je ef;cases e2;rw[exec_Assign_Name_used _ _ _ _ C7];refine ax (wpAny_standAt (ax ?_));refine ax (bE (Ux (ae (oo (.Name x p) X.V)) (λf J=>SP X w E .next J) im N m Q S hc hi (λC s H l=>hb C s H l S.nd) hs I k e1 λa C J H' mm r hn y Fi sm rep nt=>?_) λf J hq=>aP (aP hq));have I':=y J.heap ⟨rfl,λf f=>rfl⟩;obtain⟨W1,W2⟩:=hW k sm rep nt;obtain⟨f0,f1,f2,f3,f4,f5⟩:=Fi;refine wpAny_assign_Name (Ve I' hN hxi hx (show aR (.ref a) (.ref a) from aa) (λs2 I2 h=>?_) hf);obtain⟨b,h,HM⟩:=h
  have hCb:C≠b:=by
   rcases HM with z|z
   .rw[z];exact f1
   .exactλe=>f4 _ _ z e.symm
  refine⟨mm,hn.sameBut h hCb,λh' C5=>⟨_,H',?_,q _ _ W1 W2⟩⟩
  exact I2.turned (λb o hb e=>(C5.2 b hb).trans e) f0 f1 f3 f4 f5)
def N9(i)(v:X.N.Nodup)(u)(N)(m)(g)(S:gv z X a h N m g)(w:X.bU=af)(y:DI X j iter fi)
  (B:∀(C)(s)(H)(l),N.Nodup->DG (qT z X N a h C s H l) j t/\Bz (qT z X N a h C s H l) d c/\DE (qT z X N a h C s H l) .s e E)
  (n:X.N[i]?=ae x:=by rfl) (I:Loc X.V.scope x:=by exact l6 aa) (J:Vk X x:=by first|exact .inl aa|exact .inr aa|assumption)
  (o:kw (.ListComp e [⟨j,iter,d,0⟩] a q) (ae (.Name x p)) L.line X.V=pure af:=by rfl) (O:∀x,so iter X.V x=pure x:=by intro _;rfl):
  DS X (.Assign [.Name x p] (.ListComp e [⟨j,iter,d,0⟩] a q) L) (jF i (zz u m g fi t c E)):=
 jgA .ai i (λk s r Q=>⟨(k.aB s).m4 r,.set s λb b z b=>by cases z⟩) v u N m g S w y B n I J o O
end
noncomputable def qV(n:Nat)(a:LD):Sl:=a.map .ai++Cy (n-ao a) .un
def Uo(r:ay l B H m c):aH l (λa=>H a=ah\/B a) H (qV N.length c) (start N m) H:=by
 have n:=r.length
 have g:∀(i:Nat)(d:D),(qV N.length c)[i]?≠ae (.aG d):=λi d h=>by
   unfold qV at h
   by_cases q:i<c.length
   .rw[mC (by simpa using q),hU]at h
    cases e:c[i]? with
    |none|some _=>rw[e]at h;cases h
   .rw[mG (by simpa using q),Ap]at h
    split at h<;>cases h
 refine⟨by simp[L2.start,qV,n],aA.refl H,λb z=>.inl z,λi d h=>?_,λi d h=>(g i d h).elim,λi j d e a h=>(g i d h).elim⟩;unfold qV at h
 by_cases q:i<c.length
 .rw[mC (by simpa using q),hU]at h
  cases e:c[i]? with
  |none=>rw[e]at h;cases h
  |some x=>
    rw[e]at h;cases h;obtain⟨v,p,u⟩:=r.get e;refine⟨v,?_,u.aS λa z=>⟨λo=>?_,.inr z⟩⟩
    .unfold L2.start;rw[mC cf,hU,p];rfl
    .obtain⟨w,y,z,_⟩:=o;exact g w y z
 .rw[mG (by simpa using q),Ap]at h
  split at h<;>cases h
section
def Meets(h:Bool)(n:Nat)(g:TZ)(e:LD)(d:D):Prop:=(∃a,g (qV n e)=.ok (.rt a d)/\(h=af->a=af))\/(d=.bo/\∃c,g (qV n e)=.ok (.nx c))
def Ip{st}(J:mE n x j st f L)(S:aC N o (jj st))
    (O:∀(i)(A)(c)(s)(H)(E),aX k (A.deeper (i5 j (jj st) s.heap.objs.size f i))->h9 (cA mD P w n U m N j (jj st) f i A c s H E).rG (zg st) g)
    (Y:∀l d,l.length=o.length->F l=.ok d->Meets fr N.length g l d):
    cZ P w n U m mD (k+1) f L o (nQ n fr o.length F):=by
 nomatch (by
  refine J.ok S (by rintro vs H Q E ⟨B,l,d,p,_⟩;exact p) (λi A c s H vs Q E hr h=>?_);obtain⟨B,l,d,p,r,e,q⟩:=h;refine⟨_,O i A c s H E hr,?_⟩;have y:=Uo (N:=N) r;rcases Y l d (by rw[<-r.length];exact p) e with⟨fr',z,hf⟩|⟨rfl,I,z⟩
  .exact⟨_,H,_,_,y,z,λv u s r nt=>q v u s r λhh=>nt (hf hh)⟩
  .exact⟨_,H,_,_,y,z,λBt u k' f'=>q .bo u k'.aj .bo λb a e=>by cases e⟩)
end
open PySem.W in
theorem jjO{a:List Int}(h:WData.layableAll [WData.list (a.map WData.int)]=af):∀n∈a,As n<=2^20:=λn c=>by
 have d:=layableW_item (layableW_arg h _ g8) (.int n) (dz.mpr ⟨n,c,rfl⟩);have e:=(layableW_iff.mp d).2.2;simpa only[WData.weight,As]using e
open PySem.W PySem.Calls Att in
theorem vA{l:CJ}
  (hn:l.most=ae n) (I:d.params.defaults=[])
  (call:∀(w)(e c)(B J)(m)(o)(L E g)(a)(j)(p),
   Ground q h [] XP w e B J c.heap->YP w c.heap->
   c.heap.get? m=ae o->o.data=.func (docDef d.name d.params d.body d.scope L E g)->c.heap.CodeRec E d.name->B d.name=ae (.ref m)->
   c.heap.get? a=ae {cls:=.type "list",data:=.seq j.toArray}->IntsAre j p->ao p<=n->(∀n∈p,As n<=2^20)->c.gens= #[]->
   lZ (aN l.prog w) callerA (.call (.ref m) ⟨[.ref a],[]⟩) (λr H=>r=.ok (.ret (.bool af))/\OldK c.heap H.heap/\H.os=c.os/\rD H.gens) c):
  WalkO q h XP YP l.row.toRowW d [] (λf j=>PySem.call f j):=by
 intro w e c B J G Y m o L E g dV kV ho hd N U O hg args vals as u v hrd Q hlo;obtain rfl:dV=.none:=Dflts.none U I;obtain rfl:kV=.none:=Dflts.noKw U;obtain⟨a,j,p,rfl,rfl,y,i,z⟩:=jca hn u Q;refine enter_call (tt (call w e c B J m o L E g a j p G Y ho (fd_plain hd) N O y i z (jjO v) hg) λr H hq=>?_);obtain⟨rfl,h2,h3,h4⟩:=hq;exact⟨.inl ⟨.bool af,.bool af,[],rfl,λx=>rfl,.bool af,jct l _,λx=>⟨Iq,λx hm=>(nomatch hm)⟩⟩,h2,h3,h4⟩
def jfp(c:Ac H)(h:df d H a e):pE d H a e:=by
 rcases h with(h|h)|h
 .rcases c a with z|⟨o,g,z⟩
  all_goals simp_all
 .exact .inl h
 .exact .inr h
theorem uE:∀a:List Int,ay c A H (a.map V.int) (a.map D.int)
 |[]=>.nil
 |n::r=>.cons (.int n) (uE r)
def pP{l:CJ}{z:Params->bK}
  (hn:l.most=ae n) (I:n<=ba) (J:d.params.defaults=[]) (hr:aX k callerA)
  (hY:∀(w)(h),YP w h->(z w.params).In h)
  (hF:∀(w)(p)(E)(h),(z w.params).In h->h.Ns ci p->p d.name=ae (.ref E)->
   ∃L,(∀(s)(u),BindsTo s L ⟨[u],[]⟩ [(x,u)])/\
    ∀c,(z w.params).In c->c.Ns ci p->cZ l.prog w (z w.params) p c mD k E L [x] (nQ (z w.params) af 1 F))
  (ht:∀y,ao y<=n->(∀i∈y,As i<=2^20)->F [.dw (y.map D.int)]=.ok (.bl af)):
  PySem.W.WalkO q N XP YP l.row.toRowW d [] (λf U=>PySem.call f U):=by
 refine vA hn J λw eB afM p mb E o pm cd doc a U y G Y ho hd pc O B j g m hg=>?_
 have KX:=hY w _ Y;obtain⟨L,hb,Q⟩:=hF w p E _ KX G.T.g O;refine jfV KX G.T.g G.T.b G.T.builtins G.T.nolimit hg B j (cn g I) hr Q hb (λH hO hS=>?_) λH e s' h=>h
 exact⟨Any,_,_,rfl,.cons (.CO (jfp hO hS) (uE y)) .nil,ht y g m,λv H' b r b=>r.Bs⟩
section
variable{Y:bK}
noncomputable def ie(C:Int->Int->Prop)[∀i j,Decidable (C i j)](g:Int->Int->D):D->D->aw D
 |.int i,.int j=>bh (C i j) (.ok (g i j))
 |_,_=>.am
def Oa[∀i j,Decidable (C i j)]{g}{a b d}(h:ie C g a b=.ok d):∃i j,a=.int i/\b=.int j/\C i j/\d=g i j:=by
 cases a<;>try exact dD h
 cases b<;>try exact dD h
 obtain⟨c,e⟩:=jE h;cases e;exact⟨_,_,rfl,rfl,c,rfl⟩
def pQ[∀i j,Decidable (C i j)]{h}{g}(w:∀i j,C i j->c i j)(r:∀i j,Sc Y (h i j) (g i j)):fR Y (rI c h) (ie C g):=by
 intro x y H a b d Q l m e q;obtain⟨i,j,rfl,rfl,n,rfl⟩:=Oa e;exact⟨i,j,l.eG,m.eG,w i j n,q _ (r i j)⟩
abbrev XQ:Int->Int->Prop:=λx x=>True
instance:∀i j,Decidable (XQ i j):=λx x=>inferInstanceAs (Decidable True)
def Fk(r:∀i j,Sc Y (h i j) (g i j)):fR Y (nI h) (ie XQ g):=by
 intro x y H a b d Q c l e q;obtain⟨i,j,rfl,rfl,m,rfl⟩:=Oa e;exact⟨i,j,c.eG,l.eG,q _ (r i j)⟩
def Ir(h:Sc Y v d):bI H v:=λa e=>absurd e (h.2 a)
noncomputable def a9:D->D->aw D
 |.int i,.int j=>.ok (.int (i+j))
 |.str i,.str j=>bh (i.length+j.length<=ba) (.ok (.str (i++j)))
 |.al a,.al b=>bh (a.length+b.length<=ba) (.ok (.al (a++b)))
 |.ap a,.ap b=>bh (a.isEmpty=ag/\a.length+b.length<=ba) (.ok (.ap (a++b)))
 |_,_=>.am
def jT:c9 X (iG .Add) (λx y H Q=>nI (λi j=>.int (i+j)) x y H Q\/(∃i j,x=.str i/\y=.str j/\i.length+j.length<=ba/\Q (.str (i++j)) H)\/zd x y H Q\/HA X.K x y H Q):=
 wb.or (mV.or (zf.or jit))
def ay.len_app(r:ay Y A H c a)(s:ay Y A H d b)(h:a.length+b.length<=ba):c.length+d.length<=ba:=by rw[r.length,s.length];exact h
def BC{A:Wp}{H:Hp}:∀c,A c->(H c=ah\/A c):=λx z=>.inr z
def j8:Bu Y (λx y H Q=>nI (λi j=>.int (i+j)) x y H Q\/(∃i j,x=.str i/\y=.str j/\i.length+j.length<=ba/\Q (.str (i++j)) H)\/zd x y H Q\/HA Y x y H Q) a9:=by
 intro A x y H a b d Q w B e q;cases a<;>try exact dD e
 all_goals cases b<;>try cases e
 .exact .inl ⟨_,_,w.eG,B.eG,q _ H (aA.refl H) (.int _) (Ir (nP (κ:=Y) _))⟩
 .obtain⟨E,h2⟩:=jE e;cases h2;have g:∀i j:Str,i.length+j.length<=ba->(i++j).length<=ba:=λi j h=>by rw[C8];exact h
  exact .inr (.inl ⟨_,_,w.ln.1,B.ln.1,E,q _ H (aA.refl H) (.str _ (g _ _ E)) (Ir (Fa (κ:=Y) _ (g _ _ E)))⟩)
 .obtain⟨⟨I,J⟩,h5⟩:=jE e;cases h5;obtain⟨l,L,rfl,g,r⟩:=w.fK;obtain⟨N,O,rfl,u,v⟩:=B.fK;refine .inr (.inr (.inr ⟨l,N,L,O,rfl,rfl,.of g,.of u,λz=>?_,r.len_app v J,λz=>?_,λz p n=>q _ _ (aA.aQ n) ?_ (qX (aA.refl H) n)⟩))
  .subst z;cases r;cases I
  .subst z;cases v;rw[rH]at q;refine q _ H (aA.refl H) (.ap g (r.aS BC)) λa e o U m=>?_
   cases e;rw[g]at U;cases U;exact m
  .exact .ap jv (((r.append v).aS BC).aB (aA.aQ n))
 .obtain⟨I,J⟩:=jE e;cases J;obtain⟨l,L,rfl,g,_,r⟩:=w.dg;obtain⟨N,O,rfl,u,_,v⟩:=B.dg;refine .inr (.inr (.inl ⟨l,N,L,O,rfl,rfl,g,u,r.low.len_app v.low I,λp n=>q _ _ (aA.aQ n) ?_ (qX (aA.refl H) n)⟩));exact .al jv (.inl n) (((r.low.append v.low).laid n).aS λc z=>⟨.inr z.1,z.2⟩)
def Ob:fR Y (nI λi j=>.int (i-j)) (ie XQ λi j=>.int (i-j)):=Fk λi j=>nP _
abbrev pR:Int->Int->Prop:=λi j=>As i+As j<=134217728
def y8:c9 X (iG .Mult) (rI pR λi j=>.int (i*j)):=Co λx x x x x x x a q=>mul_int q (IntMulOk.of_le (bz _) (bz _) a)
def QH:fR Y (rI pR λi j=>.int (i*j)) (ie pR λi j=>.int (i*j)):=pQ (λx x h=>h) λi j=>nP _
abbrev C9:Int->Int->Prop:=λx j=>0<j/\j<1073741824
def Ja:fR Y (rI sr λi j=>.int (i/j)) (ie C9 λi j=>.int (i/j)):=pQ (λx x h=>h) λi j=>nP _
abbrev Db:Int->Int->Prop:=λx j=>0<j
def yP:fR Y (rI (λx j=>0<j) λi j=>.int (i%j)) (ie Db λi j=>.int (i%j)):=pQ (λx x h=>h) λi j=>nP _
abbrev Au:Int->Int->Prop:=λi j=>0<=j/\j<=1000000/\i.natAbs<2^64
def ul:fR Y (rI Cq λi j=>.int (i^j.toNat)) (ie Au λi j=>.int (i^j.toNat)):=pQ (λx x h=>h) λi j=>nP _
def Oc:fR Y (nI λi j=>.bl (aD (i<j))) (ie XQ λi j=>.bl (aD (i<j))):=Fk λi j=>iz _
def XB:fR Y (nI λi j=>.bl (aD (i<=j))) (ie XQ λi j=>.bl (aD (i<=j))):=Fk λi j=>iz _
def kL:fR Y (nI λi j=>.bl (aD (j<i))) (ie XQ λi j=>.bl (aD (j<i))):=Fk λi j=>iz _
noncomputable def tF(i j:Str):Bool:=!(Hc j i 0 j.length 1).isEmpty
def inD:D->D->aw D
 |.str i,.str j=>.ok (.bl (tF i j))
 |_,_=>.am
def jk9:fR Y (λx y H Q=>∃i j,x=.str i/\y=.str j/\Q (.bl (!(Hc j i 0 j.length 1).isEmpty)) H) inD:=by
 intro x y H a b d Q c g e q;cases a<;>try exact dD e
 cases b<;>try cases e
 exact⟨_,_,c.ln.1,g.ln.1,q _ (iz _)⟩
noncomputable def D.pS:D->Bool
 |.bo=>af
 |_=>ag
def l8:D->D->aw D
 |a,.bo=>.ok (.bl a.pS)
 |_,_=>.am
def Vo(r:aV Y A H x a):aD (x=V.bo)=a.pS:=by
 have r:=r.f
 cases a with
 |bo|bl _|int _=>cases r;rfl
 |str z=>cases r.1;rfl
 |eX _|obj _ _ _=>obtain⟨_,_,_,_,rfl,_⟩:=r;rfl
 |_=>obtain⟨_,_,rfl,_⟩:=r;rfl
def Iu:fR Y (λx y H Q=>y=.bo/\Q (.bl (aD (x=.bo))) H) l8:=by
 intro x y H a b d Q c g e q;cases b<;>cases e;refine⟨g.pG,?_⟩;rw[Vo c];exact q _ (iz _)
noncomputable def bY:List D->aw D
 |[.al a]|[.dw a]|[.ap a]=>.ok (.int a.length)
 |[.str z]=>.ok (.int z.length)
 |_=>.am
def qo:bG X (.builtin "len") (λc H Q=>(∃p a,c=[.ref p]/\(df X.K H p a\/gO X.K H p a)/\Q (.int a.length) H)\/(∃z,c=[.str z]/\z.length<=ba/\Q (.int z.length) H)):=li.or UF
def xl:CP Y (λj H Q=>(∃p a,j=[.ref p]/\(df Y H p a\/gO Y H p a)/\Q (.int a.length) H)\/(∃z,j=[.str z]/\z.length<=ba/\Q (.int z.length) H)) bY:=by
 intro j H l d Q r e q;rcases l with _|⟨c,l⟩
 .cases e
 cases c<;>try exact dD e
 all_goals cases l<;>cases e
 all_goals obtain⟨v,rfl,i⟩:=r.one
 .obtain⟨rfl,m⟩:=i.ln;exact .inr ⟨_,rfl,m,q _ (nP _)⟩
 .obtain⟨p,a,rfl,g,h⟩:=i.fK;exact .inl ⟨p,a,rfl,.inr (.of g),by rw[h.length];exact q _ (nP _)⟩
 .obtain⟨p,a,rfl,g,_,h⟩:=i.dg;exact .inl ⟨p,a,rfl,.inl (.of g),by rw[h.length];exact q _ (nP _)⟩
 .obtain⟨p,a,rfl,g,h⟩:=i.lm;exact .inl ⟨p,a,rfl,.inl g.nO,by rw[h.length];exact q _ (nP _)⟩
noncomputable def XU:LD->aw D
 |[.al a]|[.ap a]=>(.ok (.ap a))
 |_=>.am
def Od(h:H p=ae (.ap c)):bI H (.ref p):=λa e o q m=>by
 cases e;rw[h]at q;cases q;exact m
def KM:Xo Y (λm H Q=>∃p a,m=[.ref p]/\((df Y H p a/\∀l,H l=ah->Q (.ref l) (aQ H l (.ap a)))\/(gO Y H p a/\Q (.ref p) H))) XU:=by
 intro A m H h d Q r e q;rcases h with _|⟨c,h⟩
 .cases e
 cases c<;>try exact dD e
 all_goals cases h<;>cases e
 all_goals obtain⟨v,rfl,n⟩:=r.one
 .obtain⟨p,a,rfl,g,i⟩:=n.fK;exact⟨p,a,rfl,.inr ⟨.of g,q _ H (aA.refl H) (.ap g (i.aS BC)) (Od g)⟩⟩
 .obtain⟨p,a,rfl,g,_,i⟩:=n.dg;exact⟨p,a,rfl,.inl ⟨.of g,λl j=>q _ _ (aA.aQ j) (.ap jv ((i.low.aS BC).aB (aA.aQ j))) (qX (aA.refl H) j)⟩⟩
noncomputable def kU:LD->aw D
 |[.al a]|[.ap a]=>(.ok (.al a))
 |_=>.am
def KN:Xo Y (λm H Q=>∃p g,m=[.ref p]/\(df Y H p g\/gO Y H p g)/\∀l,H l=ah->Q (.ref l) (aQ H l (.al g))) kU:=by
 intro A m H h d Q r e q;rcases h with _|⟨c,h⟩
 .cases e
 cases c<;>try exact dD e
 all_goals cases h<;>cases e
 all_goals obtain⟨v,rfl,n⟩:=r.one
 .obtain⟨p,g,rfl,i,j⟩:=n.fK;exact⟨p,g,rfl,.inr (.of i),λl a=>q _ _ (aA.aQ a) (.al jv (.inl a) ((j.laid a).aS λc z=>⟨.inr z.1,z.2⟩)) (qX (aA.refl H) a)⟩
 .obtain⟨p,g,rfl,i,_,j⟩:=n.dg;exact⟨p,g,rfl,.inl (.of i),λl a=>q _ _ (aA.aQ a) (.al jv (.inl a) ((j.low.laid a).aS λc z=>⟨.inr z.1,z.2⟩)) (qX (aA.refl H) a)⟩
noncomputable def Dc:D->Option String
 |.bo=>ae "NoneType"
 |.bl _=>ae "bool"
 |.int _=>ae "int"
 |.str _=>ae "str"
 |.ap _=>ae "tuple"
 |.al _=>ae "list"
 |.dw _=>ah
 |.cG _ _|.bw _ _=>ae "dict"
 |.eX _|.gK _ _|.bV _ _|.obj _ _ _=>ah
def jmr(r:aV Y A H v d)(h:Dc d=ae n):gt Y H v (.type n):=by
 have r:=r.f;cases d<;>cases h
 .cases r;exact .bo
 .cases r;exact .bl _
 .cases r;exact .int _
 .cases r.1;exact .str _
 .obtain⟨_,_,rfl,e,_⟩:=r;exact .ap e
 .obtain⟨_,_,rfl,e,_⟩:=r;exact .al e
 .obtain⟨_,_,rfl,e,_⟩:=r;exact .dK e
 .obtain⟨_,_,rfl,e,_⟩:=r;exact .dT e
noncomputable def ig(T n:String):Bool:=n==T||(T== "int" &&n== "bool")
def iK(T:String):Prop:=∀(Y:bK)(n:String),n∈["NoneType", "bool", "int", "str", "tuple", "list", "dict"]->gJ Y (.type n) (.type T)=ae (ig T n)
def jkf(h:Dc d=ae n):n∈["NoneType", "bool", "int", "str", "tuple", "list", "dict"]:=by
 cases d<;>first|(cases h;done)|(cases h;decide)
def WS(h:∀(Y),gJ Y (.type "NoneType") (.type T)=ae (ig T "NoneType")/\gJ Y (.type "bool") (.type T)=ae (ig T "bool")/\gJ Y (.type "int") (.type T)=ae (ig T "int")/\
  gJ Y (.type "str") (.type T)=ae (ig T "str")/\gJ Y (.type "tuple") (.type T)=ae (ig T "tuple")/\gJ Y (.type "list") (.type T)=ae (ig T "list")/\gJ Y (.type "dict") (.type T)=ae (ig T "dict")):iK T:=by
 intro Y n a;obtain⟨c,d,e,g,i,j,l⟩:=h Y;simp at a;rcases a with rfl|rfl|rfl|rfl|rfl|rfl|rfl<;>assumption
def uC:iK "int" :=WS λY=>⟨rfl,rfl,rfl,rfl,rfl,rfl,rfl⟩
def WU:iK "bool" :=WS λY=>⟨rfl,rfl,rfl,rfl,rfl,rfl,rfl⟩
def jga:iK "str" :=WS λY=>⟨rfl,rfl,rfl,rfl,rfl,rfl,rfl⟩
def zn:iK "tuple" :=WS λY=>⟨rfl,rfl,rfl,rfl,rfl,rfl,rfl⟩
def WT:iK "list" :=WS λY=>⟨rfl,rfl,rfl,rfl,rfl,rfl,rfl⟩
def iL(T:String)(d:D):aw D:=match Dc d with
 |some n=>.ok (.bl (ig T n))
 |none=>.am
set_option tactic.hygienic true in
theorem Oe(T)(h:iK T):bG X (.builtin "isinstance") (λc H Q=>∃x d,c=[x,.ty T]/\aV X.K Any H x d/\∃b,iL T d=.ok (.bl b)/\Q (.bl b) H):=by
 rintro g s o H c p Q I r ⟨x,d,i,j,b,e,q⟩;subst i;obtain⟨u,v,rfl,l,m⟩:=Bk r;cases(m)
 obtain⟨n,a,e⟩:∃n,Dc d=ae n/\b=ig T n:=by
  unfold iL at e;cases a:Dc d<;>rw[a]at e<;>cases e;exact⟨_,rfl,rfl⟩
 subst e;refine jdp I l (jmr j a) (h X.K n (jkf a)) λtk=>⟨.bl _,H,I.tok tk,rfl,q⟩
def cY(T:String)(f:T3):Sl->aw D:=λa=>f a>>=iL T
def yV(T)(Ty)(u:iK T)(w:DE X l e f)(y:Gl X "isinstance")(z:X.mg "isinstance" =ah)(g:Gl X Ty)(h:X.mg Ty=ah)(B:lW Ty=ae (.type T))
   (E:Ty≠ "__name__" :=by decide) (I:YG Ty:=by decide) (o:bx [e,.Name Ty c] X.V=(ag,eval e X.V)::bx [.Name Ty c] X.V:=by exact jq aa)
   (i:bx [.Name Ty c] X.V=(ag,eval (.Name Ty c) X.V)::bx [] X.V:=by exact jq aa) (j:(fh m (bx [.Name Ty c] X.V)).any (·.1)=ag:=by exact jR aa):
   DE X l' (.Call (.Name "isinstance" p) [e,.Name Ty c] [] m) (cY T f):=by
 nomatch (
  PE.imp (yd (Oe T u) y z Fl (qc w (qc (Na (v:=.ty T) g h B aa E I) zV i) o) au au o j)<|by
   rintro U H Q ⟨G,J,n,d,k,L,q⟩;obtain⟨a,e1,e2⟩:=je L;refine⟨G,J,n,a,k,e1,λv N s r x=>?_⟩
   have O:∃b,d=.bl b:=by
    delta iL at e2
    grind
   obtain⟨b,rfl⟩:=O
   exact⟨v,a,rfl,r.aS Lv.bA,b,e2,q _ N s (.bl b) (iz (κ:=X.K) b).T⟩)
noncomputable def ZT:LD->Option (List Bool)
 |[]=>ae []
 |.bl b::r=>(ZT r).map (b:: ·)
 |_=>ah
def UJ:∀{a}{bs},ZT a=ae bs->a=bs.map D.bl:=
 @(
  bv (@(λbs h=>by cases h;rfl)) λd r c bs h=>by
  cases d with
  |bl b=>
   simp only[ZT,CH]at h;obtain⟨e,g,rfl⟩:=h;rw[c g];rfl
  |_=>exact rO h)
def Of(bs):ZT (bs.map D.bl)=ae bs:=by
 induction bs with
 |nil=>rfl
 |cons b r a=>simp[ZT,a]
noncomputable def iM:LD->aw D
 |[.al a]=>match ZT a with
  |some bs=>.ok (.bl (bs.all id))
  |none=>.am
 |_=>.am
def XY:∀{bs:List Bool}{a},ay Y A H a (bs.map D.bl)->a=bs.map V.bl:=by
 intro bs
 induction bs with
 |nil=>exactλr=>r.pF
 |cons b bs c=>intro _ r;obtain⟨v,d,rfl,h,t⟩:=r.eM;rw[h.Bs,c t];rfl
theorem Q9:∀{bs:List Bool}{a},aW (bs.map V.bl) a->a=bs.map o7
 |[],_,.nil=>rfl
 |b::bs,_,.cons h t=>by
  rw[Q9 t];have:_=o7 b:=h;rw[this];rfl
def Q0(y:X.bU=af):bG X (.builtin "all") (λj H Q=>∃(p:ar)(bs:List Bool),j=[.ref p]/\df X.K H p (bs.map V.bl)/\Q (.bl (bs.all id)) H):=by
 rintro l s σ H j us Q I r ⟨p,bs,B,E,q⟩;subst B;obtain⟨u,rfl,J⟩:=Jw r;cases J;obtain⟨L,N,pl,hz⟩:=I.list E;have c:=Q9 N;subst c;refine call_all_walk (vH pl.isList ?_)
 have g:p≠s.heap.objs.size:=by
   obtain⟨o,n,e,_⟩:=pl;exact di (b7 e)
 refine⟨s.heap.objs.size,_,_,_,_,_,λi=>(bs[i]?).getD af,rfl,Walks.list (show X.A.in1.handled=ah from I.ok.hd y) s.heap.objs.size p g (bs.map o7).toArray,⟨⟨_,dA _ aa,rfl,rfl⟩,pl.isList.at λo e=>cc _ e⟩,?_,λh' tk O=>?_⟩
 .intro i v s' Q' E' hP h;have a:(bs.map o7)[i]?=ae v:=by simp_all
  rw[hU]at a
  cases e:bs[i]? with
  |none=>simp_all
  |some b=>
   rw[e]at a;cases a;dsimp only at h;rw[e]at h;exact pz h
 .have U:(bs.map o7).toArray.size=ao bs:=by simp
  have e:((gH (bs.map o7).toArray.size).all λi=>(bs[i]?).getD af)=bs.all id:=by
   rw[U,vk,nF,nF]
   constructor
   .intro m b hb;obtain⟨i,w,rfl⟩:=List.mem_iff_getElem.mp hb
    simp_all
   .intro m i w;have d:=iD.mp w;rw[cW d];exact m _ (rB d)
  rw[e];refine⟨.bl _,H,?_,rfl,q⟩
  exact I.kept λb o e=>O b o (by
   intro z
   exact absurd (b7 e) aZ) (cc _ e)
set_option tactic.hygienic true in
theorem Fm:CP Y (λh H Q=>∃(p:ar)(bs:List Bool),h=[.ref p]/\df Y H p (bs.map V.bl)/\Q (.bl (bs.all id)) H) iM:=by
 intro h H a d Q r e q;rcases a with _|⟨c,a⟩
 .cases e
 cases c<;>try cases e
 cases a<;>try cases e
 .delta iM at e
  dsimp only at e
  split at e
  .rename_i bs g;cases e;obtain⟨v,rfl,j⟩:=r.one;obtain⟨p,m,rfl,l,_,i⟩:=j.dg;rw[UJ g]at i;have:=XY i;subst this;exact⟨p,bs,rfl,.of l,q _ (iz _)⟩
  .cases e
end
open PySem.SeqAt (EqAt RcAt RcNeAt)
mutual
theorem D.ind{P:D->Prop}(h0:P .bo)(h1:∀b,P (.bl b))(h2:∀i,P (.int i))(h3:∀x,P (.str x))(h4:∀ds,(∀d∈ds,P d)->P (.ap ds))(h5:∀ds,(∀d∈ds,P d)->P (.al ds))
  (h6:∀ds,(∀d∈ds,P d)->P (.dw ds)) (h7:(∀ks ds,(∀d∈ds,P d)->P (.cG ks ds))/\(∀ks ds,(∀d∈ds,P d)->P (.bw ks ds))/\(∀c,P (.eX c))/\(∀ks ds,(∀d∈ds,P d)->P (.gK ks ds))/\(∀ks ds,(∀d∈ds,P d)->P (.bV ks ds))/\∀c ns ds,(∀d∈ds,P d)->P (.obj c ns ds)):∀d,P d
 |.bo=>h0
 |.bl b=>h1 b
 |.int i=>h2 i
 |.str x=>h3 x
 |.ap ds=>h4 ds (D.lu h0 h1 h2 h3 h4 h5 h6 h7 ds)
 |.al ds=>h5 ds (D.lu h0 h1 h2 h3 h4 h5 h6 h7 ds)
 |.dw ds=>h6 ds (D.lu h0 h1 h2 h3 h4 h5 h6 h7 ds)
 |.cG ks ds=>h7.1 ks ds (D.lu h0 h1 h2 h3 h4 h5 h6 h7 ds)
 |.bw ks ds=>h7.2.1 ks ds (D.lu h0 h1 h2 h3 h4 h5 h6 h7 ds)
 |.eX c=>h7.2.2.1 c
 |.gK ks ds=>h7.2.2.2.1 ks ds (D.lu h0 h1 h2 h3 h4 h5 h6 h7 ds)
 |.bV ks ds=>h7.2.2.2.2.1 ks ds (D.lu h0 h1 h2 h3 h4 h5 h6 h7 ds)
 |.obj c ns ds=>h7.2.2.2.2.2 c ns ds (D.lu h0 h1 h2 h3 h4 h5 h6 h7 ds)
theorem D.lu{P:D->Prop}(g:P .bo)(h1:∀b,P (.bl b))(h2:∀i,P (.int i))(j:∀x,P (.str x))(l:∀a,(∀d∈a,P d)->P (.ap a))(m:∀a,(∀d∈a,P d)->P (.al a))
  (n:∀a,(∀d∈a,P d)->P (.dw a)) (o:(∀e a,(∀d∈a,P d)->P (.cG e a))/\(∀e a,(∀d∈a,P d)->P (.bw e a))/\(∀c,P (.eX c))/\(∀e a,(∀d∈a,P d)->P (.gK e a))/\(∀e a,(∀d∈a,P d)->P (.bV e a))/\∀c ns a,(∀d∈a,P d)->P (.obj c ns a)):∀a:List D,∀d∈a,P d
 |[],_,h=>by cases h
 |x::r,d,h=>by
  have p:=D.ind g h1 h2 j l m n o x;have q:=D.lu g h1 h2 j l m n o r;rcases cM.mp h with z|z
  .rw[z];exact p
  .exact q d z
end
mutual
def D.dj:D->Nat
 |.ap a|.al a=>D.de a+1
 |_=>0
def D.de:LD->Nat
 |[]=>0
 |d::a=>max (D.dj d) (D.de a)
end
mutual
def D.dS:D->Bool
 |.dw _|.cG _ _|.bw _ _|.eX _|.gK _ _|.bV _ _|.obj _ _ _=>ag
 |.ap a|.al a=>D.cT a
 |_=>af
def D.cT:LD->Bool
 |[]=>af
 |d::a=>D.dS d&&D.cT a
end
mutual
def eZ:D->D->Bool
 |.bo,.bo=>af
 |.bl a,.bl b=>a==b
 |.bl a,.int j=>(if a then 1 else 0)==j
 |.int i,.bl b=>i==(if b then 1 else 0)
 |.int i,.int j=>i==j
 |.str x,.str y=>x==y
 |.ap a,.ap b|.al a,.al b=>dO a b
 |_,_=>ag
def dO:LD->LD->Bool
 |[],[]=>af
 |a::c,b::bs=>eZ a b&&dO c bs
 |_,_=>ag
end
def jm8:(∀i,D.dS (.int i)=af)/\(∀x,D.dS (.str x)=af)/\(∀a,D.dS (.ap a)=D.cT a)/\(∀a,D.dS (.al a)=D.cT a):=by and_intros<;>intros<;>rfl
def vm:(∀i d,eZ (.int i) (.int d)=(i==d))/\(∀i e,eZ (.int i) (.str e)=ag)/\(∀i a,eZ (.int i) (.ap a)=ag)/\(∀x d,eZ (.str x) (.int d)=ag)/\(∀x e,eZ (.str x) (.str e)=(x==e))/\(∀x a,eZ (.str x) (.ap a)=ag)/\(∀c d,eZ (.ap c) (.int d)=ag)/\(∀c e,eZ (.ap c) (.str e)=ag)/\(∀c a,eZ (.ap c) (.ap a)=dO c a)/\(∀c a,eZ (.al c) (.al a)=dO c a):=by and_intros<;>intros<;>rfl
theorem J2:∀{a}{d},d∈a->D.dj d<=D.de a
 |x::r,d,h=>by
  simp only[D.de];rcases cM.mp h with rfl|h
  .omega
  .have:=J2 h;omega
theorem Z3:∀{c}{d},D.cT c=af->d∈c->D.dS d=af
 |x::r,d,a,h=>by
  simp only[D.cT,fD]at a;rcases cM.mp h with rfl|h
  .exact a.1
  .exact Z3 a.2 h
def ZK:∀{a},(∀d∈a,D.dS d=af->eZ d d=af)->D.cT a=af->dO a a=af:=
 @(
  bv (λy y=>by simp[dO]) λd a e h c=>by
  simp only[D.cT,fD]at c;simp only[dO,fD]
  exact⟨h d g8 c.1,e (λx g=>h x (g9 _ g)) c.2⟩)
def Kw(d):D.dS d=af->eZ d d=af:=by
 refine D.ind (P:=λd=>D.dS d=af->eZ d d=af) ?_ ?_ ?_ ?_ ?_ ?_ ?_ ?_ d
 .intro _;rfl
 .intro b _;exact beq_self_eq_true b
 .intro i _;exact beq_self_eq_true i
 .intro x _;exact beq_self_eq_true x
 .intro g e a;exact ZK e a
 .intro g e a;exact ZK e a
 .intro g e a;cases a
 .exact⟨(by intro h g e a;cases a),(by intro h g e a;cases a),(by intro c a;cases a),(by intro h g e a;cases a),(by intro h g e a;cases a),(by intro c j g e a;cases a)⟩
section
variable{Y:bK}
def ay.m7(h:∀d∈e,∀(A m) v i,D.dS d=af->D.dS i=af->aV Y A H v d->aV Y m H v i->d=i)(j:D.cT e=af)(a:D.cT c=af)(r:ay Y A H l e)(g:ay Y m H l c):e=c:=by
 induction l generalizing e c with
 |nil=>cases r.fJ;cases g.fJ;rfl
 |cons v l n=>
  obtain⟨_,_,rfl,r,t⟩:=r.cv;obtain⟨_,_,rfl,g,o⟩:=g.cv;simp only[D.cT,fD]at j a;rw[h _ g8 _ _ _ _ j.1 a.1 r g,n (λd hd=>h d (g9 _ hd)) j.2 a.2 t o]
def Yo(h:ll Y A H v d/\D.dS d=af):(v=.bo/\d=.bo)\/(∃b,v=.bl b/\d=.bl b)\/(∃b,v=.int b/\d=.int b)\/(∃b,v=.str b/\d=.str b)\/(∃a g i,v=.ref a/\d=.ap i/\H a=ae (.ap g)/\ay Y A H g i)\/(∃a g i,v=.ref a/\d=.al i/\H a=ae (.al g)/\ay Y (λc=>A c/\c≠a) H g i):=by
 obtain⟨r,h⟩:=h
 cases d with
 |bo=>exact .inl ⟨r,rfl⟩
 |bl b=>exact .inr (.inl ⟨_,r,rfl⟩)
 |int b=>exact .inr (.inr (.inl ⟨_,r,rfl⟩))
 |str b=>exact .inr (.inr (.inr (.inl ⟨_,r.1,rfl⟩)))
 |ap i=>
  obtain⟨a,g,r,e,j⟩:=r;exact .inr (.inr (.inr (.inr (.inl ⟨_,_,_,r,rfl,e,j⟩))))
 |al i=>
  obtain⟨a,g,r,e,_,j⟩:=r;exact .inr (.inr (.inr (.inr (.inr ⟨_,_,_,r,rfl,e,j⟩))))
 |_=>exact CN h
def jjs(h:ll Y A H .bo d/\D.dS d=af): .bo=d:=by
 rcases Yo h with⟨_,e⟩|⟨_,z,_⟩|⟨_,z,_⟩|⟨_,z,_⟩|⟨_,_,_,z,_⟩|⟨_,_,_,z,_⟩
 all_goals simp_all
def jlT(h:ll Y A H (.bl b) d/\D.dS d=af): .bl b=d:=by
 rcases Yo h with⟨z,_⟩|⟨_,z,e⟩|⟨_,z,_⟩|⟨_,z,_⟩|⟨_,_,_,z,_⟩|⟨_,_,_,z,_⟩<;>cases z;exact e.symm
def jju(h:ll Y A H (.int b) d/\D.dS d=af): .int b=d:=by
 rcases Yo h with⟨z,_⟩|⟨_,z,_⟩|⟨_,z,e⟩|⟨_,z,_⟩|⟨_,_,_,z,_⟩|⟨_,_,_,z,_⟩<;>cases z;exact e.symm
def jjr(h:ll Y A H (.str b) d/\D.dS d=af): .str b=d:=by
 rcases Yo h with⟨z,_⟩|⟨_,z,_⟩|⟨_,z,_⟩|⟨_,z,e⟩|⟨_,_,_,z,_⟩|⟨_,_,_,z,_⟩<;>cases z;exact e.symm
def jjq(h:ll Y A H (.ref a) d/\D.dS d=af)(g:H a=ae (.ap i)):∃c,d=.ap c/\ay Y A H i c:=by
 rcases Yo h with⟨z,_⟩|⟨_,z,_⟩|⟨_,z,_⟩|⟨_,z,_⟩|⟨_,_,_,z,e,q,r⟩|⟨_,_,_,z,e,q,r⟩<;>cases z<;>rw[g]at q<;>cases q;exact⟨_,e,r⟩
def jjt(h:ll Y A H (.ref a) d/\D.dS d=af)(i:H a=ae (.al j)):∃g,d=.al g/\ay Y (λc=>A c/\c≠a) H j g:=by
 rcases Yo h with⟨z,_⟩|⟨_,z,_⟩|⟨_,z,_⟩|⟨_,z,_⟩|⟨_,_,_,z,e,q,r⟩|⟨_,_,_,z,e,q,r⟩<;>cases z<;>rw[i]at q<;>cases q;exact⟨_,e,r⟩
def aV.inj(d):∀(A j) v g,D.dS d=af->D.dS g=af->aV Y A H v d->aV Y j H v g->d=g:=by
 have u:∀{v A g B},aV Y A H v g->D.dS g=af->v=B->ll Y A H B g/\D.dS g=af:=λr h e=>⟨e▸r.f,h⟩
 refine D.ind (P:=λd=>∀(A j:Wp) v g,D.dS d=af->D.dS g=af->aV Y A H v d->aV Y j H v g->d=g) ?_ ?_ ?_ ?_ ?_ ?_ ?_ ?_ d
 .intro A j v g _ h r l;exact jjs (u l h r.f)
 .intro b A j v g _ h r l;exact jlT (u l h r.f)
 .intro b A j v g _ h r l;exact jju (u l h r.f)
 .intro b A j v g _ h r l;exact jjr (u l h r.f.1)
 .intro n o A j v g i m r l;obtain⟨a,E,rfl,w,y⟩:=r.fK;have p:D.cT n=af:=i;obtain⟨I,rfl,q⟩:=jjq (u l m aa) w;rw[ay.m7 o p m y q]
 .intro n o A j v g i m r l;obtain⟨a,E,rfl,w,_,y⟩:=r.dg;have p:D.cT n=af:=i;obtain⟨I,rfl,q⟩:=jjt (u l m aa) w;rw[ay.m7 o p m y q]
 .intro n o A j v g i;cases i
 .exact⟨(by intro z n o A j v g i;cases i),(by intro z n o A j v g i;cases i),(by intro c A j v g i;cases i),(by intro z n o A j v g i;cases i),(by intro z n o A j v g i;cases i),(by intro c ns n o A j v g i;cases i)⟩
end
def De(a b:LD)(j:Nat):Bool:=match a[j]?,b[j]? with
 |some x,ae y=>eZ x y
 |_,_=>af
theorem J1:∀(a b:LD),ao a=ao b->dO a b=(gH (ao a)).all (De a b)
 |[],[],_=>by simp[dO]
 |x::a,y::b,h=>by
  have c:ao a=ao b:=by simpa using h
  rw[gG,List.range_succ_eq_map,tw,Fn];simp only[dO];rw[J1 a b c];congr 1
theorem QP:∀(a b:LD),ao a≠ao b->dO a b=ag
 |[],[],h=>absurd aa h
 |[],_::_,_|x::_,[],_=>by simp[dO]
 |x::a,y::b,h=>by
  simp only[dO];rw[QP a b (by simpa using h),E7]
def uU(a b):dO a b=((gH (min (ao a) (ao b))).all (De a b)&&ao a==ao b):=by
 by_cases h:ao a=ao b
 .rw[J1 a b h,h];simp
 .rw[QP a b h];simp[h]
section
variable{X:Cx}{U:List (ar×Obj)}{Q:L2.St}{H:Hp}{s:bT}
inductive Cm(X:Cx)(H:Hp)(s:bT):aJ->D->Prop where
 |bo:Cm X H s .none .bo
 |bl (b:Bool):Cm X H s (.bool b) (.bl b)
 |int (i:Int) (t:Tok):Cm X H s (.int i t) (.int i)
 |str (x:Str) (t:Tok):Cm X H s (.str x t) (.str x)
 |ap {a:ar} {xs:List V} {tH:List aJ} {ds:LD}:H a=ae (.ap xs)->s.heap.IsTuple a tH.toArray->aW xs tH->ay X.K Any H xs ds->Cm X H s (.ref a) (.ap ds)
 |al {a:ar} {xs:List V} {tH:List aJ} {ds:LD}:H a=ae (.al xs)->s.heap.IsList a tH.toArray->aW xs tH->ay X.K Any H xs ds->Cm X H s (.ref a) (.al ds)
def QX(I:aK X U Q H s)(r:aV X.K Any H v d)(a:aR v u)(j:D.dS d=af):Cm X H s u d:=by
 have r:=r.f
 cases d with
 |bo=>cases r;cases a;exact .bo
 |bl b=>cases r;cases a;exact .bl b
 |int i=>cases r;obtain⟨t,rfl⟩:=a;exact .int i t
 |str x=>cases r.1;obtain⟨t,rfl⟩:=a;exact .str x t
 |ap l=>
  obtain⟨_,_,rfl,e,c⟩:=r;cases a;obtain⟨g,h,p,m⟩:=I.tuple (.of e);exact .ap e p h c
 |al l=>
  obtain⟨_,_,rfl,e,_,c⟩:=r;cases a;obtain⟨g,h,p,m⟩:=I.list (.of e);exact .al e p.isList h c.low
 |_=>exact CN j
def Fp{A:hJ}(o:ay X.K Any H r a)(p:ay X.K Any H w b)(q:aW r g)(vb:aW w c)
  (y:∀d∈a,∀(v i)(u h)(m),aV X.K Any H v d->aR v u->aV X.K Any H i m->aR i h->D.dS d=af->D.dS m=af->EqAt A.in1 s u h (eZ d m)) (z:D.cT a=af) (B:D.cT b=af):
  ∀j (E) (I:j<c.toArray.size),EqAt A.in1 s g.toArray[j] c.toArray[j] (De a b j):=by
 intro j E I;have l1:=q.length;have l2:=vb.length;have l3:=o.length;have l4:=p.length;have l:j<a.length:=by simp_all
 have n:j<b.length:=by simp_all
 obtain⟨v,e1,J⟩:=o.get (cW l);obtain⟨i,e2,L⟩:=p.get (cW n);obtain⟨u,e3,N⟩:=q.get e1;obtain⟨h,e4,O⟩:=vb.get e2;have Y:g.toArray[j]=u:=by grind
 have g2:c.toArray[j]=h:=by grind
 rw[Y,g2];have e:De a b j=eZ a[j] b[j]:=by delta De;rw[cW l,cW n]
 rw[e];exact y _ (rB l) v i u h _ J N L O (Z3 z (rB l)) (Z3 B (rB n))
set_option tactic.hygienic true in
theorem Kx(I:aK X U Q H s)(d):∀(A)(v m)(u n)(l),A.units+d.dj<cLine->aV X.K Any H v d->aR v u->aV X.K Any H m l->aR m n->D.dS d=af->D.dS l=af->EqAt A s u n (eZ d l):=by
 refine D.ind (P:=λd=>∀(A:hJ) (v m) (u n) l,A.units+d.dj<cLine->aV X.K Any H v d->aR v u->aV X.K Any H m l->aR m n->D.dS d=af->D.dS l=af->EqAt A s u n (eZ d l)) ?_ ?_ ?_ ?_ ?_ ?_ ?_ ?_ d
 .intro A v m u n l o r y B g h j;cases QX I r y h;have a:A.units<cLine:=by simp only[D.dj]at o;omega
  cases QX I B g j
  .exact EqAt.same _
  .exact EqAt.none_bool _
  .exact EqAt.none_int _ _
  .exact EqAt.none_str _ _
  .exact EqAt.none_tuple bg a
  .exact EqAt.none_list bg a
 .intro b A v m u n l o r y B g h j;cases QX I r y h;have a:A.units<cLine:=by simp only[D.dj]at o;omega
  cases QX I B g j
  .exact EqAt.bool_none _
  .exact EqAt.bool_bool _ _
  .exact EqAt.bool_int _ _ _
  .exact EqAt.bool_str _ _ _
  .exact EqAt.bool_tuple _ bg a
  .exact EqAt.bool_list _ bg a
 .intro i A v m u n l o r y B g h j;cases QX I r y h;have a:A.units<cLine:=by simp only[D.dj]at o;omega
  cases QX I B g j
  .exact EqAt.int_none _ _
  .exact EqAt.int_bool _ _ _
  .exact EqAt.int_int _ _ _ _
  .exact EqAt.int_str _ _ _ _
  .exact EqAt.int_tuple _ _ bg a
  .exact EqAt.int_list _ _ bg a
 .intro x A v m u n l o r y B g h j;cases QX I r y h;have a:A.units<cLine:=by simp only[D.dj]at o;omega
  cases QX I B g j
  .exact EqAt.str_none _ _
  .exact EqAt.str_bool _ _ _
  .exact EqAt.str_int _ _ _ _
  .exact EqAt.str_str _ _ _ _
  .exact EqAt.str_tuple _ _ bg a
  .exact EqAt.str_list _ _ bg a
 .intro L Y A v m u n l o r y B g h j;have a:A.units<cLine:=by simp only[D.dj]at o;omega
  have c1:=QX I r y h;have c2:=QX I B g j
  cases c1 with
  |ap e p rv rs=>
    cases c2 with
    |bo=>exact EqAt.tuple_none p a
    |bl b=>exact EqAt.tuple_bool _ p a
    |int i t=>exact EqAt.tuple_int _ _ p a
    |str x t=>exact EqAt.tuple_str _ _ p a
    |al e2 p2 E w=>exact EqAt.tuple_list p p2 a
    | @ap a2 Iv N J e2 p2 E w=>
     rename_i a1 Iw O
     by_cases z:a1=a2
     .subst z;have ed:=aV.inj _ Any Any _ _ h j (aV.ap e rs) (aV.ap e2 w);rw[<-ed,Kw _ h];exact EqAt.same _
     .have q:=RcAt.tuples p p2 a (Fp rs w rv E (λd hd v m u n l g1 g2 g3 g4 g5 g6=>Y d hd A.in1 v m u n l (by
        have:=J2 hd;simp only[D.dj]at o;show A.units+1+d.dj<cLine
        omega) g1 g2 g3 g4 g5 g6) h j)
      have n1:O.toArray.size=L.length:=by rw[eW,<-rv.length,rs.length]
      have n2:N.toArray.size=J.length:=by rw[eW,<-E.length,w.length]
      rw[n1,n2,<-uU]at q;exact EL z q
 .intro L Y A v m u n l o r y B g h j;have a:A.units<cLine:=by simp only[D.dj]at o;omega
  have c1:=QX I r y h;have c2:=QX I B g j
  cases c1 with
  |al e p rv rs=>
    cases c2 with
    |bo=>exact EqAt.list_none p a
    |bl b=>exact EqAt.list_bool _ p a
    |int i t=>exact EqAt.list_int _ _ p a
    |str x t=>exact EqAt.list_str _ _ p a
    |ap e2 p2 E w=>exact EqAt.list_tuple p p2 a
    | @al a2 Iv N J e2 p2 E w=>
     rename_i a1 Iw O;have n1:O.toArray.size=L.length:=by rw[eW,<-rv.length,rs.length]
     have n2:N.toArray.size=J.length:=by rw[eW,<-E.length,w.length]
     by_cases z:a1=a2
     .subst z
      have ed:D.al L=D.al J:=by
        rw[e]at e2;cases e2;rw[ay.m7 (λd f A A' v l=>aV.inj d A A' v l) h j rs w]
      rw[<-ed,Kw _ h];exact EqAt.same _
     .simp only[vm]
      by_cases hl:L.length=J.length
      .have q:=RcAt.lists p p2 (by rw[n1,n2];exact hl) a (Fp rs w rv E (λd hd v m u n l g1 g2 g3 g4 g5 g6=>Y d hd A.in1 v m u n l (by
        have:=J2 hd;simp only[D.dj]at o;show A.units+1+d.dj<cLine
        omega) g1 g2 g3 g4 g5 g6) h j)
       rw[n1,<-J1 L J hl]at q;exact EL z q
      .rw[QP L J hl];exact EL z (Ix p p2 (by rw[n1,n2];simp[hl]) a)
 .intro L Y A v m u n l o r y B g h;cases h
 .exact⟨(by intro ks L Y A v m u n l o r y B g h;cases h),(by intro ks L Y A v m u n l o r y B g h;cases h),(by intro c A v m u n l o r y B g h;cases h),(by intro ks L Y A v m u n l o r y B g h;cases h),(by intro ks L Y A v m u n l o r y B g h;cases h),(by intro c ns L Y A v m u n l o r y B g h;cases h)⟩
def vU(I:aK X U Q H s)(hu:A.units+d.dj<cLine)(r:aV X.K Any H v d)(ru:aR v u)(r':aV X.K Any H L n)(ru':aR L y)(hb:D.dS d=af)(o:D.dS n=af):
  RcAt A s u y (eZ d n)/\RcNeAt A s u y (!eZ d n):=by
 have a:A.units<cLine:=by omega
 have c1:=QX I r ru hb;have z:=QX I r' ru' o
 cases c1 with
 |bo=>
  cases z
  .exact⟨RcAt.none_none,RcNeAt.none_none⟩
  .exact⟨RcAt.none_bool _,RcNeAt.none_bool _⟩
  .exact⟨RcAt.none_int _ _,RcNeAt.none_int _ _⟩
  .exact⟨RcAt.none_str _ _,RcNeAt.none_str _ _⟩
  .exact⟨RcAt.none_tuple bg a,RcNeAt.none_tuple bg a⟩
  .exact⟨RcAt.none_list bg a,RcNeAt.none_list bg a⟩
 |bl b=>
  cases z
  .exact⟨RcAt.bool_none _,RcNeAt.bool_none _⟩
  .exact⟨RcAt.bool_bool _ _,RcNeAt.bool_bool _ _⟩
  .exact⟨RcAt.bool_int _ _ _,RcNeAt.bool_int _ _ _⟩
  .exact⟨RcAt.bool_str _ _ _,RcNeAt.bool_str _ _ _⟩
  .exact⟨RcAt.bool_tuple _ bg a,RcNeAt.bool_tuple _ bg a⟩
  .exact⟨RcAt.bool_list _ bg a,RcNeAt.bool_list _ bg a⟩
 |int i t=>
  cases z
  .exact⟨RcAt.int_none _ _,RcNeAt.int_none _ _⟩
  .exact⟨RcAt.int_bool _ _ _,RcNeAt.int_bool _ _ _⟩
  .exact⟨RcAt.int_int _ _ _ _,RcNeAt.int_int _ _ _ _⟩
  .exact⟨RcAt.int_str _ _ _ _,RcNeAt.int_str _ _ _ _⟩
  .exact⟨RcAt.int_tuple _ _ bg a,RcNeAt.int_tuple _ _ bg a⟩
  .exact⟨RcAt.int_list _ _ bg a,RcNeAt.int_list _ _ bg a⟩
 |str x t=>
  cases z
  .exact⟨RcAt.str_none _ _,RcNeAt.str_none _ _⟩
  .exact⟨RcAt.str_bool _ _ _,RcNeAt.str_bool _ _ _⟩
  .exact⟨RcAt.str_int _ _ _ _,RcNeAt.str_int _ _ _ _⟩
  .exact⟨RcAt.str_str _ _ _ _,RcNeAt.str_str _ _ _ _⟩
  .exact⟨RcAt.str_tuple _ _ bg a,RcNeAt.str_tuple _ _ bg a⟩
  .exact⟨RcAt.str_list _ _ bg a,RcNeAt.str_list _ _ bg a⟩
 | @ap a1 Iw l B e p N O=>
  cases z with
  |bo=>exact⟨RcAt.tuple_none p a,RcNeAt.tuple_none p a⟩
  |bl b=>exact⟨RcAt.tuple_bool _ p a,RcNeAt.tuple_bool _ p a⟩
  |int i t=>exact⟨RcAt.tuple_int _ _ p a,RcNeAt.tuple_int _ _ p a⟩
  |str x t=>exact⟨RcAt.tuple_str _ _ p a,RcNeAt.tuple_str _ _ p a⟩
  |al e2 h c g=>exact⟨RcAt.tuple_list p h a,RcNeAt.tuple_list p h a⟩
  | @ap a2 Iv m j e2 h c g=>
    have w:l.toArray.size=B.length:=by rw[eW,<-N.length,O.length]
    have E:m.toArray.size=j.length:=by rw[eW,<-c.length,g.length]
    have el:=Fp O g N c (λd hd v L u y n g1 g2 g3 g4 g5 g6=>Kx I d A.in1 v L u y n (by
      have:=J2 hd;simp only[D.dj]at hu;show A.units+1+d.dj<cLine
      omega) g1 g2 g3 g4 g5 g6) hb o
    have q:=RcAt.tuples p h a el;have Y:=RcNeAt.tuples p h a el;rw[w,E,<-uU]at q Y;exact⟨q,Y⟩
 | @al a1 Iw l B e p N O=>
  cases z with
  |bo=>exact⟨RcAt.list_none p a,RcNeAt.list_none p a⟩
  |bl b=>exact⟨RcAt.list_bool _ p a,RcNeAt.list_bool _ p a⟩
  |int i t=>exact⟨RcAt.list_int _ _ p a,RcNeAt.list_int _ _ p a⟩
  |str x t=>exact⟨RcAt.list_str _ _ p a,RcNeAt.list_str _ _ p a⟩
  |ap e2 h c g=>exact⟨RcAt.list_tuple p h a,RcNeAt.list_tuple p h a⟩
  | @al a2 Iv m j e2 h c g=>
    have w:l.toArray.size=B.length:=by rw[eW,<-N.length,O.length]
    have E:m.toArray.size=j.length:=by rw[eW,<-c.length,g.length]
    simp only[vm]
    by_cases J:B.length=j.length
    .have el:=Fp O g N c (λd hd v L u y n g1 g2 g3 g4 g5 g6=>Kx I d A.in1 v L u y n (by
      have:=J2 hd;simp only[D.dj]at hu;show A.units+1+d.dj<cLine
      omega) g1 g2 g3 g4 g5 g6) hb o
     have q:=RcAt.lists p h (by rw[w,E];exact J) a el;have Y:=RcNeAt.lists p h (by rw[w,E];exact J) a el;rw[w,<-J1 B j J]at q Y;exact⟨q,Y⟩
    .rw[QP B j J];exact⟨Ix p h (by rw[w,E];simp[J]) a,RcNeAt.lists_lengths p h (by rw[w,E];simp[J]) a⟩
end
section
def Vd:D->D->Bool
 |.al a,.al b=>ao a !=ao b
 |_,_=>ag
def Vb(h:Vd a b=af):eZ a b=ag:=by
 delta Vd at h
 split at h
 .exact QP _ _ (by simpa using h)
 .cases h
def Df(a b:D):Prop:=(D.dS a=af/\D.dS b=af/\a.dj<=190)\/Vd a b=af
instance(a b:D):Decidable (Df a b):=inferInstanceAs (Decidable (_\/_))
def sE(c:bK)(neg:Bool):R2:=λx y H Q=>∃a b,aV c Any H x a/\aV c Any H y b/\Df a b/\Q (.bl (if neg then !eZ a b else eZ a b)) H
def Vc{y:L2.St}(I:aK X n y H s)(o:A.units<cLine)(r:aV X.K Any H v d)(z:aR v u)(B:aV X.K Any H E J)(g:aR E q)(h:Vd d J=af):
   RcAt A s u q ag/\RcNeAt A s u q af:=by
 delta Vd at h
 split at h
 .obtain⟨a,U,rfl,L,_,N⟩:=r.dg;obtain⟨Y,O,rfl,i,_,j⟩:=B.dg;cases z;cases g;obtain⟨l,Q,p,_⟩:=I.list (.of L);obtain⟨c,m,w,_⟩:=I.list (.of i)
  have e:(l.toArray.size !=c.toArray.size)=af:=by
   rw[eW,eW,<-Q.length,<-m.length,N.length,j.length];exact h
  exact⟨Ix p.isList w.isList e o,RcNeAt.lists_lengths p.isList w.isList e o⟩
 .cases h
def zW(m:X.A.units+200<cLine):c9 X (gp .Eq) (sE X.K ag):=by
 rintro c s n H x y v u Q I d e ⟨a,b,g,h,hc,q⟩;rcases hc with⟨i,j,o⟩|hc
 .exact(vU I ak g d h e i j).1 X.P X.w X.xe _ ⟨.bl _,H,I,rfl,q⟩
 .have l:Q (.bl ag) H:=by have:=Vb hc;simpa[this]using q
  exact(Vc I ak g d h e hc).1 X.P X.w X.xe _ ⟨.bl _,H,I,rfl,l⟩
def ZC(m:X.A.units+200<cLine):c9 X (gp .NotEq) (sE X.K af):=by
 rintro c s n H x y v u Q I d e ⟨a,b,g,h,hc,q⟩;rcases hc with⟨i,j,o⟩|hc
 .exact(vU I ak g d h e i j).2 X.P X.w X.xe _ ⟨.bl _,H,I,rfl,q⟩
 .have l:Q (.bl af) H:=by have:=Vb hc;simpa[this]using q
  exact(Vc I ak g d h e hc).2 X.P X.w X.xe _ ⟨.bl _,H,I,rfl,l⟩
def da(a b:D):aw D:=bh (Df a b) (.ok (.bl (eZ a b)))
def iA(a b:D):aw D:=bh (Df a b) (.ok (.bl (!eZ a b)))
def yu:fR c (sE c ag) da:=λx y H a b d Q g h e q=>by
 obtain⟨i,e2⟩:=jE e;cases e2;exact⟨a,b,g,h,i,q _ (iz _)⟩
def VH:fR c (sE c af) iA:=λx y H a b d Q g h e q=>by
 obtain⟨i,e2⟩:=jE e;cases e2;exact⟨a,b,g,h,i,q _ (iz _)⟩
def aX.cb(r:aX k A):A.units+200<cLine:=by have:=r.un;omega
end
end M
namespace M
open PySem PySem.Spec L2
open PyProof.Rows hiding St
section
variable{X:Cx}
def Ko{lo}(c:IsTup s.heap t a)(j:s.heap.IsSliceOf m n o .none)(pl:IsPart n lo)(p:IsPart o e)
  (hw:HT.ck a.size 0 lo=0/\HT.ck a.size a.size e=a.size) (h:Q (.ref t) s):wpAny (aN l w) A (rL (.ref t) (.ref m)) Q E s:=by
 obtain⟨os,g,i,q⟩:=id j
 delta rL
 try with_reducible refine gk ?_
 first|refine ax (aP ?_)|skip
 refine ax (wpAny_sequenceKey c.typeIs au ?_)
 refine ax (tu c.typeIs xh
  (nK xh c.typeIs entry_tuple_getitem ?_ (args_tuple_getitem _ _)))
 show wpAny _ _ (Nu (.ref t)>>=_) _ _ s;refine ax (tupleItemsOf_ c ?_);refine ax (xi (⟨os,g,i⟩) ?_);refine ax (HT.ei j pl p ?_);have d:(((HT.ck a.size 0 lo):Int)==0&&(1:Int)==1&&(HT.ck a.size a.size e-HT.ck a.size 0 lo)==a.size)=af:=by simp_all
 show wpAny _ _ (if(((HT.ck a.size 0 lo):Int)==0&&(1)==1&&(HT.ck a.size a.size e-HT.ck a.size 0 lo)==a.size)=af then _ else _) _ _ s;rw[if_pos d];refine ax (ax (xi c.typeIs (aP ?_)))
 first
  |exact ax (oF (ax (aP (aP ⟨_,rfl,aP h⟩))))
  |exact ax (oF (aP ⟨_,rfl,aP h⟩))
  |exact ax (oF (ax (aP ⟨_,rfl,aP h⟩)))
def Dg(d:bK):V->Option Int->Option Int->Hp->VK->Prop:=λx lo e H Q=>∃a c,x=.ref a/\gO d H a c/\(HT.ck (ao c) 0 lo=0/\HT.ck (ao c) (ao c) e=ao c)/\Q (.ref a) H
def pT:sw X (Dg X.K):=by
 rintro e s o H x v p u lo w y Q I h i pl j ⟨a,l,m,n,hw,q⟩;subst m;cases h;obtain⟨d,r,g,z⟩:=I.tuple n;have c:d.toArray.size=ao l:=by rw[eW];exact r.length.symm
 exact⟨"tuple",_,xh.lookup,g.typeIs,Ko g i pl j (by rw[c];exact hw) ⟨.ref a,H,I,rfl,q⟩⟩
noncomputable def eR(z:Str)(lo a:Option Int):Str:=
 if((rR lo a 1 z.length).length==z.length)=af then z else⟨((rR lo a 1 z.length).filterMap (z.cps[·]?)).toArray⟩
def Og(z)(lo a):(eR z lo a).length<=z.length:=by
 delta eR
 split
 .exact bz _
 .show((rR lo a 1 z.length).filterMap (z.cps[·]?)).toArray.size<=z.length;rw[eW];exact cn (List.length_filterMap_le _ _) (PyProof.Rows.indices_len_le lo a z.length)
def Dh:V->Option Int->Option Int->Hp->VK->Prop:=λx lo a H Q=>∃z,x=.str z/\z.length<=ba/\Q (.str (eR z lo a)) H
def Oh(h:IsPart v o):∃p,v=partValue p/\p.map (·.1)=o:=by
 cases h with
 |none=>exact⟨ah,rfl,rfl⟩
 |int i t=>exact⟨ae (i,t),rfl,rfl⟩
def jku:sw X Dh:=by
 rintro d s r H x v w y lo a B Q I h i pl j ⟨z,m,n,q⟩;subst m;obtain⟨t,rfl⟩:=h;obtain⟨l,rfl,el⟩:=Oh pl;obtain⟨u,rfl,o⟩:=Oh j;refine⟨"str",_,F.slot_str_getitem.lookup,typeIs_str s z t,wpAny_getItem_str_slice (st:=ah) i aa ?_⟩;have p:slicePicked z l u ah=rR lo a 1 z.length:=by delta slicePicked;rw[el,o];rfl
 delta sliceMade
 rw[p]
 by_cases c:((rR lo a 1 z.length).length==z.length)=af
 .have e:eR z lo a=z:=by delta eR;rw[if_pos c]
  rw[e]at q;rw[if_pos (by simpa using c)];exact⟨.str z,H,I,⟨t,rfl⟩,q⟩
 .have e:eR z lo a=⟨((rR lo a 1 z.length).filterMap (z.cps[·]?)).toArray⟩:=by delta eR;rw[if_neg c]
  have g:=Og z lo a;rw[e]at q g;rw[if_neg (by simpa using c)];exact⟨cn g n,.str _,H,I.tok _,⟨_,rfl⟩,q⟩
def mH:D->Option Int->Option Int->aw D
 |.ap c,lo,a=>(.ok (.ap (cutD c lo a)))
 |.al c,lo,a=>(.ok (.al (cutD c lo a)))
 |.str z,lo,a=>.ok (.str (eR z lo a))
 |_,_,_=>.am
def jen{lo}(c:HT.ck (ao a) 0 lo=0)(d:HT.ck (ao a) (ao a) e=ao a):cutD a lo e=a:=by
 delta cutD;rw[c,d];simp
def jhV{lo}(n:aV X.K A H x a)(l:mH a lo h=.ok d)(q:∀v o,aA H o->aV X.K (λc=>H c=ah\/A c) o v d->bI H v->Q v o):
  CA X.K x lo h H Q\/Dg X.K x lo h H Q\/CG X.K x lo h H Q\/Dh x lo h H Q:=by
 cases a with
 |ap u=>
  cases l;obtain⟨b,e,rfl,i,j⟩:=n.fK;have m:=j.length
  by_cases hw:HT.ck e.length 0 lo=0/\HT.ck e.length e.length h=e.length
  .refine .inr (.inl ⟨b,e,rfl,.of i,hw,?_⟩);rw[m]at hw;rw[jen hw.1 hw.2]at q;exact q _ H (aA.refl H) (.ap i (j.aS BC)) (Od i)
  .exact .inl ⟨b,e,rfl,.of i,hw,λp g=>q _ _ (aA.aQ g) (.ap jv (((vx j).aS BC).aB (aA.aQ g))) (qX (aA.refl H) g)⟩
 |al u=>
  cases l;obtain⟨b,e,rfl,i,_,j⟩:=n.dg;exact .inr (.inr (.inl ⟨b,e,rfl,.of i,λp g=>q _ _ (aA.aQ g) (.al jv (.inl g) (((vx j.low).laid g).aS λc z=>⟨.inr z.1,z.2⟩)) (qX (aA.refl H) g)⟩))
 |str z=>
  cases l;obtain⟨rfl,r⟩:=n.ln;have m:=cn (Og z lo h) r;exact .inr (.inr (.inr ⟨z,rfl,r,q _ H (aA.refl H) (.str _ m) (Ir (Fa (κ:=X.K) _ m))⟩))
 |_=>exact dD l
def yj{lo}(p:DE X .s e f)(r:DO X lo u)(w:DO X y B):
   DE X .t (.Subscript e (.Slice lo y ah p2) E) (zO f u B mH):=by
 nomatch (
  PE.imp (uf (xz.or (pT.or (nN.or jku))) p r w)<|by
   rintro σ H Q ⟨G,i,g,d,k,h,q⟩;obtain⟨a,e1,h⟩:=je h;obtain⟨j,e2,h⟩:=je h;obtain⟨l,I,J⟩:=je h;refine⟨G,i,g,a,k,e1,λx H1 m L b=>⟨G,i,g,j,k.aB m,e2,λH2 n=>⟨G,i,g,l,(k.aB m).aB n,I,λH3 o=>?_⟩⟩⟩;have sm:=m.trans (n.trans o)
   exact jhV ((L.aB n).aB o) J λv N O U Y=>q v N (sm.trans O) (U.aS λc z=>z.elim (λz=>k.new c (aA.free sm z)) λz=>z) (Y.aB sm))
noncomputable def cD:Sl->aw D:=λx=>.ok (.cG [] [])
def Oi:DE X .t (.Dict [] [] c) cD:=by
 nomatch (PE.imp jfi<|by
  rintro h H Q ⟨G,i,e,d,k,g,q⟩;cases g
  exactλp a=>q _ _ (aA.aQ a) (.cG jv (k.new p a) aa aa .nil) (qX (aA.refl H) a))
noncomputable def Iy:D->aw D
 |.int i=>.ok (.int (-i))
 |_=>.am
def Aw(f:T3):Sl->aw D:=λa=>f a>>=Iy
def jl0(h:DE X l e f):DE X l' (.UnaryOp .USub e g) (Aw f):=by
 nomatch (PE.imp (jmK jke h)<|by
  rintro o H Q ⟨G,j,c,d,k,m,q⟩;obtain⟨a,e1,e2⟩:=je m;refine⟨G,j,c,a,k,e1,λv n s r x=>?_⟩
  cases a with
  |int i=>cases e2;exact⟨i,r.eG,q _ n s (.int _) (nP (κ:=X.K) _).T⟩
  |_=>exact dD e2)
end
abbrev Di:D->D->aw D:=ie XQ λi j=>.int (i-j)
abbrev gy:D->D->aw D:=ie pR λi j=>.int (i*j)
abbrev ek:D->D->aw D:=ie C9 λi j=>.int (i/j)
abbrev bB:D->D->aw D:=ie Db λi j=>.int (i%j)
abbrev eI:D->D->aw D:=ie Au λi j=>.int (i^j.toNat)
abbrev ltI:D->D->aw D:=ie XQ λi j=>.bl (aD (i<j))
abbrev nc:D->D->aw D:=ie XQ λi j=>.bl (aD (i<=j))
abbrev lv:D->D->aw D:=ie XQ λi j=>.bl (aD (j<i))
structure Av(P:fW)(w:World)(κ:bK)(mg:YE)(aj:Heap)(k:Nat)(x:Str)(ps:List Str)(fr:Bool)(F:LD->aw D):Prop where
 ex:∃f fd,cZ P w κ mg aj mD k f fd ps (nQ κ fr (ao ps) F)/\mg x=ae (.ref f)/\lc κ (.ref f)=af/\Binds κ fd ps []
def Av.mono(h:Av P w c mg aj j x d e F)(g:j<=k):Av P w c mg aj k x d e F:=
 let ⟨f,i,a,b⟩:=h.ex
 ⟨f,i,a.mono g,b⟩
section
def Av.call(A:Av X.P X.w X.K X.mg X.aj k x i r F)(hr:aX k X.A)(j:DA X .s (e::a) g)(l:ao i=n:=by rfl)(hg:Gl X x:=by rfl)(c:YG x:=by decide)
  (m:Wn X e a:=by exact jq aa) (d:Vl X h a:=by exact jR aa):DE X .s (.Call (.Name x p) (e::a) [] h) (jl n F g):=by
 subst l;obtain⟨f,u,h1,h2,o,q⟩:=A.ex;exact jjD h1 hr hg h2 o q CM j c m d
def Av.aI(A:Av X.P X.w X.K X.mg X.aj k x i af F)(hr:aX k X.A)(j:DA X .s (e::a) g)(l:ao i=n:=by rfl)(hg:Gl X x:=by rfl)(c:YG x:=by decide)
  (m:Wn X e a:=by exact jq aa) (d:Vl X h a:=by exact jR aa):DE X .t (.Call (.Name x p) (e::a) [] h) (jl n F g):=by
 subst l;obtain⟨f,r,h1,h2,o,q⟩:=A.ex;exact jgK h1 hr hg h2 o q CM j c m d
def Av.pU(A:Av X.P X.w X.K X.mg X.aj k x i r F)(hr:aX k X.A)(j:DA X .b (e::a) g)(l:ao i=n:=by rfl)(hg:Gl X x:=by rfl)(c:YG x:=by decide)
  (m:Wn X e a:=by exact jq aa) (d:Vl X h a:=by exact jR aa):DE X .b (.Call (.Name x p) (e::a) [] h) (jl n F g):=by
 subst l;obtain⟨f,u,h1,h2,o,q⟩:=A.ex;exact jgL h1 hr hg h2 o q CM j c m d
end
noncomputable def bp(c:Bool)(n:Nat)(g:TZ)(e:LD):aw D:=match g (qV n e)with
 |.ok (.rt a d)=>if c=af/\a=ag then .am else .ok d
 |.ok (.nx _)=>.ok .bo
 |_=>.am
set_option tactic.hygienic true in
theorem Zf(h:bp i n g j=.ok d):Meets i n g j d:=by
 unfold bp at h
 split at h
 .rename_i a o e
  split at h
  .cases h
  .rename_i l;cases h;refine .inl ⟨a,e,λm=>?_⟩
   cases a with
   |true=>rfl
   |false=>exact absurd ⟨m,rfl⟩ l
 .rename_i c e;cases h;exact .inr ⟨rfl,c,e⟩
 .cases h
section
def jnf{st}(m)(n:mE i x x st f o)(j:p x=ae (.ref f))(S:aC N q (jj st))(l:Binds i o q [])
  (r:∀(c)(A)(a)(s)(H)(E),aX k (A.deeper (i5 x (jj st) s.heap.objs.size f c))->h9 (cA mD P w i p e N x (jj st) f c A a s H E).rG (zg st) g):
  Av P w i p e (k+1) x q m (bp m (ao N) g):=
 ⟨f,o,Ip n S r λu d y h=>Zf h,j,n.kp,l⟩
def jjR{st}(l)(m:mE h x x st f i)(a:n x=ae (.ref f))(c:Binds h i o []):Av P w h n j k x o l (λy=>.am):=
 ⟨f,i,⟨by rintro p H Q E ⟨B,q,d,r,_⟩;exact r,by rintro A g s H args u p Q E _ _ _ _ ⟨B,q,d,_,_,e,_⟩;cases e⟩,a,m.kp,c⟩
end
def jbt{st}(j)(m:mE i x x st f n)(S:aC N l (jj st))
 (o:∀(c)(A)(a)(s)(H)(E),aX k (A.deeper (i5 x (jj st) s.heap.objs.size f c))->h9 (cA mD P w i p e N x (jj st) f c A a s H E).rG (zg st) g):
 cZ P w i p e mD (k+1) f n l (nQ i j l.length (bp j (ao N) g)):=Ip m S o λq d y h=>Zf h
def jl1(i)(N:DE X l2 b O)(U:X.N[i]?=ae x:=by rfl)(Y:gj X.V.scope x:=by exact dC aa)
   (hd:YG x:=by decide) (m:YF x:=by decide) (hs:K1 b:=by intro _ _;rfl):DE X .s (.Subscript (.Name x p) b pos) (aq (gm i) O bc):=by
 nomatch (
  PE.imp (HB Nx (zC U Y hd m) N hs)<|by
   rintro σ H Q ⟨G,E,g,d,k,n,q⟩;obtain⟨o,e1,n⟩:=je n;obtain⟨c,e2,a⟩:=je n;rcases kg e1 with z|z
   .obtain⟨v,l,I⟩:=k.ai i o z;exact⟨v,l,G,E,g,c,k,e2,λy u h w f=>NP (I.aB h) (w.aS Lv.bA) a λv r3=>q v u h r3 trivial⟩
   .obtain⟨v,l,h0,I⟩:=k.aG i o z;refine⟨_,l,G,E,g,c,k,e2,λy u h w f=>?_⟩;have h3:=(k.aB h).aG i o z;obtain⟨v2,J,_,g2⟩:=h3;rw[l]at J;cases J
    cases g2 with
    |al e r=>
     cases c with
     |int j=>
      cases(w.aS Lv.bA).eG
      delta bc HV at a;dsimp only at a
      cases B:h8 _ j with
      |none=>rw[B]at a;cases a
      |some d'=>
       rw[B]at a;cases a;obtain⟨L,e6,r6⟩:=KY r B;exact .inl ⟨_,_,j,L,rfl,rfl,.of e,e6,q L u h r6 trivial⟩
     |_=>exact dD a
    |cG _ _ _ _|bw _ _ _ _=>cases c<;>exact dD a
    |obj e _ _ r=>cases c<;>exact dD a)
def zo:lW "list" =ae (.type "list"):=by decide+kernel
noncomputable def jnd(d:List Str)(Oj a:Scope)(N:List Str)(m:Nat)(c:List Nat):Bool:=(gH (ao c)).all λk=>match N[m+k]?,(c[k]?).bind (d[·]?)with
 |some y,ae e=>y==e&&(Oj.names.lookup y==ae .cell||Oj.names.lookup y==ae .free)&&a.names.lookup y==ae .free
 |_,_=>ag
noncomputable def Dj(z:Option Str)(d:List Str)(a scope:Scope)(cl:List (Str×ar))(N:List Str)(m:Nat)(c:List Nat):Bool:=
 (scope.names.all λx=>x.2 !=.local||scope.names.lookup x.1==ae .local)&&(scope.names.all λx=>x.2 !=.cell||z==ae x.1)&&(match z with
   |some y=>scope.names.lookup y==ae .cell
   |none=>af)&&(scope.names.all λy=>y.2 !=.free||cl.any λp=>p.1==y.1)&&
  jnd d a scope N m c&&(match N[m+ao c]? with
   |some y=>scope.names.all λp=>p.1 !=y
   |none=>af)&&ao N==m+ao c+1
def jbF{a:List (Str×ar)}(h:(a.any λp=>p.1==y)=af):∃c,a.lookup y=ae c:=by
 induction a with
 |nil=>cases h
 |cons p r d=>
  obtain⟨n,c⟩:=p
  cases e:y==n with
  |true=>simp_all
  |false=>grind
def pV(a:List (Str×ar)):List (Str×ar)->Prop
 |[]=>True
 |p::r=>a.lookup p.1=ae p.2/\pV a r
theorem pV.mem:∀{c},pV a c->∀p∈c,a.lookup p.1=ae p.2
 |_::_,h,p,d=>(cM.mp d).elim (λe=>e▸h.1) (pV.mem h.2 p)
def zh(z)(g:closureFor a X.V=pure i)(l:a.kind=.function)(nd:N.Nodup)(o:pV X.V.cells i)
   (h:Dj z X.N X.V.scope a i N m v=af) (made:∀n,cellsFrom (n+1) a.names i=tx z i n:=by intro _;rfl) (d:∀h,pushCells h a.names=HY z h:=by intro _;rfl):gv z X a i N m v:=by
 simp only[Dj,fD,nF,beq_iff_eq]at h;obtain⟨⟨⟨⟨⟨⟨w,B⟩,r⟩,E⟩,H⟩,u⟩,I⟩:=h;refine⟨g,l,λx J e=>?_,λy q e=>?_,made,d,λy e=>by rw[e]at r;exact beq_iff_eq.mp r,λx c e=>o.mem (x,c) (xb e),λy q e=>?_,nd,I,λk j e=>?_,λy e p L=>?_⟩
 .have:=w x J;rw[e]at this;simpa using this
 .have:=B y q;rw[e]at this;simpa using this
 .have:=E y q;rw[e]at this;exact jbF (by simpa using this)
 .have O:=(iZ.mp e).1;have:=nF.mp H k (iD.mpr O);rw[e]at this;simp at this
  cases e1:N[m+k]? with
  |none=>rw[e1]at this;cases this
  |some y=>
   cases e2:X.N[j]? with
   |none=>rw[e1,e2]at this;cases this
   |some Y=>
    rw[e1,e2]at this;simp at this;obtain⟨⟨Q,g2⟩,U⟩:=this;subst Q;exact⟨y,rfl,rfl,g2,U⟩
 .rw[e]at u;have:=nF.mp u p L;simpa using this
end M
namespace M
open PySem PySem.Spec L2
def jZ(h:a d env=.ok (.nx c)):bu a (d::e) env=bu a e c:=by
 show(a d env>>=_)=_;rw[h];rfl
def Ol(h:a d env=.ok (.rt c v)):bu a (d::e) env=.ok (.rt c v):=by
 show(a d env>>=_)=_;rw[h];rfl
def Ul{e:Type}(E:e->Sl)(step)(P:LD->e->Prop)
  (g:∀d c a,P (d::c) a->body d (E a)=.ok (.nx (E (step a d)))/\P c (step a d)):∀(c)(a),P c a->bu body c (E a)=.ok (.nx (E (c.foldl step a))):=
 bv (λa x=>rfl) λd c i a h=>by
  obtain⟨j,l⟩:=g d c a h;rw[jZ j,i _ l];rfl
theorem Uz{E:D->LD->Sl}(h)(P:D->Prop)
  (l:∀x a,eH n (E x a)=.ok a) (m:∀x a c,(E x a).set n (.aG (.al c))=E x c)
  (o:∀x d a,t d (E x a)=.ok (E d a)) (p:∀d a,P d->i (E d a)=.ok (h d)):
  ∀(g:LD)(x)(a:LD),(∀d∈g,P d)->ao a+ao g<=ba->∃y,xT n t qm i g (E x a)=.ok (E y (a++g.map h)):=
 bv (λx a z z=>⟨x,by simp[xT]⟩) λd g q x a j r=>by
  simp at r;obtain⟨y,v⟩:=q d (a++[h d]) (λe u=>j e (by simp[u])) cf;refine⟨y,?_⟩
  have w:xT n t qm i (d::g) (E x a)=xT n t qm i g (E d (a++[h d])):=by
   show(t d (E x a)>>=_)=_;rw[o];show(i (E d a)>>=_)=_;rw[p d a (j d aE)];rw[l];show bh _ _=_;rw[jI ak,m]
  simp_all
def Fq{a:LD}(h)(P:D->Prop)(m:fi env=.ok a)(j:∀d∈a,P d)(o:ao a<=ba)
  (l:∀d i,P d->g [.ai d,.aG (.al i)]=.ok (h d)):zz ag 1 [] fi (gN 0) qm g env=.ok (.al (a.map h)):=by
 show(fi env>>=_)=_;rw[m];show(xT 1 (gN 0) qm g a [.un,.aG (.al [])]>>=_)=_
 cases a with
 |nil=>rfl
 |cons d a=>
  simp at o;obtain⟨y,p⟩:=Uz (n:=1) (t:=gN 0) h P (λx x=>rfl) (λx x x=>rfl) (λx x x=>rfl) l a d [h d] (λe q=>j e (by simp[q])) cf
  have r:xT 1 (gN 0) qm g (d::a) [.un,.aG (.al [])]=xT 1 (gN 0) qm g a [.ai d,.aG (.al [h d])]:=by
   show(g [.ai d,.aG (.al [])]>>=_)=_;rw[l d [] (j d aE)];exact jI (c:=([]:LD).length<ba) cf
  rw[r,p];rfl
section
variable{env:Sl}{g2:TZ}{i:Nat}{d:D}{b:Bool}
@[simp] theorem Dk{a}{f:c->aw e}:(aw.ok a>>=f)=f a:=rfl
@[simp] theorem jlP{c}[Decidable c]{a b}{f:e->aw g}:((if c then a else b)>>=f)=if c then a>>=f else b>>=f:=by split<;>rfl
noncomputable def pW(g:TZ):br->aw br
 |.nx e=>g e
 |o=>.ok o
@[simp] theorem jir:pW g (.rt a d)=.ok (.rt a d):=rfl
@[simp] theorem ZJ:az a g2 env=(a env>>=pW g2):=by
 show(a env>>=_)=_;congr 1;funext o;cases o<;>rfl
@[simp] theorem jm1:cR i f env=(f env>>=λd=>.ok (.nx (env.set i (Bv d)))):=rfl
@[simp] theorem jgp:jF i f env=(f env>>=λd=>.ok (.nx (env.set i (.ai d)))):=rfl
@[simp] theorem jjk:aY f env=(f env>>=λd=>.ok (.rt af d)):=rfl
@[simp] theorem jm2:retS f env=(f env>>=λd=>.ok (.rt ag d)):=rfl
@[simp] theorem jlQ:bS t a g2 env=(t env>>=λb=>if b=af then a env else g2 env):=rfl
@[simp] theorem jjn:fu a c env=(a env>>=λb=>if b=af then c env else .ok ag):=rfl
@[simp] theorem Om:eY a c env=(a env>>=λb=>if b=af then .ok af else c env):=rfl
@[simp] theorem jm4:bt t env=(t env>>=λb=>.ok (!b)):=rfl
noncomputable def Dl:D->aw Bool
 |.bl b=>.ok b
 |_=>.am
@[simp] theorem jjY:Dl (.bl b)=.ok b:=rfl
@[simp] theorem jlS:aU f env=(f env>>=Dl):=rfl
@[simp] theorem jlN:aq a c h env=(a env>>=λx=>c env>>=λy=>h x y):=rfl
@[simp] theorem jm7:cI j env=.ok (.int j):=rfl
@[simp] theorem uT:jf f a env=(f env>>=λd=>a env>>=λc=>.ok (d::c)):=rfl
@[simp] theorem jjl:aT env=.ok []:=rfl
@[simp] theorem On:app a h env=(a env>>=h):=rfl
@[simp] theorem jgr:jl n F c env=(c env>>=λa=>bh (ao a=n) (F a)):=rfl
@[simp] theorem jm0:aO c env=(c env>>=λa=>bh (ao a<=ba) (.ok (.ap a))):=rfl
@[simp] theorem jm5:bJ c env=(c env>>=λa=>bh (ao a<=ba) (.ok (.al a))):=rfl
@[simp] theorem Kv:cY T f env=(f env>>=iL T):=rfl
@[simp] theorem jm3:lq f env=(f env>>=Ag):=rfl
@[simp] theorem jnh:cF f env=(f env>>=Fe):=rfl
@[simp] theorem jm6:cw fi a g env=(fi env>>=λc=>bu (qu a g) c env):=rfl
@[simp] theorem jmq:zO f c e h env=(f env>>=λa=>c env>>=λlo=>e env>>=λg=>h a lo g):=rfl
@[simp] theorem jgo:xr f env=(f env>>=NQ):=rfl
@[simp] theorem jlO:bR i env=match env[i]? with|some (.ai d)=>.ok d|_=>.am:=rfl
noncomputable def toK(g:aw D)(w:Bool):D->aw D
 |.bl b=>if b=w then g else .ok (.bl b)
 |_=>.am
@[simp] theorem jki:toK r w (.bl b)=if b=w then r else .ok (.bl b):=rfl
@[simp] theorem Oo:l7 a c w env=(a env>>=toK (c env) w):=by
 show(a env>>=_)=_;congr 1
noncomputable def Fs(f:aw D)(a:D->D->aw D)(y:D):D->aw D
 |.bl af=>f>>=λw=>a y w
 |.bl ag=>.ok (.bl ag)
 |_=>.am
@[simp] theorem jmd:Fs r h y (.bl b)=if b=af then r>>=λw=>h y w else .ok (.bl ag):=by cases b<;>rfl
@[simp] theorem jgq:QZ a c e h g env=(a env>>=λx=>c env>>=λy=>h x y>>=Fs (e env) g y):=by
 show(a env>>=_)=_;congr 1
@[simp] theorem jjm{c}[Decidable c]{r:aw a}:bh c r=if c then r else .am:=rfl
@[simp] theorem jlR[∀i j,Decidable (C i j)]{h}{m n}:ie C h (.int m) (.int n)=if C m n then .ok (h m n)else .am:=rfl
noncomputable def runK(c:Bool):br->aw D
 |.rt a d=>if c=af/\a=ag then .am else .ok d
 |.nx _=>.ok .bo
 |_=>.am
def Qd(h:g (qV n a)=.ok o):bp c n g a=runK c o:=by
 delta bp;rw[h];cases o<;>rfl
end
end M
namespace M
def QE(c:t env=.ok af)(h:g env=.ok (.nx a)):wl (n+1) t g env=wl n t g a:=by
 rw[wl,c,Dk,if_pos aa,h];rfl
def jbQ(a:t env=.ok af)(h:g env=.ok (.rt c d)):wl (n+1) t g env=.ok (.rt c d):=by
 rw[wl,a,Dk,if_pos aa,h];rfl
def Q8(a:t env=.ok ag):wl (n+1) t g env=.ok (.nx env):=by
 rw[wl,a,Dk,if_neg aE]
open PySem PySem.Spec L2
noncomputable def bM:D->List D
 |.ap (_::r)=>r
 |_=>[]
mutual
noncomputable def num:D->Nat
 |.ap (_::r)=>1+nums r
 |_=>1
noncomputable def nums:LD->Nat
 |[]=>0
 |d::r=>num d+nums r
end
mutual
def eN:D->Nat
 |.ap (_::r)=>1+cy r
 |_=>1
def cy:LD->Nat
 |[]=>0
 |d::r=>max (eN d) (cy r)
end
mutual
def ce:D->List D
 |.ap (x::r)=>.ap (x::r)::c4 r
 |d=>[d]
def c4:LD->List D
 |[]=>[]
 |d::r=>ce d++c4 r
end
def XC:D->Bool|.dw _=>ag|.eX _=>ag|.gK _ _=>ag|.bV _ _=>ag|.obj _ _ _=>ag|_=>af
mutual
def eS:D->Bool
 |.dw _|.eX _|.gK _ _|.bV _ _|.obj _ _ _=>ag
 |.ap a=>aD (ao a<=11)&&cE a
 |_=>af
def cE:LD->Bool
 |[]=>af
 |d::r=>eS d&&cE r
end
def VJ(d):num d=1+nums (bM d):=by
 cases d with
 |ap a=>cases a<;>simp[num,bM,nums]
 |_=>simp[num,bM,nums]
def VX(d):eN d=1+cy (bM d):=by
 cases d with
 |ap a=>cases a<;>simp[eN,bM,cy]
 |_=>simp[eN,bM,cy]
def jkJ(d):ce d=d::c4 (bM d):=by
 cases d with
 |ap a=>cases a<;>simp[ce,bM,c4]
 |_=>simp[ce,bM,c4]
def jfA(a b):nums (a++b)=nums a+nums b:=by
 induction a with
 |nil=>simp[nums]
 |cons d r c=>simp[nums,c];omega
def jge(a b):cy (a++b)=max (cy a) (cy b):=by
 induction a with
 |nil=>simp[cy]
 |cons d r c=>simp[cy,c]
def J0(h:eS d=af):XC d=af:=by
 cases d<;>first|rfl|cases h
theorem xR:∀{a}{d},cE a=af->d∈a->eS d=af
 |x::r,d,h,hm=>by
  have h:=og.mp h;rcases cM.mp hm with rfl|hm
  .exact h.1
  .exact xR h.2 hm
def Kt:∀{a},(∀d∈a,eS d=af)->cE a=af:=
 @(bv (λy=>rfl) λx r c h=>og.mpr ⟨h x aE,c λd e=>h d (by simp[e])⟩)
def JE(h:eS d=af):cE (bM d)=af/\(bM d).length<=10:=by
 cases d with
 |ap a=>
  cases a with
  |nil=>exact⟨rfl,by simp[bM]⟩
  |cons x r=>
   have h:=og.mp h;have:=of_decide_eq_true h.1;exact⟨(og.mp h.2).2,by simp only[bM];rw[gG]at this;omega⟩
 |_=>exact⟨rfl,by simp[bM]⟩
def below(a:LD):LD:=a.flatMap bM
def ja6(a):nums a=ao a+nums (below a):=by
 induction a with
 |nil=>rfl
 |cons d r c=>
  have:below (d::r)=bM d++below r:=rfl;rw[this,jfA];simp only[nums,gG,c,VJ d];omega
def jbl(a:LD)(h:a≠[]):cy a=1+cy (below a):=by
 induction a with
 |nil=>simp_all
 |cons d r c=>
  have e:below (d::r)=bM d++below r:=rfl;rw[e,jge];simp only[cy,VX d]
  cases r with
  |nil=>simp[cy,below]
  |cons x r=>simp_all
def vi(h:cE a=af):cE (below a)=af:=
 Kt λd c=>by
  obtain⟨x,e,g⟩:=Ax.mp c;exact xR (JE (xR h e)).1 g
def jeD(h:cE a=af):(below a).length<=10*ao a:=by
 induction a with
 |nil=>simp[below]
 |cons d r c=>
  have h:=og.mp h;have e:below (d::r)=bM d++below r:=rfl;have:=(JE h.1).2
  grind
def Op(d):1<=eN d:=by rw[VX];omega
mutual
theorem Qi:∀d,(ce d).length=num d
 |.ap (x::r)=>by simp[ce,num,l9 r];omega
 |.ap []|.bo|.bl _|.int _|.str _|.al _|.dw _|.cG _ _|.bw _ _|.eX _|.gK _ _|.bV _ _|.obj _ _ _=>by simp[ce,num]
theorem l9:∀a:List D,(c4 a).length=nums a
 |[]=>rfl
 |d::r=>by simp[c4,nums,Qi d,l9 r]
end
mutual
theorem vV:∀d,eS d=af->cE (ce d)=af
 |.ap (x::r),h=>by
  have a:=(JE h).1;simp only[bM]at a;exact og.mpr ⟨h,i6 r a⟩
 |.ap [],_|.bo,_|.bl _,_|.int _,_|.str _,_|.al _,_=>rfl
 |.dw _,h=>by cases h
 |.cG _ _,_|.bw _ _,_=>rfl
 |.eX _,h|.gK _ _,h|.bV _ _,h|.obj _ _ _,h=>by cases h
theorem i6:∀a:List D,cE a=af->cE (c4 a)=af
 |[],_=>rfl
 |d::r,h=>by
  have h:=og.mp h;refine Kt λe he=>?_
  rcases fj.mp (show e∈ce d++c4 r from he)with he|he
  .exact xR (vV d h.1) he
  .exact xR (i6 r h.2) he
end
def dJ{a:List c}{k:Nat}:h8 a (k)=a[k]?:=by
 delta h8 pB
 by_cases h:k<ao a
 .rw[if_pos (Int.natCast_nonneg _),if_pos ak];simp
 .rw[if_pos (Int.natCast_nonneg _),if_neg ak];simp;omega
def Ft{r:LD}:bc (.ap (x::r)) (.int 0)=.ok x:=by
 exact congrArg (λz:Option D=>match z with|some d=>aw.ok d|none=>.am) (dJ)
section
variable{env:Sl}{g2:TZ}{d:D}{ds:LD}
def jk(a:f1 env=.ok x)(c:f2 env=.ok y)(e:h x y=.ok z):aq f1 f2 h env=.ok z:=by simp_all
def jw(h:f env=.ok d):jF i f env=.ok (.nx (env.set i (.ai d))):=by simp_all
def zr(h:f env=.ok d):cR i f env=.ok (.nx (env.set i (Bv d))):=by simp_all
def j7(h:f env=.ok d):aY f env=.ok (.rt af d):=by simp_all
def ka(h:f env=.ok d):retS f env=.ok (.rt ag d):=by simp_all
def jm(h:a env=.ok (.nx env')):az a g2 env=g2 env':=by rw[ZJ,h];rfl
def zP(h:a env=.ok (.rt c d)):az a g2 env=.ok (.rt c d):=by simp_all
def cq(h:t env=.ok af):bS t a g2 env=a env:=by simp_all
def bZ(h:t env=.ok ag):bS t a g2 env=g2 env:=by simp_all
def ja(c:f env=.ok d)(e:a env=.ok ds):jf f a env=.ok (d::ds):=by simp_all
def qz(c:a env=.ok ds)(e:h ds=.ok d):app a h env=.ok d:=by simp_all
def jo(c:a env=.ok ds)(e:ao ds=n)(g:F ds=.ok d):jl n F a env=.ok d:=by simp_all
def Qc(c:a env=.ok ds)(e:ao ds<=ba):aO a env=.ok (.ap ds):=by simp_all
def wM(c:a env=.ok ds)(e:ao ds<=ba):bJ a env=.ok (.al ds):=by simp_all
def jJ(h:f env=.ok (.bl b)):aU f env=.ok b:=by simp_all
def kB(a:c env=.ok b)(e:g env=.ok b2):eY c g env=.ok (b||b2):=by rw[Om,a,Dk,e];cases b<;>rfl
def qG(c:a env=.ok b):bt a env=.ok (!b):=by simp_all
def wa(a:eH i env=.ok ds)(c:f env=.ok d)(e:ao ds<ba):qL i f env=.ok (.nx (env.set i (.aG (.al (ds++[d]))))):=by
 show(eH i env>>=_)=_
 simp_all
def JU(g:f env=.ok x)(i:a env=.ok lo)(j:c env=.ok e)(l:h x lo e=.ok z):zO f a c h env=.ok z:=by simp_all
def y6(h:f env=.ok (.int j)):xr f env=.ok (ae j):=by rw[jgo,h];rfl
def zX(h:fi env=.ok ds):cw fi a g env=bu (qu a g) ds env:=by simp_all
def xQ(h:f env=.ok d)(a:Fe d=.ok ds):cF f env=.ok ds:=by simp_all
def Fv(h:f env=.ok d)(a:d.lN=af):lO f env=.ok d:=by
 show(f env>>=_)=_;rw[h];exact jI a
end
def VU[∀i j,Decidable (C i j)]{g}{i j}(h:C i j):ie C g (.int i) (.int j)=.ok (g i j):=if_pos h
def uc(h:Au i j):eI (.int i) (.int j)=.ok (.int (i^j.toNat)):=VU h
def jli(h:pR i j):gy (.int i) (.int j)=.ok (.int (i*j)):=VU h
def Oq(h:0<j):bB (.int i) (.int j)=.ok (.int (i%j)):=VU h
def Ys(h:0<j/\j<1073741824):ek (.int i) (.int j)=.ok (.int (i/j)):=VU h
def zA(h:t d env=.ok env'):qu t g d env=g env':=by
 show(t d env>>=g)=_;rw[h];rfl
def qW(h:g (qV n a)=.ok (.rt af d)):bp c n g a=.ok d:=by rw[Qd h];simp[runK]
def Fw(h:g (qV n a)=.ok (.rt ag d)):bp ag n g a=.ok d:=by rw[Qd h];simp[runK]
def YK(h:a env=.ok [.int j])(c: -(2^62)<=j/\j<2^62):ia a env=.ok (WZ 0 j.toNat):=by
 show(a env>>=Ai)=_;rw[h];exact jI c
def jj6(c:a.isEmpty=ag)(d:ao a+ao b<=ba):a9 (.ap a) (.ap b)=.ok (.ap (a++b)):=jI ⟨c,d⟩
def xV(c:ao a+ao b<=ba):a9 (.al a) (.al b)=.ok (.al (a++b)):=jI c
def JG:da (.int a) (.int b)=.ok (.bl (a==b)):=by
 delta da
 rw[jI (by left;simp[jm8,D.dj])];simp[vm]
def Z2(I:LD->Sl->Prop)
  (e:∀d c env,I (d::c) env->∃a,body d env=.ok (.nx a)/\I c a):∀(c)(env),I c env->∃a,bu body c env=.ok (.nx a)/\I [] a:=
 bv (λenv h=>⟨env,rfl,h⟩) λd c g env h=>by
  obtain⟨e1,i,j⟩:=e d c env h;obtain⟨e2,l,m⟩:=g e1 j;exact⟨e2,by rw[jZ i,l],m⟩
def VO(h:d∈WZ lo n):∃k,d=.int k/\lo<=k/\k<lo+n:=by
 delta WZ at h
 grind
def WY(lo)(n):(WZ lo n).length=n:=by simp[WZ]
def Ot{xs:List d}{i:Int}(c:0<=i)(e:i<ao xs):∃x,h8 xs i=ae x/\x∈xs:=by
 obtain⟨k,rfl⟩:=Int.eq_ofNat_of_zero_le c;have a:k<ao xs:=by omega
 exact⟨xs[k],by rw[M.dJ];exact cW a,rB a⟩
def BD{ds:LD}{i:Int}(a:0<=i)(e:i<ao ds):∃d,bc (.al ds) (.int i)=.ok d/\d∈ds:=by
 obtain⟨c,g,h⟩:=Ot a e;exact⟨c,by show(match h8 ds i with|some d=>aw.ok d|none=>.am)=_;rw[g],h⟩
open Builtin.Int (intBits)
def jnc(o:oC ag env j=c)(h)(P:D->Prop)(p:fi env=.ok a)(l:∀d∈a,P d)(q:ao a<=ba)
  (m:∀d i,P d->g [.ai d,c,.aG (.al i)]=.ok (h d)):zz ag 1 [j] fi (gN 0) qm g env=.ok (.al (a.map h)):=by
 show(fi env>>=_)=_;rw[p];show(xT 2 (gN 0) qm g a [.un,oC ag env j,.aG (.al [])]>>=_)=_;rw[o]
 cases a with
 |nil=>rfl
 |cons d a=>
  simp at q;obtain⟨y,r⟩:=Uz (n:=2) (t:=gN 0) h P (λx x=>rfl) (λx x x=>rfl) (λx x x=>rfl) m a d [h d] (λe u=>l e (by simp[u])) cf
  have v:xT 2 (gN 0) qm g (d::a) [.un,c,.aG (.al [])]=xT 2 (gN 0) qm g a [.ai d,c,.aG (.al [h d])]:=by
   show(g [.ai d,c,.aG (.al [])]>>=_)=_;rw[m d [] (l d aE)];exact jI (c:=([]:LD).length<ba) cf
  rw[v,r];rfl
theorem yg:∀{a}{d},d∈a->eN d<=cy a
 |x::r,d,h=>by
  simp only[cy];rcases cM.mp h with rfl|h
  .omega
  .have:=yg h;omega
end M
namespace M
open PySem PySem.Spec L2
open PyProof.Rows hiding St
noncomputable def pX:D->Option dY
 |.int i=>ae (.inl i)
 |.str x=>ae (.inr x)
 |_=>ah
noncomputable def ng(a:List dY)(k:dY):Bool:=a.any λx=>aD (x=k)
def Vp(a:List dY)(k:dY):List dY:=if ng a k=af then a else a++[k]
def Vq(a:List dY)(c:LD)(k:dY)(d:D):LD:=if ng a k=af then(a.zip c).map (λp=>if p.1=k then d else p.2)else c++[d]
section
def Ou(r:aV a A H y d)(h:pX d=ae k):y=kV k:=by
 cases d<;>cases h
 .exact r.f
 .exact r.f.1
def jj3(a:List (dY×V))(k):(a.any λc=>aD (c.1=k))=ng (a.map (·.1)) k:=by
 delta ng;rw[Ay];rfl
theorem vR(k)(e:aV g A H v d):∀{a:List (dY×V)}{h:LD},ay g A H (a.map (·.2)) h->ay g A H ((a.map (λc=>if c.1=k then(c.1,v)else c)).map (·.2)) (((a.map (·.1)).zip h).map (λp=>if p.1=k then d else p.2))
 |[],_,r=>by cases r.fJ;exact .nil
 |(j,o)::a,_,r=>by
  obtain⟨_,_,rfl,l,m⟩:=r.cv;have n:=vR k e m
  by_cases i:j=k
  .simp only[fI,Az,i,if_true];exact .cons e bg
  .simp only[fI,Az,i,if_false];exact .cons l n
def jh4(k)(r:ay c A H (a.map (·.2)) g)(e:aV c A H v d):
   (putK a k v).map (·.1)=Vp (a.map (·.1)) k/\ay c A H ((putK a k v).map (·.2)) (Vq (a.map (·.1)) g k d):=by
 delta putK Vp Vq
 rw[jj3]
 by_cases h:ng (a.map (·.1)) k=af
 .rw[if_pos h,if_pos h,if_pos h];refine⟨?_,vR k e r⟩;rw[dF];apply AA;intro p _;simp
  split<;>rfl
 .rw[if_neg h,if_neg h,if_neg h];refine⟨by simp,?_⟩;rw[lP];exact r.append (.cons e .nil)
def aV.Iz(r:aV e A H v (.cG g h)):∃a d,v=.ref a/\H a=ae (.dK d)/\A a/\d.map (·.1)=g/\ay e (λc=>A c/\c≠a) H (d.map (·.2)) h:=r.f
end
def jfk{i:Nat}(k:aH g G q env d H)(h:env[i]?=ae (.aG (.cG j l))):∃a c,d[i]?=ae (ae (.ref a))/\H a=ae (.dK c)/\c.map (·.1)=j/\ay g (Sf G env d) H (c.map (·.2)) l:=by
 obtain⟨a,m,u,n⟩:=k.aG i _ h
 cases n with
 |cG e o p r=>subst p;exact⟨a,_,m,e,o,r⟩
noncomputable def AB(i:Nat)(env:Sl):aw (List dY×LD):=match env[i]? with
 |some (.aG (.cG a c))=>.ok (a,c)
 |_=>.am
def jfm(h:AB i env=.ok p):env[i]?=ae (.aG (.cG p.1 p.2)):=by
 delta AB at h
 split at h
 .cases h;assumption
 .cases h
def aH.putD(k:aH j G m env g H)(n:env[i]?=ae (.aG (.cG h l)))(o:g[i]?=ae (ae (.ref a)))(p:H a=ae (.dK c))(hk:c.map (·.1)=h)
  (r:ay j (Sf G env g) H (c.map (·.2)) l) (q:aV j (Sf G env g) H v d):aH j G m (env.set i (.aG (.cG (Vp h kk) (Vq h l kk d)))) g (aQ H a (.dK (putK c kk v)))/\bN env g H (env.set i (.aG (.cG (Vp h kk) (Vq h l kk d)))) g (aQ H a (.dK (putK c kk v))):=by
 subst hk;obtain⟨u,y⟩:=jh4 kk r q;exact k.ls n o p trivial λz B st e w=>.cG e u aa (y.bq st w)
section
variable{x:Str}
def Dn(i:Nat)(c fv:T3):Sl->aw br:=λa=>AB i a>>=λq=>fv a>>=λd=>c a>>=λe=>match pX e with
 |some k=>bh (q.1.length<ba) (.ok (.nx (a.set i (.aG (.cG (Vp q.1 k) (Vq q.1 q.2 k d))))))
 |none=>.am
def jjA(i)(Q:X.A.units+20<cLine)(U:DE X l1 e1 Y)(hv:DE X .s e2 fv)(hN:X.N[i]?=ae x:=by rfl)(u:gj X.V.scope x:=by exact dC aa)
   (hd:YG x:=by decide) (w:YF x:=by decide)
   (hs:kw e2 (ae (.Subscript (.Name x p) e1 e)) z.line X.V=pure ag:=by rfl):
   DS X (.Assign [.Subscript (.Name x p) e1 e] e2 z) (Dn i Y fv):=by
 nomatch (
  PS.imp (kj Q (zC hN u hd w) U hv hs)<|by
   rintro E σ H ⟨G,I,g,o,k,h,q⟩;obtain⟨ks,c1,h⟩:=je h;obtain⟨d,c2,h⟩:=je h;obtain⟨J,c3,r⟩:=je h;have L:=jfm c1;obtain⟨a,B,N,hx,j,rs⟩:=jfk k L
   cases c:pX J with
   |none=>rw[c]at r;cases r
   |some kk=>
    rw[c]at r;obtain⟨O,c5⟩:=jE r;cases c5;refine⟨G,I,g,d,k,c2,λv H1 l r1 b=>⟨.ref a,N,G,I,g,J,k.aB l,c3,λy H2 m r2 b=>?_⟩⟩;have n:=m _ _ (l _ _ hx);have hy:=Ou (r2.aS Lv.bA) c;subst hy;have hl:ao B<ba:=by rw[<-j,cX]at O;exact O
    refine⟨a,_,rfl,iI.k n hl,?_⟩;have W:=((k.aB l).aB m).putD (kk:=kk) L N n j ((rs.aB l).aB m) (r1.aB m)
    exact q σ _ W.1 ((W.2.aB m).aB l))
noncomputable def kD:dY->D
 |.inl i=>.int i
 |.inr x=>.str x
theorem Ov:∀{c:List (dY×aJ)}{a},ao a=ao c->(∀(j:Nat)(v),a[j]?=ae v->∃k x,c[j]?=ae (k,x)/\(wJ P w).is k v=af)->aW (c.map λq=>kV q.1) a
 |[],[],_,_=>.nil
 |[],_::_,h,_|_::_,[],h,_=>by simp at h
 |(k,x)::c,v::a,h,d=>by
  obtain⟨m,n,e,g⟩:=d 0 v aa;simp at e;obtain⟨rfl,rfl⟩:=e;refine .cons ?_ (Ov (by simpa using h) λj u l=>d (j+1) u (by simpa using l))
  cases k with
  |inl i=>
   obtain⟨t,rfl⟩:=GI g;exact⟨t,rfl⟩
  |inr z=>
   obtain⟨t,rfl⟩:=Value.isStrOf_shape g;exact⟨t,rfl⟩
def jbC(J:X.bU=af):bG X (.type "list") (λp H Q=>∃a c,p=[.ref a]/\H a=ae (.dK c)/\∀l,H l=ah->Q (.ref l) (aQ H l (.al (c.map λq=>kV q.1)))):=by
 intro w s σ H p us Q I r h;obtain⟨a,c,rfl,L,q⟩:=h;obtain⟨u,rfl,N⟩:=Jw r;cases N;obtain⟨y,O,z,i,dd⟩:=NB I.be L;have n:z.length<=ba:=by rw[<-i.length];exact y
 obtain⟨ep,o⟩:=dd.dictAt;refine PySem.W.kdl_call (PySem.W.kdl_dict O) (I.ok.hd J) o n λU tk m Y hk hS d=>?_
 have B:=Ov (by rw[gW];exact d.1) λj v e=>d.2 j v aZ
 have g:(z.map λq=>kV q.1)=(c.map λq=>kV q.1):=by
  have:=i.keys;have E:=congrArg (List.map kV) this;simp at E;exact E.symm
 rw[g]at B;refine⟨.ref s.heap.objs.size,_,I.laid hk (bz _) (show bC X.P X.w _ U _ (.al (c.map λq=>kV q.1)) from⟨by rw[cX];exact y,m.toList,Y,B,by rw[IA];exact hS⟩),rfl,q _ (I.be.fresh (bz _))⟩
def IB:LD->aw D
 |[.cG a _]=>bh ((a.all λk=>match k with|.inl _=>af|.inr _=>ag)=af) (.ok (.al (a.map kD)))
 |_=>.am
set_option tactic.hygienic true in
theorem jgR:Xo B (λy H Q=>∃a g,y=[.ref a]/\H a=ae (.dK g)/\∀l,H l=ah->Q (.ref l) (aQ H l (.al (g.map λq=>kV q.1)))) IB:=by
 intro A y H o d Q r e q;rcases o with _|⟨c,o⟩
 .cases e
 cases c<;>try cases e
 cases o<;>try cases e
 .obtain⟨j,e2⟩:=jE e;cases e2;obtain⟨v,rfl,E⟩:=r.one;obtain⟨p,g,rfl,I,_,rfl,_⟩:=E.Iz;refine⟨p,g,rfl,I,λl u=>q _ _ (aA.aQ u) (.al jv (.inl u) ?_) (qX (aA.refl H) u)⟩
  have w:∀(g:List (dY×V)),((g.map (·.1)).all λk=>match k with|.inl _=>af|.inr _=>ag)=af->∀(m:Wp)(n:Hp),ay B m n (g.map λq=>kV q.1) ((g.map (·.1)).map kD):=by
   intro g
   induction g with
   |nil=>intro _ m n;exact .nil
   |cons q r J=>
    intro h m n;simp only[fI,tw,fD]at h;obtain⟨k,v⟩:=q
    cases k with
    |inl i=>exact .cons (.int i) (J h.2 m n)
    |inr z=>cases h.1
  exact w g j _ _
end
end M
namespace M
open PySem PySem.W PyProof.Rows
def Wk(lt:Nat->Nat->Bool)(n:Nat)(R:c->Prop):KasT c->Prop
 |.ret a=>R a
 |.ask i j k=>i<n/\j<n/\Wk lt n R (k (lt i j))
theorem Wk.bind{R}{c:e->Prop}{f}(d:∀a,R a->Wk lt n c (f a)):∀{t:KasT g},Wk lt n R t->Wk lt n c (t.bind f)
 |.ret a,h=>d a h
 |.ask i j k,h=>⟨h.1,h.2.1,Wk.bind d h.2.2⟩
theorem Wk.imp{R c}(hr:∀a,R a->c a):∀{t:KasT d},Wk lt n R t->Wk lt n c t
 |.ret a,h=>hr a h
 |.ask i j k,h=>⟨h.1,h.2.1,Wk.imp hr h.2.2⟩
theorem Ox{o}{R}{Q}{P:bT->Prop}
  (l:∀i j C s,i<n->j<n->P s->(∀c,P c->C (lt i j) c)->d i j C s) (m:∀a s,R a->P s->Q a s):∀(t:KasT o)(s),Wk lt n R t->P s->t.kasWp d Q s
 |.ret a,s,h,e=>m a s h e
 |.ask i j k,s,h,e=>l i j _ s h.1 h.2.1 e λc g=>Ox l m _ c h.2.2 g
structure Ord(lt:Nat->Nat->Bool)(n:Nat):Prop where
 IC:∀i j,lt i j=af->lt j i=ag
 trans:∀i j k,i<n->j<n->k<n->lt i j=af->lt j k=af->lt i k=af
 total:∀i j,i<n->j<n->i≠j->lt i j=af\/lt j i=af
noncomputable abbrev dM(p:Array Nat)(i:Nat):Nat:=p.getD i 0
structure Pm(p:Array Nat)(n:Nat):Prop where
 size:p.size=n
 perm:p.toList.Perm (gH n)
def Qv(h:i<p.size):p[i]?=ae (dM p i):=by simp_all
def Pm.lt(h:Pm p n)(a:i<n):dM p i<n:=by
 have c:i<p.size:=by rw[h.size];exact a
 have:dM p i∈p.toList:=by simp_all
 exact iD.mp (h.perm.mem_iff.mp this)
def Pm.ne(h:Pm p n)(g:i<n)(l:j<n)(d:i≠j):dM p i≠dM p j:=by
 have nd:=h.perm.nodup_iff.mpr Do;have a:i<p.toList.length:=by simp[h.size,g]
 have c:j<p.toList.length:=by simp[h.size,l]
 intro e;have e1:dM p i=p.toList[i]:=by simp[dM,Array.getD,h.size,g]
 have e2:dM p j=p.toList[j]:=by simp[dM,Array.getD,h.size,l]
 rw[e1,e2]at e;have m:=Dp.mp nd;rcases Nat.lt_or_gt_of_ne d with z|z
 .exact m i j a c z e
 .exact m j i c a z e.symm
def Pm.of(h:Pm p n)(a:q.size=p.size)(c:q.Perm p):Pm q n:=⟨by rw[a,h.size],(Array.perm_iff_toList_perm.mp c).trans h.perm⟩
def Pm.rev(h:Pm p n)(i j):Pm (kas_rev p i j) n:=h.of (mirror_size _ _ _ _) (mirror_perm _ _ _ _)
def Oy(h:Pm p n)(d:j<=n)(c:k<n):dM (kas_rev p 0 j) k=if k<j then dM p (j-1-k)else dM p k:=by
 have hR:=h.rev 0 j;have e:=getElem?_mirror_all (i:=0) (by rw[h.size];exact d) k;have e1:=Qv (by rw[hR.size];exact c);unfold kas_rev at e1;rw[e]at e1;simp only[fH,true_and,Dq]at e1
 split at e1
 .rename_i a;rw[if_pos a];rw[Qv (by rw[h.size];omega)]at e1;exact(i3 e1).symm
 .rename_i a;rw[if_neg a];rw[Qv (by rw[h.size];exact c)]at e1;exact(i3 e1).symm
section
variable{lt:Nat->Nat->Bool}{n:Nat}(O:Ord lt n)
def Up(lt:Nat->Nat->Bool)(p:Array Nat)(k:Nat):Prop:=∀i j,i<j->j<k->lt (dM p i) (dM p j)=af
def Down(lt:Nat->Nat->Bool)(p:Array Nat)(k:Nat):Prop:=∀i j,i<j->j<k->lt (dM p j) (dM p i)=af
include O
theorem Up.snoc(a:Pm p n)(hk:k+1<n)(h:Up lt p (k+1))(hl:lt (dM p k) (dM p (k+1))=af):Up lt p (k+2):=λi j c d=>by
 by_cases e:j=k+1
 .subst e
  by_cases e2:i=k
  .subst e2;exact hl
  .exact O.trans _ _ _ (a.lt (sB bg bg)) (a.lt ak) (a.lt hk) (h i k ak (tq _)) hl
 .exact h i j c ak
theorem Down.snoc(a:Pm p n)(hk:k+1<n)(h:Down lt p (k+1))(hl:lt (dM p (k+1)) (dM p k)=af):Down lt p (k+2):=λi j c d=>by
 by_cases e:j=k+1
 .subst e
  by_cases e2:i=k
  .subst e2;exact hl
  .exact O.trans _ _ _ (a.lt hk) (a.lt ak) (a.lt (sB bg bg)) hl (h i k ak (tq _))
 .exact h i j c ak
theorem ID(a:Pm p n)(d:i<n)(e:j<n)(c:i≠j)(h:lt (dM p i) (dM p j)=ag):lt (dM p j) (dM p i)=af:=by
 rcases O.total _ _ (a.lt d) (a.lt e) (a.ne d e c)with z|z
 .simp_all
 .exact z
theorem IE(g:Pm p n):∀(f m),1<=m->m+f=n->Up lt p m->Wk lt n (λr=>m<=r/\r<=n/\Up lt p r/\(r<n->lt (dM p r) (dM p (r-1))=af)) (kas_asc p f m)
 |0,m,l,o,h=>⟨bz _,by omega,h,λz=>by omega⟩
 |f+1,m,l,o,h=>by
  refine⟨g.lt ak,g.lt ak,?_⟩
  cases j:lt (p.getD m 0) (p.getD (m-1) 0)with
  |true=>
   exact⟨bz _,by omega,h,λx=>j⟩
  |false=>
   have i:Up lt p (m+1):=by
    have e:m=(m-1)+1:=by omega
    have q:=ID O g ak ak ak j;rw[e]at h ⊢;exact Up.snoc O g ak h (by rw[<-e];exact q)
   have u:=IE g f (m+1) (ma _ _) ak i;exact Wk.imp (by rintro r ⟨a,b,c,d⟩;exact⟨by omega,b,c,d⟩) u
theorem jlZ(g:Pm p n):∀(f m),1<=m->m+f=n->Down lt p m->Wk lt n (λr=>r.1=p/\m<=r.2.1/\r.2.1<=n/\Down lt p r.2.1/\r.2.2=0) (kas_desc f p m 0):=
 lT (λm o q h=>⟨rfl,bz _,(show m<=n by omega),h,rfl⟩) λf u m o q h=>by
  refine⟨g.lt ak,g.lt ak,?_⟩
  cases l:lt (p.getD m 0) (p.getD (m-1) 0)with
  |true=>
   have i:Down lt p (m+1):=by
    have e:m=(m-1)+1:=by omega
    have j:=l;rw[e]at h ⊢;exact Down.snoc O g ak h (by rw[<-e];exact j)
   exact Wk.imp (by rintro r ⟨a,b,c,d,e⟩;exact⟨a,by omega,c,d,e⟩) (u (m+1) (ma _ _) ak i)
  |false=>
   have j:=ID O g ak ak ak l;refine⟨g.lt ak,g.lt ak,?_⟩;show Wk lt n _ (if lt (dM p (m-1)) (dM p m)=af then _ else _);rw[if_pos j];exact⟨rfl,bz _,(show m<=n by omega),h,rfl⟩
theorem Down.rev(a:Pm p n)(hk:k<=n)(h:Down lt p k):Up lt (kas_rev p 0 k) k:=λi j c d=>by
 rw[Oy a hk ak,Oy a hk (dZ bg bg),if_pos (sB bg bg),if_pos d];exact h _ _ ak ak
theorem jkk(d:Pm p n)(e:1<=k)(g:k<=n)(h:Down lt p k):Wk lt n (λr=>1<=r.1/\r.1<=n/\Pm r.2 n/\Up lt r.2 r.1) (kas_tail3 k n p):=by
 refine Wk.bind (λr ⟨a,b,c,_⟩=>?_) (IE O (d.rev 0 k) (n-k) k e ak (Down.rev O d g h));exact⟨by omega,b,d.rev 0 k,c⟩
theorem jjG(g:Pm p n)(z:1<=n):Wk lt n (λr=>1<=r.1/\r.1<=n/\Pm r.2 n/\Up lt r.2 r.1) (kas_count n p):=by
 delta kas_count
 refine Wk.bind (λr ⟨a,b,c,d⟩=>?_) (IE O g (n-1) 1 (bz _) ak (λi j h m=>by omega))
 by_cases e:r=n
 .subst e;rw[if_pos aE];exact⟨a,b,g,c⟩
 .rw[if_neg (by simpa using e)]
  by_cases l:r>1
  .rw[if_pos l];refine⟨g.lt (Dr bg),g.lt ak,?_⟩;have:lt (p.getD 0 0) (p.getD (r-1) 0)=af:=c 0 (r-1) ak ak;show Wk lt n _ (if lt (p.getD 0 0) (p.getD (r-1) 0)=af then _ else _);rw[if_pos this];exact⟨a,b,g,c⟩
  .rw[if_neg l];have o:r=1:=by omega
   subst o
   delta kas_descPart
   have u:Down lt p 2:=λi j h m=>by
    have:i=0/\j=1:=by omega
    obtain⟨rfl,rfl⟩:=this;exact d ak
   refine Wk.bind (λq ⟨v,B,w,y,E⟩=>?_) (jlZ O g (n-2) 2 (ma _ _) ak u);rw[if_neg ak,v];exact jkk O g (AC bg) w y
set_option tactic.hygienic true in
theorem ko(c:Pm p n)(d:k<n)(h:Up lt p k):∀(f l r),l<=r->r<=k->r-l<=f->(∀i,i<l->lt (dM p i) (dM p k)=af)->(∀i,r<=i->i<k->lt (dM p k) (dM p i)=af)->
  Wk lt n (λm=>m<=k/\(∀i,i<m->lt (dM p i) (dM p k)=af)/\∀i,m<=i->i<k->lt (dM p k) (dM p i)=af) (kas_place p k f l r)
 |0,l,r,v,u,w,j,o=>⟨by omega,j,λi a b=>o i ak b⟩
 |f+1,l,r,v,u,w,j,o=>by
  unfold kas_place
  by_cases e:l>=r
  .rw[if_pos e];exact⟨by omega,j,λi a b=>o i (cn bg bg) b⟩
  .rw[if_neg e];have y:(l+r)/2<r:=by omega
   refine⟨c.lt d,c.lt ak,?_⟩
   cases q:lt (p.getD k 0) (p.getD ((l+r)/2) 0)with
   |true=>
    refine ko c d h f l ((l+r)/2) ak ak ak j λi a b=>?_
    by_cases e2:i=(l+r)/2
    .rw[e2];exact q
    .exact O.trans _ _ _ (c.lt d) (c.lt (show(l+r)/2<n by omega)) (c.lt (sB bg bg)) q (h _ _ ak b)
   |false=>
    have g:=ID O c d ak ak q;refine ko c d h f ((l+r)/2+1) r ak u ak (λi a=>?_) o
    by_cases e2:i=(l+r)/2
    .rw[e2];exact g
    .exact O.trans _ _ _ (c.lt ak) (c.lt (show(l+r)/2<n by omega)) (c.lt d) (h _ _ ak (dZ bg bg)) g
theorem Yw(a:Pm p n)(g:k<n)(m:l<=k)(h:i<n):dM (bubble p k (k-l)) i=if i=l then dM p k else if l<i/\i<=k then dM p (i-1)else dM p i:=by
 have j:Pm (bubble p k (k-l)) n:=a.of (bubble_size _ _ _) (bubble_perm _ _ _);have e:=getElem?_bubble (by rw[a.size];exact g) (k-l) (Nat.sub_le _ _) i;rw[Qv (by rw[j.size];exact h)]at e;have c:k-(k-l)=l:=by omega
 rw[c]at e
 split at e
 .rename_i z;rw[if_pos z];rw[Qv (by rw[a.size];exact g)]at e;exact i3 e
 .rename_i z;rw[if_neg z]
  split at e
  .rename_i d;rw[if_pos d];rw[Qv (by rw[a.size];omega)]at e;exact i3 e
  .rename_i d;rw[if_neg d];rw[Qv (by rw[a.size];exact h)]at e;exact i3 e
theorem Oz:∀(f)(p)(k),Pm p n->k+f=n->Up lt p k->Wk lt n (λq=>Pm q n/\Up lt q n) (kas_bin f p k)
 |0,p,k,d,o,h=>⟨d,by
  have:k=n:=by omega
  rw[this]at h;exact h⟩
 |f+1,p,k,d,o,h=>by
  unfold kas_bin;refine Wk.bind (λl ⟨a,b,c⟩=>?_) (ko O d ak h k 0 k (fH _) (bz _) (Nat.sub_le _ _) (λi z=>by omega) (λi z w=>by omega));refine Oz f _ (k+1) (d.of (bubble_size _ _ _) (bubble_perm _ _ _)) ak λi j e r=>?_
  rw[Yw O d ak a ak,Yw O d ak a ak]
  by_cases e1:i=l
  .rw[if_pos e1,if_neg ak,if_pos ak];exact c _ ak ak
  .rw[if_neg e1]
   by_cases e2:l<i/\i<=k
   .rw[if_pos e2,if_neg ak,if_pos ak];exact h _ _ ak ak
   .rw[if_neg e2]
    by_cases g:j=l
    .rw[if_pos g];exact b _ ak
    .rw[if_neg g]
     by_cases m:l<j/\j<=k
     .rw[if_pos m]
      by_cases u:i=j-1
      .omega
      .exact h _ _ ak ak
     .rw[if_neg m];exact h _ _ e ak
theorem jkt(g:1<=n):Wk lt n (λq=>Pm q n/\Up lt q n) (kas_sort n):=by
 refine Wk.bind (λr ⟨a,b,c,d⟩=>?_) (jjG O (⟨by simp,by simp⟩) g)
 by_cases e:r.1<n
 .rw[if_pos e];have:max r.1 1=r.1:=by omega
  rw[this];exact Oz O _ _ _ c ak d
 .rw[if_neg e];have:r.1=n:=by omega
  rw[this]at d;exact⟨c,d⟩
end
section
noncomputable def xN(h:Heap)(a:ar)(c:List aJ):Heap:=((h.update a (lM λx=>(#[]:Array aJ))).push (i7 "tuple" c.toArray 0)).push (i7 "list" #[] 0)
noncomputable def kA(a:List aJ)(p:Array Nat):List aJ:=p.toList.map λi=>a.getD i lI
def Za(c:b≠a)(e:h.get? b=ae o):(xN h a d).get? b=ae o:=
 cc _ (cc _ ((sA _ _ (gM c)).trans e))
def Kd(O:Ord lt (ao d))(q)(r:s.heap.get? a=ae (i7 "list" d.toArray n))(h2:2<=ao d)(u:ao d<64)
  (hk:∀Q,Q q {s with heap:=xN s.heap a d}->wpAny (aN g w) A (keyKind' d.toArray) Q (λx x=>False) {s with heap:=xN s.heap a d})
  (hc:∀i j C,i<ao d->j<ao d->C (lt i j) {s with heap:=xN s.heap a d}->kas_ask g w A q d i j C {s with heap:=xN s.heap a d})
  (h:∀p v c,Pm p (ao d)->Up lt p (ao d)->(∀b o,b≠a->s.heap.get? b=ae o->v.get? b=ae o)->v.get? a=ae (i7 "list" (BE (kA d p)) c)->P (.done (.ret .none)) {s with heap:=v}):
  wpAny (aN g w) A (mF.«list.sort» ⟨[.ref a],[]⟩) P E s:=by
 obtain⟨y,b1⟩:∃y,(s.heap.update a (lM λx=>(#[]))).get? a=ae (i7 "list" #[] y):=⟨_,Fx r λx=> #[]⟩
 have B:(xN s.heap a d).get? a=ae (i7 "list" #[] y):=cc _ (cc _ b1);have big:ao d<=ba:=by rw[my];omega
 have walk:(kas_sort (ao d)).kasWp (kas_ask g w A q d) (λp t=>t={s with heap:=xN s.heap a d}/\Pm p (ao d)/\Up lt p (ao d)) {s with heap:=xN s.heap a d}:=
  Ox (P:=λt=>t={s with heap:=xN s.heap a d}) (λi j C t hi hj H hC=>by subst H;exact hc i j C hi hj (hC _ aa)) (λp t I H=>⟨H,I⟩) _ _ (jkt O (AC bg)) aa
 rw[list_sort_plain];refine ax (listItems_at r aa (ax (listUpdate_at r aa (ax (seqEpoch_at b1 aa (ax (wpAny_newTuple (ax (wpAny_newList (gk ?_) (fH _))) bg)))) ak (fH _))));have l: ¬d.toArray.size<2:=by simp_all
 rw[if_neg l,if_neg l];refine ax (lU (hk (λm t=>m=q/\t={s with heap:=xN s.heap a d}) ⟨rfl,rfl⟩) (λm t J=>?_) λx x z=>z.elim);obtain⟨rfl,rfl⟩:=J;refine ax (lU (kat_run (Q:=λst t=>∃p:Array Nat,p.size=ao d/\arrOf st=p.map (kas_item (d.toArray.zip d.toArray))/\failedOf st=ah/\t={s with heap:=xN s.heap a d}/\Pm p (ao d)/\Up lt p (ao d)) aa h2 u (λp st t z1 z2 z3 z4=>⟨p,z1,z2,z3,z4⟩) walk) ?_ λx x z=>z);rintro⟨⟨⟩,st⟩ t ⟨p,I,L,hf,rfl,N,U⟩;dsimp only;have Y:(BE (kA d p)).size<=ba:=by rw[eW];delta kA;rw[cX,gW,I];exact big
 rw[kat_snds aa L];obtain⟨c2,tD⟩:∃c2,((xN s.heap a d).update a (lM λx=>BE (kA d p))).get? a=ae (i7 "list" (BE (kA d p)) c2):=⟨_,Fx B λx=>BE (kA d p)⟩
 refine ax (seqEpoch_at B aa (ax (listUpdate_at B aa ?_ (fH _) (Nat.le_succ_of_le Y))));rw[hf];simp;exact aP (h p _ c2 N U (λb o hb e=>(sA _ _ (gM hb)).trans (Za hb e)) tD)
end
def mI(h:Heap)(d:ar)(c:List aJ)(e:Nat):Prop:=∃o a,h.get? d=ae o/\o.ExactDict/\o.data=.dict a e/\a.toList.map (·.key)=c
section
variable{s:bT}
def mI.typeIs(x:mI s.heap d e g):s.TypeIs (.ref d) "dict" :=let ⟨o,h,a,c,_⟩:=x;⟨o,a,c.1⟩
def mI.at(x:mI h d a c)(e:∀o,h.get? d=ae o->h'.get? d=ae o):mI h' d a c:=let ⟨o,g,i,r⟩:=x;⟨o,g,e _ i,r⟩
def mI.lt(x:mI h d c e):d<h.objs.size:=let ⟨_,_,a,_⟩:=x;b7 a
def OA(p:(d==lJ)=ag)(g:mI s.heap d h l)
  (m:Q (.ref s.heap.objs.size) {s with heap:=s.heap.push {cls:=.type "dict_keyiterator",data:=.fields #[.ref d,.int 0 0,.int (ao h) 0,.int l 0]}}):wpAny (aN i w) A (pyIter (.ref d)) Q E s:=by
 obtain⟨o,n,j,q,a,c⟩:=id g;have T:=g.typeIs;have e:n.size=ao h:=by grind
 refine wpAny_pyIter_slot T PySem.F.slot_dict_iter (nK PySem.F.slot_dict_iter T PySem.F.entry_dict_iter ?_ (PySem.F.args_dict_iter_1 _));refine ax (ax (Fy T (aP ?_)));show wpAny _ _ (IF d>>=_) _ _ s
 delta IF
 rw[if_neg aZ];refine ax (aP (ax (tJ j a (ax (rS j a (ax (nM (aP ⟨_,rfl, "dict_keyiterator",_,⟨_,dA _ aa,rfl⟩,Ds.lookup,?_⟩))))))));simpa[lK,e]using m
def OB(a:s.heap.IsKeyIter e d i (ao g) n)(v:mI s.heap d g n)(J:g[i]?=ae k)
  (y:∀p,p.IsKeyIter e d (i+1) (ao g) n->iw e s.heap p->Q (ae k) {s with heap:=p}):wpAny (aN u w) A (pyNext (.ref e)) Q E s:=by
 obtain⟨o,m,z,h⟩:=id a;obtain⟨L,q,j,B,l,r⟩:=id v;have H:q.size=ao g:=by grind
 have cr:i<q.size:=by grind
 have I:q[i].key=k:=by grind
 refine ax (BF (tu a.typeIs Ds (nK Ds a.typeIs OC ?_ (OD _))));refine ax (aP (ax (ax ?_)))
 first|refine ax (Fz a.typeIs (aP (ax (BG m h ?_))))|refine ax (FA a.typeIs (aP (ax (BG m h ?_))))
 show wpAny _ _ (if(cg d==lI)=af then _ else _) _ _ s;refine ax (aP (ax (tJ j l ?_)));rw[if_neg aZ];refine ax (aP (ax (rS j l ?_)));rw[if_neg aE];refine aP ?_;simp only[show¬(i<0) by omega,if_false,AD,lH cr];refine ax ?_
 first|refine ax (Fz a.typeIs (aP (ax (IG a.typeIs ?_))))|refine ax (FA a.typeIs (aP (ax (IG a.typeIs ?_))))
 show wpAny _ _ (setField (.ref e) 1 (lK (i+1))>>=_) _ _ s;refine ax (Dt m h aE (ax (gk ?_)))
 have c:(s.heap.update e (Obj.mapFields (·.setIfInBounds 1 (lK (i+1))))).IsKeyIter e d (i+1) (ao g) n:=
  ⟨_,sy _ m (Obj.isFreed_of_fields (FC h _)),(Obj.cls_mapFields ..).trans z,by rw[FC h];simp[lK]⟩
 refine ax (IG c.typeIs ?_);rw[I];exact aP (aP ⟨_,rfl,aP (y _ c (rT ..))⟩)
def OE(r:A.handled=ah)(a:s.heap.IsKeyIter g d i (ao h) u)(v:mI s.heap d h u)
  (y:∀n,Heap.ExtBut g s.heap n->Q ah {s with heap:=n}) (H:ao h<=i:=by exact bz _):wpAny (aN p w) A (pyNext (.ref g)) Q E s:=by
 obtain⟨o,j,I,l⟩:=id a;obtain⟨J,q,c,z,e,m⟩:=id v;have B:q.size=ao h:=by grind
 refine ax (BF (tu a.typeIs Ds (nK Ds a.typeIs OC ?_ (OD _))));refine ax (aP (ax (ax ?_)))
 first|refine ax (Fz a.typeIs (aP (ax (BG j l ?_))))|refine ax (FA a.typeIs (aP (ax (BG j l ?_))))
 show wpAny _ _ (if(cg d==lI)=af then _ else _) _ _ s;refine ax (aP (ax (tJ c e ?_)));rw[if_neg aZ];refine ax (aP (ax (rS c e ?_)));rw[if_neg aE];refine aP ?_;simp only[show¬((i:Int)<0) by omega,if_false,AD,Array.getElem?_eq_none (show q.size<=i by omega)];refine ax ?_
 first|refine ax (Fz a.typeIs (aP ?_))|refine ax (FA a.typeIs (aP ?_))
 show wpAny _ _ (setField (.ref g) 0 .none>>=_) _ _ s;refine ax (Dt j l aE ?_);refine ax ?_;refine ax (nM (ax (wpAny_of_eq (by first|rfl|(simp;rfl)) (nM ?_ (by size_fits)))) (by size_fits));refine ax (wpAny_handled ?_);rw[show A.in1.handled=ah from r];refine ax (aP (wpAny_throw ?_));refine ax (Cc ⟨_,dA _ aa,rfl⟩ isSubtype_stop ?_);exact aP (y _ (((rT ..).extBut.push _).push _))
def OF(lo:(d==lJ)=ag):KdlSrc y w "dict" d d c.length (λi v=>c[i]?=ae v) (λh=>mI h d c B) where
 type:=λx a=>a.typeIs
 there:=λx a=>⟨a.lt,a.lt⟩
 keep:=λx x a n=>a.at λo e=>n d (.inl aa) o e
 notList:=by decide
 notTuple:=by decide
 hint:=λx x x x a p=>kdl_hint_dict a.typeIs p
 iter:=λA s I a=>⟨_,(λi h=>h.IsKeyIter s.heap.objs.size d i (ao c) B/\mI h d c B),(λx x p=>OA lo a p),{
  sub:=λb g=>by simp at g;simp[g]
  frame:=λx x x st n=>⟨let ⟨o,J,r⟩:=st.1;⟨o,n _ aE o J,r⟩,st.2.at λo e=>n d aE o e⟩
  item:=λi t Q E L st j=>by
   have H:c[i]?=ae c[i]:=by simp[L]
   exact OB st.1 st.2 H λq l m=>j _ q t.toks H ⟨l,st.2.at λo e=>m.extBut d o (di a.lt) e⟩ λb o g e=>m.extBut b o (λz=>g (by simp[z])) e
  done:=λt Q E st j=>OE I st.1 st.2 λq u=>j q t.toks λb o g e=>u b o (λz=>g (by simp[z])) e
  self:=λx x x x st j=>wpAny_pyIter_keyiter st.1 j},⟨⟨_,dA _ aa,rfl,rfl⟩,a.at λo e=>cc _ e⟩⟩
end
abbrev Hd:=Str×Int
noncomputable def cr(a b:Hd):Bool:=if a.1=b.1 then decide (a.2<b.2)else decide (a.1.cps.toList<b.1.cps.toList)
def jhU{b:Str}(h:a.cps.toList=b.cps.toList):a=b:=by
 cases a;cases b
 simp_all
def uK(h:cr a b=af):cr b a=ag:=by
 delta cr at h ⊢
 grind
def VV(d:cr a b=af)(e:cr b c=af):cr a c=af:=by
 delta cr at d e ⊢
 grind
def VW(h:a≠b):cr a b=af\/cr b a=af:=by
 delta cr
 by_cases e:a.1=b.1
 .grind
 .rw[if_neg e,if_neg λz=>e z.symm];have:a.1.cps.toList≠b.1.cps.toList:=λz=>e (jhU z)
  grind
def lx(c:List Hd)(i j:Nat):Bool:=match c[i]?,c[j]? with
 |some a,ae b=>cr a b
 |_,_=>ag
def jcF(nd:g.Nodup):Ord (lx g) g.length where
 IC:=λi j h=>by
  delta lx at h ⊢
  cases c:g[i]? with
  |none=>rw[c]at h;cases h
  |some a=>
    cases d:g[j]? with
    |none=>rfl
    |some b=>rw[c,d]at h;exact uK h
 trans:=λi j k c d o l m=>by
  delta lx at l m ⊢
  rw[cW c,cW d]at l;rw[cW d,cW o]at m;rw[cW c,cW o];exact VV l m
 total:=λi j c d n=>by
  delta lx
  rw[cW c,cW d];refine VW λe=>?_
  have p:=Dp.mp nd;rcases Nat.lt_or_gt_of_ne n with z|z
  .exact p i j c d z e
  .exact p j i d c z e.symm
def pY(h:Heap)(v:aJ)(a:Hd):Prop:=∃b o n t u,v=.ref b/\h.get? b=ae o/\o.cls=.type "tuple" /\o.data=.seq #[.str a.1 t,.int a.2 u] n
section
def jlF(g:s.heap.get? x=ae i)(dx:i.data=.seq #[.str a.1 t,.int a.2 u] n)(j:s.heap.get? y=ae l)(o:l.data=.seq #[.str b.1 q,.int b.2 r] m)(h:Q (cr a b) s):
   wpAny (aN d w) A (keyLt' (tuples' af) (.ref x) (.ref y)) Q E s:=by
 refine kat_lt g dx j o ?_;refine kat_cons (eqBool_str (kat_go (λe=>kat_yes (kat_cons (wpAny_eqBool_int (kat_go (λe2=>kat_yes (kat_nil ?_)) λe2=>kat_no (kat_one _ _ (wpAny_lt_int ?_)))))) λe=>kat_no (oneLt_str ?_)))
 .have c:a.1=b.1:=by simpa using e
  have p:a.2=b.2:=by simpa using e2
  have:cr a b=ag:=by delta cr;rw[if_pos c];simp[p]
  rw[this]at h;exact h
 .have c:a.1=b.1:=by simpa using e
  have:cr a b=aD (a.2<b.2):=by delta cr;rw[if_pos c]
  rw[this]at h;exact(show Q (aD (a.2<b.2)) s from h)
 .have c:a.1≠b.1:=by simpa using e
  have:cr a b=aD (a.1.cps.toList<b.1.cps.toList):=by delta cr;rw[if_neg c]
  rw[this]at h;exact h
def pY.keep(x:pY h v a)(k:∀b o,h.get? b=ae o->o.cls=.type "tuple" ->d.get? b=ae o):pY d v a:=
 by obtain⟨b,o,n,t,u,e,g,c,hd⟩:=x;exact⟨b,o,n,t,u,e,k b o g c,c,hd⟩
inductive dc(h:Heap):List aJ->List Hd->Prop where
 |nil:dc h [] []
 |cons {v:aJ} {a:Hd} {vs:List aJ} {hs:List Hd}:pY h v a->dc h vs hs->dc h (v::vs) (a::hs)
def dc.length:∀{vs}{hs},dc h vs hs->vs.length=hs.length:=by
 intro _ _ r
 induction r with
 |nil=>rfl
 |cons _ _ a=>exact congrArg Nat.succ a
theorem dc.keep(k:∀b o,h.get? b=ae o->o.cls=.type "tuple" ->d.get? b=ae o):∀{a}{c},dc h a c->dc d a c
 |_,_,.nil=>.nil
 |_,_,.cons x t=>.cons (x.keep k) (t.keep k)
def dc.get:∀{c}{d}{i}{a},dc h c d->d[i]?=ae a->pY h (c.getD i lI) a:=by
 intro _ _ i a r
 induction r generalizing i with
 |nil=>intro e;cases e
 |cons x _ g=>
  cases i with
  |zero=>intro e;cases e;exact x
  |succ i=>exact g
theorem dc.ee:∀{a}{c},dc h a c->∃fs,KatTups h a fs/\fs.length=a.length/\∀f∈fs,∃z t,f=.str z t
 |_,_,.nil=>⟨[],KatTups.nil,rfl,λy z=>nomatch z⟩
 |_,_,.cons x r=>by
  obtain⟨fs,d,e,g⟩:=r.ee;obtain⟨b,o,n,t,u,rfl,i,j,hd⟩:=x
  exact⟨_::fs,KatTups.cons i j hd aa d,by simp[e],λf hf=>by
   rcases cM.mp hf with rfl|hf
   .exact⟨_,_,rfl⟩
   .exact g f hf⟩
def jc8:Looks M h (typeOf (.str z t)) (.type "str"):=Looks.of_pure aa
def jaK(L:s.heap.get? a=ae (i7 "list" d.toArray n))(N:dc s.heap d g)(nd:g.Nodup)(U:2<=d.length)(y:d.length<64)
   (h:∀p B c,Pm p d.length->Up (lx g) p d.length->(∀b o,b≠a->s.heap.get? b=ae o->B.get? b=ae o)->B.get? a=ae (i7 "list" (BE (kA d p)) c)->P (.done (.ret .none)) {s with heap:=B}):
   wpAny (aN O w) A (mF.«list.sort» ⟨[.ref a],[]⟩) P E s:=by
 have Y:=N.length
 have keep:∀b o,s.heap.get? b=ae o->o.cls=.type "tuple" ->(xN s.heap a d).get? b=ae o:=λb o e hc=>Za (λz=>by
   subst z;rw[L]at e;cases e;simp[i7]at hc) e
 have l:=N.keep keep;obtain⟨fs,k1,k2,k3⟩:=l.ee;refine Kd (by rw[Y];exact jcF nd) (tuples' (vu "str" !=vu "tuple")) L U y (λQ q=>?_) (λi j C hi hj hC=>?_) h
 .exact kat_kind k1 ak (λf hf=>by obtain⟨z,t,rfl⟩:=k3 f hf;exact jc8) aa q
 .have r:i<g.length:=by omega
  have v:j<g.length:=by omega
  obtain⟨b,o,m,t,u,e1,H,_,I⟩:=l.get (cW r);obtain⟨b',o',m',t',u',e2,J,_,hd2⟩:=l.get (cW v);show wpAny _ _ (keyLt' _ (d.getD i lI) (d.getD j lI)) C _ _;rw[e1,e2];refine jlF H I J hd2 ?_;have:lx g i j=cr g[i] g[j]:=by delta lx;rw[cW r,cW v]
  simp_all
end
section
variable{Y:List aJ}
def jeT(i:s.heap.get? a=ae (i7 "list" Y.toArray n))(y:Y.length<2)
  (h:∀j c,(∀b o,b≠a->s.heap.get? b=ae o->j.get? b=ae o)->j.get? a=ae (i7 "list" Y.toArray c)->P (.done (.ret .none)) {s with heap:=j}):
  wpAny (aN r w) A (mF.«list.sort» ⟨[.ref a],[]⟩) P E s:=by
 obtain⟨l,u⟩:∃l,(s.heap.update a (lM λx=>(#[]:Array aJ))).get? a=ae (i7 "list" #[] l):=⟨_,Fx i λx=> #[]⟩
 have m:(xN s.heap a Y).get? a=ae (i7 "list" #[] l):=cc _ (cc _ u);have big:Y.length<=ba:=by rw[my];omega
 rw[list_sort_plain];refine ax (listItems_at i aa (ax (listUpdate_at i aa (ax (seqEpoch_at u aa (ax (wpAny_newTuple (ax (wpAny_newList (gk ?_) (fH _))) (by show Y.length<=ba;exact big))))) (by rw[eW];exact big) (fH _))));dsimp only;have d:Y.toArray.size<2:=by rw[eW];omega
 rw[if_pos d,if_pos d];refine ax (aP (ax (aP ?_)));dsimp only
 have g:(arrOf (SortSt.mk' general' (Y.toArray.zip Y.toArray) #[] 7 ah)).map (·.2)=Y.toArray:=by
  apply Array.toList_inj.mp;simp[List.map_snd_zip]
 rw[g];obtain⟨p,q⟩:∃p,((xN s.heap a Y).update a (lM λx=>Y.toArray)).get? a=ae (i7 "list" Y.toArray p):=⟨_,Fx m λx=>Y.toArray⟩
 refine ax (seqEpoch_at m aa (ax (listUpdate_at m aa ?_ (fH _) (by rw[eW];exact Nat.le_succ_of_le big))));simp;exact aP (h _ p (λb o v e=>(sA _ _ (gM v)).trans (Za v e)) q)
end
noncomputable def nh(a:Hd):List Hd->List Hd
 |[]=>[a]
 |b::r=>if cr a b=af then a::b::r else b::nh a r
def Zb(a:List Hd):List Hd:=a.foldr nh []
theorem W3(a):∀l,(nh a l).Perm (a::l)
 |[]=>List.Perm.refl _
 |b::r=>by
  unfold nh
  split
  .simp_all
  .exact((W3 a r).cons b).trans (List.Perm.swap a b r)
theorem yG:∀c,(Zb c).Perm c
 |[]=>List.Perm.refl _
 |a::r=>(W3 a (Zb r)).trans ((yG r).cons a)
set_option tactic.hygienic true in
theorem jiZ:∀{l},l.Pairwise (λx y=>cr x y=af)->a∉l->(nh a l).Pairwise (λx y=>cr x y=af):=
 @(
  bv (λu u=>by simp[nh]) λb r j h m=>by
  have i:=AE.mp h;unfold nh
  by_cases e:cr a b=af
  .rw[if_pos e];refine AE.mpr ⟨λc d=>?_,h⟩;rcases cM.mp d with z|z
   .simp_all
   .exact VV e (i.1 c z)
  .rw[if_neg e];have g:a≠b:=by simp_all
   have n:=(VW g).resolve_left e;refine AE.mpr ⟨λc d=>?_,j i.2 λz=>m (by simp[z])⟩;rcases cM.mp ((W3 a r).mem_iff.mp d)with z|z
   all_goals simp_all)
def jeV:∀{c},c.Nodup->(Zb c).Pairwise (λx y=>cr x y=af):=
 @(
  bv (λu=>Iq) λa r e h=>by
  have d:=rJ.mp h
  exact jiZ (e d.2) λz=>d.1 ((yG r).mem_iff.mp z))
theorem Va:∀{l m:List Hd},l.Pairwise (λx y=>cr x y=af)->m.Pairwise (λx y=>cr x y=af)->l.Perm m->l=m
 |[],_,_,_,_|a::_,[],_,_,_=>by simp_all
 |a::l,b::m,h,i,p=>by
  have c:=AE.mp h;have d:=AE.mp i
  have e:a=b:=by
   by_cases z:a=b
   .exact z
   .have j:a∈b::m:=p.mem_iff.mp aE;have n:b∈a::l:=by grind
    have o:=c.1 b ((cM.mp n).resolve_left λy=>z y.symm);have g:=d.1 a ((cM.mp j).resolve_left z);rw[uK o]at g;cases g
  subst e;rw[Va c.2 d.2 (List.perm_cons a|>.mp p)]
inductive F2{α β:Type}(R:α->β->Prop):List α->List β->Prop where
 |nil:F2 R [] []
 |cons {a b as bs}:R a b->F2 R as bs->F2 R (a::as) (b::bs)
def F2.length:∀{as}{bs},F2 R as bs->as.length=bs.length:=by
 intro _ _ r
 induction r with
 |nil=>rfl
 |cons _ _ a=>exact congrArg Nat.succ a
def F2.get:∀{a}{bs}{i},F2 R a bs->i<bs.length->R (a.getD i d) (bs.getD i e):=by
 intro _ _ i r
 induction r generalizing i with
 |nil=>intro h;cases h
 |cons x _ c=>
  cases i with
  |zero=>exactλy=>x
  |succ i=>exactλh=>c (Nat.lt_of_succ_lt_succ h)
def F2.map{α c a:Type}{R}{f:a->α}{g:a->c}:∀{l:List a},(∀x∈l,R (f x) (g x))->F2 R (l.map f) (l.map g):=
 @(bv (λz=>.nil) λx l d h=>.cons (h x aE) (d λy e=>h y (by simp[e])))
def jcE(nd:a.Nodup)(c:Pm p a.length)(l:Up (lx a) p a.length):p.toList.map (λi=>a.getD i ("",0))=Zb a:=by
 have e:∀i∈p.toList,i<a.length:=λi g=>iD.mp (c.perm.mem_iff.mp g)
 refine Va ?_ (jeV nd) ?_
 .rw[AF,Dp];intro i j g n d;have o:p.toList.length=a.length:=by rw[gW,c.size]
  have:=l i j d ak;have e1:dM p i=p.toList[i]:=by simp[dM,Array.getD,c.size,show i<a.length by omega]
  have e2:dM p j=p.toList[j]:=by simp[dM,Array.getD,c.size,show j<a.length by omega]
  unfold lx at this
  simp_all
 .have h:=c.perm.map (λi=>a.getD i ((""),(0)))
  have m:(gH a.length).map (λi=>a.getD i ("",0))=a:=by
   apply Ca
   grind
  rw[m]at h;exact h.trans (yG a).symm
def jb3(h:c.length<2):Zb c=c:=by
 rcases c with _|⟨a,_|⟨b,l⟩⟩
 .rfl
 .rfl
 .exact absurd h (Nat.not_lt.mpr (ma _ _))
section
def jeU(q:s.heap.get? a=ae (i7 "list" g.toArray n))(u:dc s.heap g j)(nd:j.Nodup)(l:g.length<64)
   (h:∀(v) d c,(∀R,F2 R g j->F2 R v (Zb j))->(∀b o,b≠a->s.heap.get? b=ae o->d.get? b=ae o)->d.get? a=ae (i7 "list" v.toArray c)->P (.done (.ret .none)) {s with heap:=d}):
   wpAny (aN y w) A (mF.«list.sort» ⟨[.ref a],[]⟩) P E s:=by
 have B:=u.length
 by_cases H:g.length<2
 .exact jeT q H λd c k e=>h g d c (λR r=>by rw[jb3 ak];exact r) k e
 .refine jaK q u nd ak l λp d c m z k e=>h _ d c (λR r=>?_) k e
  rw[B]at m z;rw[<-jcE nd m z];exact F2.map λi I=>r.get (iD.mp (m.perm.mem_iff.mp I))
end
section
def U1{Q:Wo}(q:dc t.heap a j)(nd:j.Nodup)(m:ao a<64)
  (h:∀(i) d c,(∀R,F2 R a j->F2 R i (Zb j))->(∀b o,t.heap.get? b=ae o->d.get? b=ae o)->d.get? t.heap.objs.size=ae (i7 "list" i.toArray c)->Q (.ref t.heap.objs.size) {t with heap:=d}):
  wpAny (aN p w) A (newList a>>=λl=>mS [l] (call (.builtin "list.sort") [l] [])>>=λx=>ret l) (λn u=>∃v,n=.done (.ret v)/\Q v u) E t:=by
 have g:(t.heap.push (i7 "list" a.toArray 0)).get? t.heap.objs.size=ae (i7 "list" a.toArray 0):=dA _ aa;refine ax (wpAny_newList (ax (gk ?_)) (by rw[my];omega));refine nK slot_list_sort ⟨_,g,rfl⟩ entry_list_sort ?_ (args_list_sort _);refine jeU g (q.keep λb o e x=>cc _ e) nd m λi d c r k e=>⟨_,rfl,aP ⟨_,rfl,h i d c r (λb o e2=>k b o (λz=>?_) (cc _ e2)) e⟩⟩
 exact rC _ (by have:=b7 e2;rw[z]at this;exact this)
end
end M
namespace M
open PySem PySem.Spec L2
open PyProof.Rows hiding St
section
section
variable{Q O:Type}{R:Q->O->Prop}
def F2.cv(r:F2 R (a::l) n):∃b m,n=b::m/\R a b/\F2 R l m:=by cases r;exact⟨_,_,rfl,by assumption,by assumption⟩
def F2.eM(r:F2 R l (b::n)):∃a m,l=a::m/\R a b/\F2 R m n:=by cases r;exact⟨_,_,rfl,by assumption,by assumption⟩
def F2.fJ(r:F2 R l []):l=[]:=by cases r;rfl
def F2.pF(r:F2 R [] n):n=[]:=by cases r;rfl
def tK(r:mR R (a::l) n):∃b m,n=b::m/\R a b/\mR R l m:=by cases r;exact⟨_,_,rfl,by assumption,by assumption⟩
def BH(r:mR R [] n):n=[]:=by cases r;rfl
end
def BI(H:Hp)(x:V)(a:Hd):Prop:=∃b,x=.ref b/\H b=ae (.ap [.str a.1,.int a.2])
def jmW{i:L2.St}(I:aK X g i H s):∀{d}{c}{e},aW d c->F2 (BI H) d e->dc s.heap c e/\F2 (λv a=>∃b,v=cg b/\H b=ae (.ap [.str a.1,.int a.2])) c e:=
 @(
  bv (@(λx x r f=>by cases BH r;cases f.pF;exact⟨.nil,.nil⟩)) λy d j x x r f=>by
  obtain⟨_,_,rfl,r,l⟩:=tK r;obtain⟨_,_,rfl,⟨b,rfl,h⟩,m⟩:=f.cv;obtain⟨p,q⟩:=j l m;cases r;obtain⟨_,c,w,o,z,B,n,E⟩:=(I.be b _ h)
  obtain⟨_,_,rfl,⟨t,rfl⟩,J⟩:=tK w;obtain⟨_,_,rfl,⟨u,rfl⟩,L⟩:=tK J;cases BH L
  exact⟨.cons ⟨b,o,n,t,u,rfl,z,B,E⟩ p,.cons ⟨b,rfl,h⟩ q⟩)
theorem OG:∀{e}{d},F2 (λv a=>∃b,v=cg b/\H b=ae (.ap [.str a.1,.int a.2])) e d->∃c,aW c e/\F2 (BI H) c d
 |_,[],f=>by cases f.fJ;exact⟨[],.nil,.nil⟩
 |_,a::d,f=>by
  obtain⟨_,_,rfl,⟨b,rfl,g⟩,t⟩:=f.eM;obtain⟨c,h,i⟩:=OG t;exact⟨.ref b::c,.cons aa h,.cons ⟨b,rfl,g⟩ i⟩
end
mutual
noncomputable def iN:D->Option NK
 |.int i=>ae (.int i)
 |.str x=>ae (.str x)
 |.ap a=>match dk a with
  |some l=>ae (.ap l)
  |none=>ah
 |.bo|.bl _|.al _|.dw _|.cG _ _|.bw _ _|.eX _|.gK _ _|.bV _ _|.obj _ _ _=>ah
noncomputable def dk:List D->Option (List NK)
 |[]=>ae []
 |d::a=>match iN d,dk a with
  |some k,ae l=>ae (k::l)
  |_,_=>ah
end
mutual
def NK.short:NK->Bool
 |.int _=>af
 |.str x=>aD (x.length<=ba)
 |.ap l=>NK.bD l
def NK.bD:List NK->Bool
 |[]=>af
 |k::l=>NK.short k&&NK.bD l
end
def jbf(h:dk (d::a)=ae l):∃k r,l=k::r/\iN d=ae k/\dk a=ae r:=by
 have h:(match iN d,dk a with|some k,ae l=>ae (k::l)|_,_=>ah)=ae l:=h
 grind
def uA(h:dk a=ae l):iN (.ap a)=ae (.ap l):=congrArg (λz:Option (List NK)=>match z with|some l=>ae (NK.ap l)|none=>ah) h
def jiM(h:iN d=ae k)(c:dk a=ae l):dk (d::a)=ae (k::l):=by
 show(match iN d,dk a with|some k,ae l=>ae (k::l)|_,_=>ah)=_;rw[h,c]
section
set_option tactic.hygienic true in
theorem Kg(d):∀k,iN d=ae k->d.lN=af/\(∀A v,aV j A H v d->fX H k v)/\(k.short=af->∀A v,fX H k v->aV j A H v d):=by
 refine D.ind (P:=λd=>∀k,iN d=ae k->d.lN=af/\(∀A v,aV j A H v d->fX H k v)/\(k.short=af->∀A v,fX H k v->aV j A H v d)) ?_ ?_ ?_ ?_ ?_ ?_ ?_ ⟨?_,?_,?_,?_,?_,?_⟩ d
 case refine_3=>
  intro i k h;cases h;exact⟨rfl,λA v r=>by simp only[fX];exact r.eG,λb A v x=>by simp only[fX]at x;subst x;exact .int i⟩
 case refine_4=>
  intro z k h;cases h;exact⟨rfl,λA v r=>by simp only[fX];exact r.ln.1,λs A v x=>by simp only[fX]at x;subst x;exact .str z (by simpa[NK.short]using s)⟩
 case refine_5=>
  intro c E k h
  have go:∀(c:List D)(l:List NK),(∀d∈c,∀k,iN d=ae k->d.lN=af/\(∀A v,aV j A H v d->fX H k v)/\(k.short=af->∀A v,fX H k v->aV j A H v d))->dk c=ae l->
     D.f9 c=af/\(∀A g,ay j A H g c->ff H l g)/\(NK.bD l=af->∀A g,ff H l g->ay j A H g c):=by
   intro c
   induction c with
   |nil=>
     intro l _ h;cases h;exact⟨rfl,λA g r=>by cases r;simp only[ff],λb A g x=>by simp only[ff]at x;subst x;exact .nil⟩
   |cons d c m=>
     intro l f h;obtain⟨k,r,rfl,e1,e2⟩:=jbf h;obtain⟨I,J,L⟩:=f d g8 k e1;obtain⟨n,o,p⟩:=m r (λq N=>f q (g9 _ N)) e2;refine⟨by simp[D.f9,I,n],λA g r=>?_,λs A g x=>?_⟩
     .cases r with
      |cons O Q=>simp only[ff];exact⟨_,_,rfl,J _ _ O,o _ _ Q⟩
     .simp only[ff]at x;simp only[NK.bD,fD]at s;obtain⟨u,U,rfl,Y,h2⟩:=x;exact .cons (L s.1 A u Y) (p s.2 A U h2)
  have h:(match dk c with|some l=>ae (NK.ap l)|none=>ah)=ae k:=h
  cases e:dk c with
  |some l=>
   rw[e]at h;cases h;obtain⟨n,o,p⟩:=go c l E e;refine⟨n,λA v r=>?_,λs A v x=>?_⟩
   .obtain⟨a,w,rfl,B,rs⟩:=r.fK;simp only[fX];exact⟨a,w,rfl,B,o _ _ rs⟩
   .simp only[fX]at x;obtain⟨a,w,rfl,B,y⟩:=x;exact .ap B (p (by simpa only[NK.short]using s) A w y)
  |none=>rw[e]at h;cases h
 all_goals
  intros
  rename_i h;cases h
end
def Du:LD->Option (List dY)
 |[]=>ae []
 |d::r=>match pX d,Du r with
  |some k,ae a=>ae (k::a)
  |_,_=>ah
def sF:D->Option (List dY)
 |.ap a=>Du a
 |_=>ah
def bW:D->Option (List NK)
 |.ap a=>match dk a with
  |some l=>if NK.de l+1<=8 then ae l else ah
  |none=>ah
 |_=>ah
def dG(a:List (List NK))(k:List NK):Bool:=a.any λx=>aD (x=k)
def xx(a:List (List NK))(k:List NK):List (List NK):=if dG a k=af then a else a++[k]
def Ws(a:List (List NK))(c:LD)(k:List NK)(d:D):LD:=if dG a k=af then(a.zip c).map (λp=>if p.1=k then d else p.2)else c++[d]
section
variable{Y:bK}{A:Wp}
set_option tactic.hygienic true in
theorem jfX:∀{e}{a:LD}{c},ay Y A H e a->Du a=ae c->e=c.map kV:=
 @(
  bv (@(λx c r h=>by cases r.fJ;cases h;rfl)) λv e g x c r h=>by
  obtain⟨d,a,rfl,r,t⟩:=r.cv;unfold Du at h
  cases e1:pX d with
  |none=>simp_all
  |some k=>
   cases e2:Du a with
   |none=>simp_all
   |some i=>
    rw[e1,e2]at h;cases h
    rw[Ou r e1,g t e2];rfl)
def jfZ(r:aV Y A H y d)(h:sF d=ae k):∃b,y=.ref b/\H b=ae (.ap (k.map kV)):=by
 cases d<;>try exact rO h
 obtain⟨_,_,rfl,e,a⟩:=r.f;exact⟨_,rfl,by rw[e,jfX a h]⟩
def jfY(h:bW d=ae k):∃a,d=.ap a/\dk a=ae k/\NK.de k+1<=8:=by
 delta bW at h
 grind
def xj(r:aV Y A H y d)(h:bW d=ae k):∃b,y=.ref b/\TK H k b:=by
 obtain⟨c,rfl,e,a⟩:=jfY h;have x:=(Kg _ _ (uA e)).2.1 A y r;obtain⟨b,g,rfl,_,_⟩:=r.fK;exact⟨b,rfl,x,a⟩
def KZ(a:List (List NK×V))(k):(a.any λc=>aD (c.1=k))=dG (a.map (·.1)) k:=by
 delta dG;rw[Ay];rfl
theorem Vn(k)(e:aV Y A H v d):∀{a:List (List NK×V)}{g:LD},ay Y A H (a.map (·.2)) g->ay Y A H ((a.map (λc=>if c.1=k then(c.1,v)else c)).map (·.2)) (((a.map (·.1)).zip g).map (λp=>if p.1=k then d else p.2))
 |[],_,r=>by cases r.fJ;exact .nil
 |(i,n)::a,_,r=>by
  obtain⟨_,_,rfl,j,l⟩:=r.cv;have m:=Vn k e l
  by_cases h:i=k
  .simp only[fI,Az,h,if_true];exact .cons e bg
  .simp only[fI,Az,h,if_false];exact .cons j m
def vS(k)(r:ay Y A H (a.map (·.2)) e)(c:aV Y A H v d):
   (putK a k v).map (·.1)=xx (a.map (·.1)) k/\ay Y A H ((putK a k v).map (·.2)) (Ws (a.map (·.1)) e k d):=by
 delta putK xx Ws
 rw[KZ]
 by_cases h:dG (a.map (·.1)) k=af
 .rw[if_pos h,if_pos h,if_pos h];refine⟨?_,Vn k c r⟩;rw[dF];apply AA;intro p _;simp
  split<;>rfl
 .rw[if_neg h,if_neg h,if_neg h];refine⟨by simp,?_⟩;rw[lP];exact r.append (.cons c .nil)
def aV.sG(r:aV Y A H v (.bw e g)):∃a d,v=.ref a/\H a=ae (.dT d)/\A a/\d.map (·.1)=e/\ay Y (λc=>A c/\c≠a) H (d.map (·.2)) g:=r.f
end
def WB{i:Nat}(k:aH g G q env d H)(h:env[i]?=ae (.aG (.bw j l))):∃a c,d[i]?=ae (ae (.ref a))/\H a=ae (.dT c)/\c.map (·.1)=j/\ay g (Sf G env d) H (c.map (·.2)) l:=by
 obtain⟨a,m,u,n⟩:=k.aG i _ h
 cases n with
 |bw e o p r=>subst p;exact⟨a,_,m,e,o,r⟩
def oG(i:Nat)(env:Sl):aw (List (List NK)×LD):=match env[i]? with
 |some (.aG (.bw a c))=>.ok (a,c)
 |_=>.am
def jfl(h:oG i env=.ok p):env[i]?=ae (.aG (.bw p.1 p.2)):=by
 delta oG at h
 split at h
 .cases h;assumption
 .cases h
section
variable{U:bK}
def Dv:Sl->aw D:=λx=>.ok (.bw [] [])
def QV:DE X .t (.Dict [] [] c) Dv:=by
 nomatch (PE.imp ug<|by
  rintro h H Q ⟨G,i,e,d,k,g,q⟩;cases g
  exactλp a=>q _ _ (aA.aQ a) (.bw jv (k.new p a) aa aa .nil) (qX (aA.refl H) a))
def Zr(i:Nat)(c fv:T3):Sl->aw br:=λa=>oG i a>>=λq=>fv a>>=λd=>c a>>=λe=>match bW e with
 |some k=>bh (q.1.length<ba) (.ok (.nx (a.set i (.aG (.bw (xx q.1 k) (Ws q.1 q.2 k d))))))
 |none=>.am
def Z7(i)(hu:X.A.units+20<cLine)(hk:DE X l1 e1 fk)(hv:DE X .s e2 fv)(hN:X.N[i]?=ae x:=by rfl)(z:gj X.V.scope x:=by exact dC aa)
   (hd:YG x:=by decide) (B:YF x:=by decide)
   (hs:kw e2 (ae (.Subscript (.Name x p) e1 g)) I.line X.V=pure ag:=by rfl):
   DS X (.Assign [.Subscript (.Name x p) e1 g] e2 I) (Zr i fk fv):=by
 nomatch (
  PS.imp (kj hu (zC hN z hd B) hk hv hs)<|by
   rintro E σ H ⟨G,L,h,o,k,j,q⟩;obtain⟨ks,c1,j⟩:=je j;obtain⟨d,c2,j⟩:=je j;obtain⟨N,c3,u⟩:=je j;have O:=jfl c1;obtain⟨a,J,Q,hx,l,rs⟩:=WB k O
   cases c:bW N with
   |none=>rw[c]at u;cases u
   |some kk=>
    rw[c]at u;obtain⟨Y,c5⟩:=jE u;cases c5;refine⟨G,L,h,d,k,c2,λv H1 m r1 f=>⟨.ref a,Q,G,L,h,N,k.aB m,c3,λy H2 n r2 f=>?_⟩⟩;have r:=n _ _ (m _ _ hx);obtain⟨b,rfl,hb⟩:=xj (r2.aS Lv.bA) c;have hl:ao J<ba:=by rw[<-l,cX]at Y;exact Y
    refine⟨a,_,rfl,iI.t r hb hl,?_⟩;obtain⟨p1,p2⟩:=vS kk ((rs.aB m).aB n) (r1.aB n);rw[l]at p1 p2;have W:=((k.aB m).aB n).ls O Q r trivial λA' H' st e w=>.bw e p1 aa (p2.bq st w)
    exact q σ _ W.1 ((W.2.aB n).aB m))
def bn(a:Hd):D:=.ap [.str a.1,.int a.2]
def jkv(c:List Hd):Bool:=c.all λa=>aD (a.1.length<=ba)
theorem OH:∀{d}{c},F2 (BI H) d c->(∀a∈c,a.1.length<=ba)->ay U A H d (c.map bn)
 |_,[],f,_=>by cases f.fJ;exact .nil
 |_,a::c,f,h=>by
  obtain⟨_,_,rfl,⟨b,rfl,e⟩,t⟩:=f.eM;exact .cons (.ap e (.cons (.str _ (h _ aE)) (.cons (.int _) .nil))) (OH t λa g=>h a (by simp[g]))
end
def bf(a:Hd):List NK:=[.str a.1,.int a.2]
def jmt(h:TK H (bf a) b):H b=ae (.ap [.str a.1,.int a.2]):=by
 obtain⟨h,_⟩:=h;simp only[bf,fX,ff]at h
 simp_all
section
theorem X7:∀{d}{g}{c},KT H d g->d.map (·.1)=c.map bf->F2 (BI H) (g.map λq=>V.ref q.2.1) c
 |_,_,c,.nil,e=>by
  cases c with
  |nil=>exact .nil
  |cons a r=>cases e
 |_,_,c,.cons h t,e=>by
  cases c with
  |nil=>cases e
  |cons a r=>
   simp at e;have i:=h.2.1;rw[e.1]at i;refine .cons ⟨_,rfl,jmt i⟩ (X7 t e.2)
def Wq:∀(l:List ar),aW (l.map V.ref) (l.map cg):=
 bv (.nil) λa l c=>.cons aa (c)
def UD(Y:X.bU=af):bG X (.builtin "sorted") (λJ H Q=>∃a g j,J=[.ref a]/\H a=ae (.dT g)/\g.map (·.1)=j.map bf/\j.Nodup/\j.length<64/\∀l v,H l=ah->F2 (BI H) v (Zb j)->Q (.ref l) (aQ H l (.al v))):=by
 intro w s σ H J v Q I r h;obtain⟨a,g,j,rfl,ha,hk,nd,h64,q⟩:=h;obtain⟨u,rfl,rx⟩:=Jw r;cases rx;obtain⟨hz,lo,m,hp,o,es,ep,ho,hx,hd,he,_⟩:=(I.be a _ ha)
 have L:=X7 hp hk
 have hV:aW (m.map λq=>V.ref q.2.1) (m.map λq=>cg q.2.1):=by
  have:=Wq (m.map λq=>q.2.1);simpa[dF,tL]using this
 obtain⟨hA,hR⟩:=jmW I hV L;have N:m.length=j.length:=by simpa using L.length
 have hD:mI s.heap a (m.map λq=>cg q.2.1) ep:=⟨o,es,ho,hx,hd,by rw[he,dF];rfl⟩
 refine Calls.call_function_entry kind_sorted plain_sorted entry_sorted (args_sorted1 _) ?_;refine ax (aP (ax (PySem.W.kdu_collect (OF lo) (I.ok.hd Y) hD (by rw[cX,my];omega) λh' tk n y d=>?_)))
 have p:n.toList=m.map λq=>cg q.2.1:=by
  apply Ca;intro i;have hl:n.toList.length=(m.map λq=>cg q.2.1).length:=by rw[gW];exact d.1
  by_cases hi:i<n.toList.length
  .rw[cW hi];exact(d.2 i _ aZ).symm
  .simp_all
 rw[p];refine U1 (hA.keep λb o e x=>y b o e) nd aZ λv h2 c z k e=>?_
 obtain⟨B,v1,O⟩:=OG (z _ hR);have U:aK X w σ H {s with heap:=h',toks:=tk}:=I.kept y
 have E:B.length<=ba:=by
  have a1:=O.length;have a2:=(yG j).length_eq;rw[my];omega
 exact⟨.ref _,_,U.laid k (bz _) (show bC X.P X.w _ h2 _ (.al B) from⟨E,v,c,v1,e⟩),rfl,q _ B (U.be.fresh (bz _)) O⟩
def IH:List NK->Option Hd
 |[.str z,.int k]=>ae (z,k)
 |_=>ah
def QM:List (List NK)->Option (List Hd)
 |[]=>ae []
 |d::r=>match IH d,QM r with
  |some a,ae c=>ae (a::c)
  |_,_=>ah
set_option tactic.hygienic true in
theorem jdG:∀{e}{c},QM e=ae c->e=c.map bf:=
 @(
  bv (@(λc h=>by cases h;rfl)) λd r g c h=>by
  unfold QM at h
  cases e1:IH d with
  |none=>simp_all
  |some a=>
   cases e2:QM r with
   |none=>simp_all
   |some i=>
    rw[e1,e2]at h;cases h;rw[g e2];unfold IH at e1
    split at e1
    .cases e1;rfl
    .cases e1)
def YA:LD->aw D
 |[.bw c _]=>match QM c with
  |some a=>bh (a.Nodup/\ao a<64/\jkv a=af) (.ok (.al ((Zb a).map bn)))
  |none=>.am
 |_=>.am
set_option tactic.hygienic true in
theorem jbz:Xo N (λw H Q=>∃a g h,w=[.ref a]/\H a=ae (.dT g)/\g.map (·.1)=h.map bf/\h.Nodup/\ao h<64/\∀l j,H l=ah->F2 (BI H) j (Zb h)->Q (.ref l) (aQ H l (.al j))) YA:=by
 intro A w H O d Q r e q;unfold YA at e
 split at e
 .rename_i B U
  cases y:QM B with
  |none=>simp_all
  |some h=>
   rw[y]at e;obtain⟨⟨nd,m,n⟩,e2⟩:=jE e;cases e2;obtain⟨v,rfl,E⟩:=r.one;obtain⟨p,g,rfl,I,_,o,_⟩:=E.sG;refine⟨p,g,h,rfl,I,by rw[o];exact jdG y,nd,m,λl j i J=>q _ _ (aA.aQ i) (.al jv (.inl i) ?_) (qX (aA.refl H) i)⟩
   have u:∀a∈Zb h,a.1.length<=ba:=λa L=>by
    have:=nF.mp n a ((yG h).mem_iff.mp L)
    simp_all
   exact((OH (A:=λx=>False) J u).aB (aA.aQ i)).aS λc z=>z.elim
 .cases e
end
section
variable{prog:fW}{w:World}{A:hJ}{E:Wo}{s:bT}
theorem vI:∀{c}{g},aW (c.map V.int) g->ao g=ao c/\∀i v,g[i]?=ae v->∃t,v=Value.int (c.getD i 0) t
 |[],_,.nil=>⟨rfl,λi v h=>by cases h⟩
 |i::c,_,.cons h t=>by
  obtain⟨a,b⟩:=vI t;refine⟨by simp[a],λj v d=>?_⟩
  cases j with
  |zero=>
   simp at d;subst d;obtain⟨t,e⟩:=h;exact⟨t,by rw[e];rfl⟩
  |succ j=>simp at d;simpa using b j v d
end
def WX:LD->Option (List Int)
 |[]=>ae []
 |.int b::r=>(WX r).map (b:: ·)
 |_=>ah
def Yi:∀{a}{bs},WX a=ae bs->a=bs.map D.int:=
 @(
  bv (@(λbs h=>by cases h;rfl)) λd r c bs h=>by
  cases d with
  |int b=>
   simp only[WX,CH]at h;obtain⟨e,g,rfl⟩:=h;rw[c g];rfl
  |_=>exact rO h)
def jds(bs):WX (bs.map D.int)=ae bs:=by
 induction bs with
 |nil=>rfl
 |cons b r a=>simp[WX,a]
section
def Vm:∀{bs:List Int}{a},ay d A H a (bs.map D.int)->a=bs.map V.int:=by
 intro bs
 induction bs with
 |nil=>exactλr=>r.pF
 |cons b bs c=>intro _ r;obtain⟨v,e,rfl,h,t⟩:=r.eM;rw[h.eG,c t];rfl
end
open PySem.SeqAt
section
def jh3{H}:∀{c}{e:LD}{g},ay l A H c e->aW c g->ao g=ao e/\∀(i:Nat)(u),g[i]?=ae u->∃x d,e[i]?=ae d/\aR x u/\aV l A H x d:=by
 intro c
 induction c with
 |nil=>intro _ _ r v;cases r.fJ;cases BH v;exact⟨rfl,λi u h=>by cases h⟩
 |cons x c m=>
  intro _ _ r v;obtain⟨d,o,rfl,r,t⟩:=r.cv;obtain⟨u,p,rfl,h,n⟩:=tK v;obtain⟨a,b⟩:=m t n;refine⟨congrArg Nat.succ a,λi u j=>?_⟩
  cases i with
  |zero=>cases j;exact⟨_,_,rfl,h,r⟩
  |succ i=>exact b i u j
def rV(a:LD)(d:D):Bool:=a.any λy=>eZ y d
def AG(c:bK)(neg:Bool):R2:=λx y H Q=>∃p e a d,y=.ref p/\df c H p e/\ay c Any H e a/\aV c Any H x d/\(D.cT a=af/\D.dS d=af/\D.de a<=190)/\Q (.bl (if neg then !rV a d else rV a d)) H
open Classical in
theorem OI{N:L2.St}(I:aK X w N H s)(hu:X.A.units+200<cLine){j:LD}(O:aR x v)(Q:ay X.K Any H U j)(Y:aW U c)(r:aV X.K Any H x d)
   (B:D.cT j=af/\D.dS d=af/\D.de j<=190):∃e,(∀y,y∈c.toArray->EqAt X.A.in1 s y v (e y))/\c.toArray.any e=rV j d:=by
 obtain⟨hl,n⟩:=jh3 Q Y;refine⟨λy=>aD (∃(i:Nat)(a:D),c[i]?=ae y/\j[i]?=ae a/\eZ a d=af),λy hy=>?_,?_⟩
 .have o:∀(i:Nat)(a:D),c[i]?=ae y->j[i]?=ae a->EqAt X.A.in1 s y v (eZ a d):=λi a q l=>by
    obtain⟨E,p,g,J,L⟩:=n i y q;rw[l]at g;cases g;have u:=lf l;have Tf:=J2 u
    exact Kx I a X.A.in1 E x y v d (by
     show X.A.units+1+a.dj<cLine
     omega) L J r O (Z3 B.1 u) B.2.1
  dsimp only
  by_cases h:∃(i:Nat)(a:D),c[i]?=ae y/\j[i]?=ae a/\eZ a d=af
  .obtain⟨i,a,q,l,g⟩:=h;have:=o i a q l;rw[g]at this;rw[decide_eq_true (show∃(i:Nat)(a:D),c[i]?=ae y/\j[i]?=ae a/\eZ a d=af from⟨i,a,q,l,g⟩)];exact this
  .rw[decide_eq_false h];obtain⟨i,m⟩:=sI.mp (show y∈c by simpa using hy);obtain⟨E,p,g,J,L⟩:=n i y m;have:=o i p m g
   have e:eZ p d=ag:=by
    cases z:eZ p d with
    |false=>rfl
    |true=>exact absurd ⟨i,p,m,g,z⟩ h
   rw[e]at this;exact this
 .rw[vk]
  delta rV
  rw[tM];simp only[List.any_toArray,tM,decide_eq_true_eq]
  constructor
  .rintro⟨y,_,i,a,_,l,g⟩;exact⟨a,lf l,g⟩
  .rintro⟨a,u,g⟩;obtain⟨i,m⟩:=sI.mp u
   have cr:i<ao c:=by
    rw[hl];exact(iZ.mp m).1
   exact⟨c[i],rB cr,i,a,cW cr,m,g⟩
def II(c:X.A.units+200<cLine):c9 X (gp .In) (AG X.K ag):=by
 intro a s B H x y v u Q I g i h;obtain⟨p,E,J,d,rfl,j,l,r,m,q⟩:=h;cases i;obtain⟨n,o,pl,L⟩:=I.list j;obtain⟨e,w,z⟩:=OI I c g l o r m;refine SeqAt.in_listAt e pl.isList w ⟨.bl _,H,I,rfl,?_⟩;rw[z];exact q
def OJ(c:X.A.units+200<cLine):c9 X (gp .NotIn) (AG X.K af):=by
 intro a s B H x y v u Q I g i h;obtain⟨p,E,J,d,rfl,j,l,r,m,q⟩:=h;cases i;obtain⟨n,o,pl,L⟩:=I.list j;obtain⟨e,w,z⟩:=OI I c g l o r m;refine SeqAt.notIn_listAt e pl.isList w ⟨.bl _,H,I,rfl,?_⟩;rw[z];exact q
def fU(neg:Bool):D->D->aw D
 |d,.al a=>bh (D.cT a=af/\D.dS d=af/\D.de a<=190) (.ok (.bl (if neg then !rV a d else rV a d)))
 |_,_=>.am
def VI(neg):fR c (AG c neg) (fU neg):=by
 intro x y H a b d Q g h e q
 delta fU at e
 split at e
 .obtain⟨i,e2⟩:=jE e;cases e2;obtain⟨p,j,rfl,l,_,m⟩:=h.dg;exact⟨p,j,_,_,rfl,.of l,m.aS (λz z=>trivial),g,i,q _ (iz _)⟩
 .cases e
end
end M
namespace M
open PySem PySem.Spec L2
open PyProof.Rows hiding St
def UI:lW "sorted" =ae (.builtin "sorted"):=by decide+kernel
section
variable{id:String}
def yl(j:bG X (.builtin id) r)(l:Xo X.K r g)(m:Gl X x)(n:X.mg x=ah)(o:lW x=ae (.builtin id))
   (q:DA X .s (e::a) u) (v:x≠ "__name__" :=by decide) (c:YG x:=by decide)
   (w:Wn X e a:=by exact jq aa) (d:Vl X i a:=by exact jR aa):DE X .t (.Call (.Name x p) (e::a) [] i) (app u g):=by
 nomatch (
  PE.imp (yd j m n o q v c w d) λy y y h=>NO l h)
noncomputable def oH(i:Nat)(t:T0):Sl->aw Bool:=λa=>t (bQ i a)
def OK(i)(h:DT X c t):DT X c (oH i t):=by
 nomatch (PT.imp h<|by rintro g H Q ⟨G,d,a,b,k,e,q⟩;exact⟨G,d,bQ i a,b,k.bQ i,e,q⟩)
end
end M
namespace M
open PySem PySem.Spec L2
mutual
noncomputable def mJ:D->List Int
 |.int i=>[i]
 |.ap (_::a)=>eJ a
 |_=>[]
noncomputable def eJ:LD->List Int
 |[]=>[]
 |d::r=>mJ d++eJ r
end
mutual
def bare:D->D
 |.ap (x::a)=>.ap (x::tN a)
 |_=>.int 0
def tN:LD->List D
 |[]=>[]
 |d::r=>bare d::tN r
end
theorem Q1:∀a,eJ a=a.flatMap mJ
 |[]=>rfl
 |d::r=>by simp[eJ,Q1 r]
def jjo:∀{a},(∀t∈a,D.dS t=af)->D.cT a=af:=
 @(bv (λy=>rfl) λx r c h=>by simp only[D.cT,fD];exact⟨h x aE,c λd e=>h d (by simp[e])⟩)
def ins(l:List Int)(x:Int):List Int:=if x∈l then l else l++[x]
def met(l a:List Int):List Int:=a.foldl ins l
def jfM(l)(x)(a):met l (x::a)=met (ins l x) a:=rfl
def jiX:y∈ins l x↔y∈l\/y=x:=by
 delta ins
 split
 .rename_i h;exact⟨.inl,λz=>z.elim id λe=>by rw[e];exact h⟩
 .simp
theorem kQ:∀{a l}{y},y∈met l a↔y∈l\/y∈a
 |[],l,y=>by simp[met]
 |x::a,l,y=>by
  rw[jfM,kQ,jiX];simp only[cM,or_assoc]
def mX(n:Nat):List Int->List D
 |[]=>[]
 |_::r=>.int n::mX (n+1) r
def ii(l:List Int):List dY:=l.map Sum.inl
def jgg(l)(x):ng (ii l) (.inl x)=aD (x∈l):=by
 induction l with
 |nil=>rfl
 |cons a l c=>
  unfold ng ii at c ⊢
  grind
def jiJ(l):(ii l).length=ao l:=by simp[ii]
mutual
def tk(a:List Str):D->Bool
 |.int _=>af
 |.ap (.str z::c)=>aD (z∈a)&&(aD (ao c<=9)&&tO a c)
 |_=>ag
def tO(a:List Str):LD->Bool
 |[]=>af
 |d::r=>tk a d&&tO a r
end
section
variable{ns:List Str}
mutual
theorem xM{P:D->Prop}(c:∀i,P (.int i))(d:∀z a,z∈ns->ao a<=9->(∀t∈a,tk ns t=af/\P t)->P (.ap (.str z::a))):∀t,tk ns t=af->P t
 |.int i,_=>c i
 |.ap (x::a),h=>by
  cases x with
  |str z=>
   simp only[tk,fD,decide_eq_true_eq]at h;exact d z a h.1 h.2.1 (nR c d a h.2.2)
  |_=>simp[tk]at h
 |.ap [],h|.bo,h|.bl _,h|.str _,h|.al _,h|.dw _,h|.cG _ _,h|.bw _ _,h|.eX _,h|.gK _ _,h|.bV _ _,h|.obj _ _ _,h=>by simp[tk]at h
theorem nR{P:D->Prop}(j:∀i,P (.int i))(l:∀z c,z∈ns->ao c<=9->(∀t∈c,tk ns t=af/\P t)->P (.ap (.str z::c))):∀c,tO ns c=af->∀t∈c,tk ns t=af/\P t
 |[],_,t,g=>by cases g
 |d::r,h,t,g=>by
  simp only[tO,fD]at h;have a:=xM j l d h.1;have b:=nR j l r h.2;rcases cM.mp g with e|e
  .rw[e];exact⟨h.1,a⟩
  .exact b t e
end
def jkj:∀{a},(∀t∈a,tk ns t=af)->tO ns a=af:=
 @(bv (λy=>rfl) λx r c h=>by simp only[tO,fD];exact⟨h x aE,c λd e=>h d (by simp[e])⟩)
theorem OL:∀{a}{t},tO ns a=af->t∈a->tk ns t=af
 |x::r,t,h,ht=>by
  simp only[tO,fD]at h;rcases cM.mp ht with rfl|ht
  .exact h.1
  .exact OL h.2 ht
def IJ(c:z∈ns)(h:ao a<=9)(d:∀t∈a,tk ns t=af):tk ns (.ap (.str z::a))=af:=by
 simp only[tk,fD,decide_eq_true_eq];exact⟨c,h,jkj d⟩
def qg(h:tk ns t=af):(∃i,t=.int i)\/∃z a,t=.ap (.str z::a)/\z∈ns/\ao a<=9/\∀u∈a,tk ns u=af:=by
 cases t with
 |int i=>exact .inl ⟨i,rfl⟩
 |ap c=>
  cases c with
  |nil=>simp[tk]at h
  |cons x a=>
   cases x with
   |str z=>
    simp only[tk,fD,decide_eq_true_eq]at h;exact .inr ⟨z,a,rfl,h.1,h.2.1,λu d=>OL h.2.2 d⟩
   |_=>simp[tk]at h
 |_=>simp[tk]at h
def Je:∀t,tk ns t=af->eS t=af:=xM (λi=>rfl) λz c x d h=>by
 exact og.mpr ⟨decide_eq_true (by rw[gG];omega),og.mpr ⟨rfl,Kt λt a=>(h t a).2⟩⟩
def uG:∀t,tk ns t=af->t.lN=af:=xM (λi=>rfl) λz a x d h=>by
 show(af&&D.f9 a)=af;rw[Dw];exact pK.mpr λt c=>(h t c).2
def ZB:∀t,tk ns t=af->∀p∈ce t,tk ns p=af:=xM (λi=>by simp[ce,tk]) λz o g j h=>by
 intro p l;rcases cM.mp l with e|e
 .rw[e];exact IJ g j λt m=>(h t m).1
 .have c:∀a:List D,c4 a=a.flatMap ce:=λa=>by
   induction a with
   |nil=>rfl
   |cons d r n=>simp[c4,n]
  grind
mutual
def pl(k:Nat):D->List (D×Nat)
 |.ap (x::r)=>(.ap (x::r),k)::pls (k+1) r
 |d=>[(d,k)]
def pls(k:Nat):LD->List (D×Nat)
 |[]=>[]
 |d::r=>pl k d++pls k r
end
def fL:LD->List Int
 |[]=>[]
 |.int i::r=>i::fL r
 |_::r=>fL r
theorem Kj:∀a b,fL (a++b)=fL a++fL b
 |[],b=>rfl
 |d::r,b=>by
  have c:=Kj r b;cases d<;>simp[fL,c]
def sJ:LD->List Hd
 |[]=>[]
 |.ap (.str z::a)::r=>(z,(ao a:Int))::sJ r
 |_::r=>sJ r
def ji8(z)(a r:LD):sJ (.ap (.str z::a)::r)=(z,(ao a:Int))::sJ r:=rfl
theorem OM:∀{a},(∀t∈a,tk ns t=af)->∀x∈sJ a,x.1∈ns/\0<=x.2/\x.2<=9
 |[],_,x,c=>by cases c
 |d::r,h,x,c=>by
  have g:=OM (a:=r) λt j=>h t (by simp[j])
  rcases qg (h d aE)with⟨i,rfl⟩|⟨z,m,rfl,l,n,_⟩
  .exact g x c
  .rw[ji8]at c;rcases cM.mp c with e|e
   .rw[e];exact⟨l,by simp,by simp;omega⟩
   .exact g x e
def dH(l:List Hd)(a:Hd):List Hd:=if a∈l then l else l++[a]
def en(l a:List Hd):List Hd:=a.foldl dH l
def ji3(h:l.Nodup):(dH l a).Nodup:=by
 delta dH
 split
 .exact h
 .rename_i g;refine oI.mpr ⟨h,by simp,λx c y d=>?_⟩;simp at d;rw[d];intro e;rw[e]at c;exact g c
def ji2:∀{a l},l.Nodup->(en l a).Nodup:=
 @(bv (@(λl h=>h)) λx a c l h=>c (ji3 h))
def jgc(h:x∈dH l a):x∈l\/x=a:=by
 delta dH at h
 split at h
 .exact .inl h
 .simpa using h
theorem uJ:∀{a l}{x},x∈en l a->x∈l\/x∈a
 |[],l,x,h=>.inl h
 |y::a,l,x,h=>by
  rcases uJ (l:=dH l y) h with z|z
  .rcases jgc z with z|z
   all_goals simp_all
  .simp_all
theorem wI{c:Type}[BEq c][LawfulBEq c]:∀{l m:List c},l.Nodup->(∀x∈l,x∈m)->ao l<=ao m
 |[],m,_,_=>by simp
 |a::l,m,h,d=>by
  have:=wI (m:=m.erase a) (rJ.mp h).2 λx e=>by
   grind
  grind
def VY{l:List Hd}(h:l.Nodup)(a:∀x∈l,x.1∈ns/\0<=x.2/\x.2<=9):ao l<=ao ns*10:=by
 have:=wI (m:=ns.flatMap λz=>(gH 10).map λk=>(z,((k:Nat):Int))) h λx c=>by
  obtain⟨d,g,j⟩:=a x c;refine Ax.mpr ⟨x.1,d,dz.mpr ⟨x.2.toNat,iD.mpr ak,?_⟩⟩;rw[Int.toNat_of_nonneg g]
 have e:(ns.flatMap λz=>(gH 10).map λk=>(z,((k:Nat):Int))).length=ao ns*10:=by
  clear this a h
  induction ns with
  |nil=>rfl
  |cons z r i=>rw[List.flatMap_cons,lh,i];simp;omega
 omega
def gc:bf a=bf b↔a=b:=by
 constructor
 .intro h;cases a;cases b;simp[bf]at h;simp[h]
 .intro h;rw[h]
def ON(l:List Hd)(a):dG (l.map bf) (bf a)=aD (a∈l):=by
 delta dG
 rw[Ay]
 induction l with
 |nil=>rfl
 |cons b l c=>
  rw[List.any_cons,c];simp only[Function.comp_apply,gc]
  grind
def c6(l:List Hd):LD:=l.map λx=>.bl af
def OO(l)(a):xx (l.map bf) (bf a)=(dH l a).map bf/\Ws (l.map bf) (c6 l) (bf a) (.bl af)=c6 (dH l a):=by
 delta xx Ws dH
 rw[ON]
 by_cases h:a∈l
 .simp only[h,decide_true,if_true,true_and];clear h
  induction l with
  |nil=>rfl
  |cons b l c=>
   simp only[c6,fI,Az]at c ⊢
   simp_all
 .simp[h,c6]
theorem Yj:∀l,QM (l.map bf)=ae l
 |[]=>rfl
 |a::l=>by
  simp only[fI,QM,Yj l];rfl
def jaJ(c:l.Nodup)(d:ao l<64)(e:∀a∈l,a.1.length<=ba):YA [.bw (l.map bf) h]=.ok (.al ((Zb l).map bn)):=by
 show(match QM (l.map bf)with|some i=>_|none=>_)=_;rw[Yj];exact jI ⟨c,d,nF.mpr λa g=>by simpa using e a g⟩
def jgO(c:D.cT a=af)(d:D.de a<=100):da (.al a) (.al a)=.ok (.bl af)/\iA (.al a) (.al a)=.ok (.bl ag):=by
 have e:eZ (.al a) (.al a)=af:=Kw _ c;have g:Df (.al a) (.al a):=.inl ⟨c,c,by simp only[D.dj];omega⟩
 delta da iA
 simp_all
def jgY:∀{c:Type}(l:List c),iM [.al (l.map λx=>.bl af)]=.ok (.bl af):=λl=>by
 have e:ZT (l.map λx=>D.bl af)=ae (l.map λx=>af):=by
  induction l with
  |nil=>rfl
  |cons a l d=>simp[ZT,d]
 show(match ZT (l.map λx=>D.bl af)with|some bs=>_|none=>_)=_
 simp_all
end
open PyProof.Rows hiding St
def zF:lW "divmod" =ae (.builtin "divmod"):=by decide+kernel
def xu:LD->aw D
 |[.int i,.int j]=>bh (0<j/\j<1073741824) (.ok (.ap [.int (i/j),.int (i%j)]))
 |_=>.am
def xU:Xo o (λg H Q=>∃i j,g=[.int i,.int j]/\sr i j/\∀p,H p=ah->Q (.ref p) (aQ H p (.ap [.int (i/j),.int (i%j)]))) xu:=by
 intro A g H c d Q r e q;rcases c with _|⟨a,c⟩
 .cases e
 cases a<;>try cases e
 rcases c with _|⟨b,c⟩
 .cases e
 cases b<;>try cases e
 cases c<;>try cases e
 obtain⟨l,e2⟩:=jE e;cases e2;obtain⟨v,u,rfl,m,n⟩:=r.aq;cases m.eG;cases n.eG;exact⟨_,_,rfl,l,λp h=>q _ _ (aA.aQ h) (.ap jv (.cons (.int _) (.cons (.int _) .nil))) (qX (aA.refl H) h)⟩
section
variable{Y:L2.St}
def Jc(I:aK X a Y H s)(k:∀b o,b≠h->b≠i->s.heap.get? b=ae o->j.get? b=ae o)(l:eE X a H h)(p:eE X a H i):aK X a Y H {s with heap:=j,toks:=t'}:=by
 obtain⟨L,w,_,N,O,Q⟩:=l;obtain⟨U,y,_,b3,b4,b5⟩:=p;have g:∀b o,b∉[h,i]->s.heap.get? b=ae o->j.get? b=ae o:=by simp_all
 refine I.step (λb hb=>?_) (λb o x x d e x=>g b o d e) (λb o x x d e x=>⟨o.slots,g b o d e⟩) (λx x x x n=>n)
   (λb o d e=>⟨o,g b o d e⟩) (λx x e=>e) (λx x x e=>e) (λb ps e=>⟨#[],by rw[e];simp⟩) (λm z=>?_) (λb u e=>?_) I.bare
 .grind
 .obtain⟨o,B,E,J,r⟩:=z;exact⟨o,B,E,k _ o (gM w) (gM y) J,r⟩
 .refine(I.be b u e).bq (λc v d q=>k c v ?_ ?_ q) (λx q=>q) λx x q=>q
  all_goals grind
end
def ItE(d:bK)(a:ar)(c:List V):It:=⟨λi H=>df d H a c/\i<ao c,λi H v e=>∃p x,H p=ah/\c[i]?=ae x/\v=.ref p/\e=aQ H p (.ap [.int (i:Int),x]),λi H=>df d H a c/\ao c<=i⟩
def jbV(a j e)(Y)(r:e≠j):Turn P w κ (.Tuple elts n pos) (ItE κ a Y) [e,j] e (λi h=>(∃d,IsEnum h e j (i) d)/\h.IsListIter j a i) where
 mem:=by simp
 obj:=λi h st b v=>by
  obtain⟨⟨d,l⟩,o,ho,hc,hd⟩:=st
  grind
 keep:=λi h h' st k=>by
  obtain⟨⟨d,l⟩,g⟩:=st;exact⟨⟨d,k e aE _ l⟩,g.at λo x=>k j aE o x⟩
 item:=by
  intro X hP hw hK hc i c s σ H E I B st hg;subst hP hw hK;obtain⟨hq,hi⟩:=hg;obtain⟨tH,rv,p,hz⟩:=I.list hq;have hx:=cW hi;obtain⟨u,hu,ru⟩:=rv.get hx;obtain⟨⟨d,l⟩,g⟩:=st;have fe:=B e aE;have fi:=B j aE;refine wpAny_pyNext_enum_item l g p.isList (by simpa using hu) r λh' ho J hT IK hk=>?_
  refine⟨_,rfl,wpAny_letOwnedTupleGo_enum ho λtz AH L=>?_⟩;have N:=b7 l;have O:j<s.heap.objs.size:=by obtain⟨_,x,_⟩:=g;exact b7 x
  have I1:aK X c σ (aQ H s.heap.objs.size (.ap [.int i,Y[i]])) {s with heap:=s.heap.push {cls:=.type "tuple",data:=.seq #[.int i s.toks,u]}}:=
    I.laid (λb o e=>cc _ e) (bz _) ⟨cn (show 2<=20 by decide) au,[.int i s.toks,u],.cons ⟨_,rfl⟩ (.cons ru .nil),⟨_,dA _ aa,rfl,_,rfl⟩⟩
  have Q:eE X c (aQ H s.heap.objs.size (.ap [.int i,Y[i]])) e:=⟨by rw[jz (di N)];exact fe.1,fe.2⟩
  have U:eE X c (aQ H s.heap.objs.size (.ap [.int i,Y[i]])) j:=⟨by rw[jz (di O)];exact fi.1,fi.2⟩
  have I2:=Jc (t':=s.toks+1) I1 (λb o m q eo=>by
    refine(L.2 b m).trans ?_
    by_cases v:b=s.heap.objs.size
    .subst v;rw[dA _ aa]at eo
     simp_all
    .have Dy:s.heap.get? b=ae o:=by
      rcases IL eo with⟨z,_⟩|z
      .simp_all
      .exact z
     exact hk b o m q Dy) Q U
  refine⟨.ref s.heap.objs.size,_,I2,rfl,⟨_,_,(I.be.fresh (bz _)),hx,rfl,rfl⟩,⟨⟨_,by simpa using AH⟩,J.at λo y=>(L.2 j r.symm).trans y⟩,λb v=>?_⟩;simp at v;rcases v with rfl|rfl
  .exact Q.1
  .exact U.1
 done:=by
  intro X hP hw hK hc i c s σ H E I B st hg;subst hP hw hK;obtain⟨hq,hi⟩:=hg;obtain⟨tH,rv,p,hz⟩:=I.list hq;obtain⟨⟨d,l⟩,g⟩:=st;have hl:=rv.length;refine wpAny_pyNext_enum_end (I.ok.hd hc) l g p.isList cf λh' eb=>⟨rfl,Jc I (λb o m q eo=>eb b o q eo) (B e aE) (B j aE)⟩
 self:=λf f f f f st h=>let ⟨⟨_,l⟩,_⟩:=st;FD l h
section
def jW:Nat->LD->List D
 |_,[]=>[]
 |k,d::r=>.ap [.int (k:Int),d]::jW (k+1) r
theorem Jy:∀(k)(a),(jW k a).length=ao a
 |_,[]=>rfl
 |k,d::r=>by simp[jW,Jy (k+1) r]
theorem Wx:∀(k i:Nat)(a),(jW k a)[i]?=(a[i]?).map λd=>.ap [.int ((k+i:Nat):Int),d]
 |k,_,[]|k,0,_::_=>by simp[jW]
 |k,i+1,d::r=>by
  simp only[jW,FE];rw[Wx (k+1) i r]
  grind
def FG(f:T3):Sl->aw (List D):=λa=>f a>>=λd=>match d with
 |.al c|.dw c=>.ok (jW 0 c)
 |_=>.am
def OP(hg:Gl X "enumerate")(hm:X.mg "enumerate" =ah)(h:DE X .s e f)(hs:bx [e] X.V=[(ag,eval e X.V)]:=by rfl):DI X (.Tuple elts n pZ) (.Call (.Name "enumerate" p) [e] [] pos) (FG f):=by
 have hE:PE X e (tE X.K .s f):=by nomatch h
 nomatch (by
  rintro g s J H R I ⟨G,H0,c,ds,k,ef,q⟩;obtain⟨d,e1,e2⟩:=je ef
  have hA:PA X [e] (tA X.K .s λc=>f c>>=λd=>.ok [d]):=by
   have:=qc hE zV hs;rintro ps g s J H Q I ⟨G,H0,c,ds,k,ef,q⟩;obtain⟨d,c1,c2⟩:=je ef;cases c2;exact this ps g s J H Q I ⟨G,H0,c,d,k,c1,λv l j r1 t=>q [v] l j (.cons r1 .nil)⟩
  refine Call_ (ZD I hg hm boot_enumerate (Bi (bE (hA pos g s J H (λvs l=>∃v,vs=[v]/\aA H l/\aV X.K (Sf G c J) l v d) I ⟨G,H0,c,[d],k,by show(f c>>=_)=_;rw[e1];rfl,λvs l j r1=>by obtain⟨v,rfl,r⟩:=r1.one;exact⟨v,rfl,j,r⟩⟩) λus j ⟨vs,l,U,r1,v,ev,sm,rep⟩=>?_) hs aa));subst ev;obtain⟨u,rfl,ru⟩:=Jw r1
  have E:∀(a:ar) w L (P:Hp->Prop),u=.ref a->df X.K l a w->ay X.K (Sf G c J) l w L->ds=jW 0 L->P l->(∀m,P m->df X.K m a w)->(∀B N m,bN c J l B N m->P m)->wpAny (bj X) X.A (call (.type "enumerate") [u]) (λv j=>wpAny (bj X) X.A (pyIter v) (G5 X g J (.Tuple elts n pZ) R) X.xe j) X.xe j:=by
   intro a w L P eu hq Y eds p0 pq sD;subst eu;obtain⟨tH,rv,pl,hz⟩:=U.list hq;refine call_enumerate_list pl.isList λh' he hit IK hk=>FD he ?_
   refine⟨j.heap.objs.size+1,[j.heap.objs.size+1,j.heap.objs.size],_,_,l,rfl,(U.kept (t':=j.toks) hk),jbV a j.heap.objs.size (j.heap.objs.size+1) w (Nat.succ_ne_self _),⟨⟨_,he⟩,hit⟩,λb hb=>?_,?_⟩
   .simp at hb;rcases hb with rfl|rfl
    .exact U.fZ (pd _) (U.be.fresh (pd _))
    .exact U.fZ (bz _) (U.be.fresh (bz _))
   .refine q _ l P sm (λi m pp=>?_) p0 sD;have hl:=Y.length;subst eds;rw[Jy];refine⟨λhi=>⟨pq m pp,by omega⟩,λd hd x H2 y=>?_,λhi=>⟨pq m pp,by omega⟩⟩;obtain⟨p,x',hp,pO,rfl,rfl⟩:=y;obtain⟨d',BJ,rd⟩:=Y.get' pO;rw[Wx,BJ]at hd;cases hd;exact .inr ⟨p,_,_,hp,rfl,rfl,rfl,.cons (by rw[Dq];exact .int _) (.cons rd .nil)⟩
  cases d with
  |al L=>
   cases e2;obtain⟨a,w,rfl,O,na,Y⟩:=rep.dg;exact E a w L (λH=>H a=ae (.al w)) ru (.of O) Y.low aa O (λm z=>.of z) λB N m fr=>fr.keep a _ O na.1
  |dw L=>
   cases e2;obtain⟨a,w,rfl,O,Y⟩:=rep.lm;refine E a w L (λH=>pE X.K H a w) ru O.nO Y aa O (λm z=>z.nO) λB N m fr=>?_
   rcases O with⟨o,eo⟩|z
   .exact .inl ⟨o,fr.keep a _ eo λow=>((k.aB sm).m3 ow eo).elim⟩
   .exact .inr z
  |_=>exact dD e2)
end
end M
namespace M
open PySem PySem.Spec L2
open Classical in
noncomputable instance afN:DecidableEq D:=λa b=>propDecidable (a=b)
mutual
noncomputable def nb:D->Bool
 |.int _|.str _=>af
 |.ap a=>ni a
 |_=>ag
noncomputable def ni:LD->Bool
 |[]=>af
 |d::r=>nb d&&ni r
end
theorem kM:∀{a}{d},ni a=af->d∈a->nb d=af
 |x::r,d,h,ht=>by
  simp only[ni,fD]at h;rcases cM.mp ht with rfl|ht
  .exact h.1
  .exact kM h.2 ht
def IM:∀{a},(∀d∈a,nb d=af)->ni a=af:=
 @(bv (λy=>rfl) λx r c h=>by simp only[ni,fD];exact⟨h x aE,c λd e=>h d (by simp[e])⟩)
def OQ(a:D):Prop:=nb a=af->∀b,nb b=af->(eZ a b=af↔a=b)
theorem uV:∀{c},(∀a∈c,OQ a)->ni c=af->∀bs,ni bs=af->(dO c bs=af↔c=bs)
 |[],_,_,[],_|[],_,_,_::bs,_|a::_,_,_,[],_=>by simp[dO]
 |a::c,h,d,b::bs,e=>by
  simp only[ni,fD]at d e;simp only[dO,fD,GF];rw[h a aE d.1 b e.1,uV (λx g=>h x (by simp[g])) d.2 bs e.2]
def jjv(a):OQ a:=by
 refine D.ind ?_ ?_ ?_ ?_ ?_ ?_ ?_ ?_ a
 .intro h;simp[nb]at h
 .intro b h;simp[nb]at h
 .intro i _ b e;cases b<;>first|(simp[nb]at e;done)|simp[vm]
 .intro x _ b e;cases b<;>first|(simp[nb]at e;done)|simp[vm]
 .intro d j l b e
  cases b with
  |ap m=>
   simp;exact uV j (by simpa only[nb]using l) m (by simpa only[nb]using e)
  |int _|str _=>simp[vm]
  |_=>simp[nb]at e
 .intro d _ h;simp[nb]at h
 .intro d _ h;simp[nb]at h
 .exact⟨λg d y h=>by simp[nb]at h,λg d y h=>by simp[nb]at h,λc h=>by simp[nb]at h,λg d y h=>by simp[nb]at h,λg d y h=>by simp[nb]at h,λc n d y h=>by simp[nb]at h⟩
def uW(c:nb a=af)(d:nb b=af):eZ a b=aD (a=b):=by
 have:=jjv a c b d
 by_cases h:a=b
 .simp_all
 .simp_all
def Yp(d):nb d=af->D.dS d=af:=by
 refine D.ind (P:=λd=>nb d=af->D.dS d=af) ?_ ?_ ?_ ?_ ?_ ?_ ?_ ?_ d
 .intro h;simp[nb]at h
 .intro b h;simp[nb]at h
 .intro i _;rfl
 .intro x _;rfl
 .intro a j h;exact jjo λt g=>j t g (kM (by simpa only[nb]using h) g)
 .intro a _ h;simp[nb]at h
 .intro a _ h;simp[nb]at h
 .exact⟨λe a y h=>by simp[nb]at h,λe a y h=>by simp[nb]at h,λc h=>by simp[nb]at h,λe a y h=>by simp[nb]at h,λe a y h=>by simp[nb]at h,λc l a y h=>by simp[nb]at h⟩
open PyProof.Rows hiding St
def WI(x:bC P w H h a o):∃ob,h.get? a=ae ob:=by
 cases o with
 |al d=>obtain⟨_,_,_,_,e⟩:=x;exact⟨_,e⟩
 |ap d=>obtain⟨_,_,_,ob,e,_⟩:=x;exact⟨_,e⟩
 |dK _|dT _=>obtain⟨_,_,_,_,o,_,_,e,_⟩:=x;exact⟨_,e⟩
 |set S n=>obtain⟨o,_,_,_,e,_⟩:=x;exact⟨_,e⟩
 |ins C dx fs=>obtain⟨_,_,_,e,_⟩:=x;exact⟨_,e⟩
 |aG y=>exact x
 |xd fs=>obtain⟨_,⟨_,_,_,e,_⟩,_⟩:=x;exact⟨_,e⟩
 |EM lo g=>obtain⟨_,_,_,e⟩:=x;exact⟨_,e⟩
 |bQ ob u=>obtain⟨e,_⟩:=x;exact⟨_,e⟩
 |si _|met _ _=>exact⟨_,(x)⟩
 |ext j=>obtain⟨_,z,_⟩:=x;exact z
def gQ(P:fW)(w:World):w4:=λc H s E e d=>∃(a C:ar)(g:Hp)(B:Heap)(h:aJ),e=.ref a/\d.os=s.os/\rD d.gens/\Un (eD c) [] H g s.heap d.heap/\eA P w g d.heap/\g a=ah/\
 Heap.FlyingW B c a (.ref C) h d.heap/\(∀b,b∉eD c->((∃o,s.heap.get? b=ae o)\/∃u,g b=ae u)->B.get? b=d.heap.get? b)/\E (.ref C) ah g
section
variable{U:L2.St}{s:bT}
def OR(I:aK (cA (gQ P w) P w O Q j N i g f J A d l p E) pins U H {s with heap:=h})
   (fl:Heap.FlyingW B d a cls a0 h') (L:∀b o,h.get? b=ae o->b∉eD (cA (gQ P w) P w O Q j N i g f J A d l p E).stack->((∃o,l.heap.get? b=ae o)\/∃u,H b=ae u)->B.get? b=ae o)
   (up:∀b o,b∈eD (cA (gQ P w) P w O Q j N i g f J A d l p E).stack->h.get? b=ae o->(∀vs,o.data≠ .fields vs)->∃sl,h'.get? b=ae {o with slots:=sl}):
   Un (eD d) [] p H l.heap h'/\eA P w H h'/\∀b,b∉eD d->((∃o,l.heap.get? b=ae o)\/∃u,H b=ae u)->B.get? b=h'.get? b:=by
 have nfr:∀b o,l.heap.get? b=ae o->b∉eD d->b∉eD (cA (gQ P w) P w O Q j N i g f J A d l p E).stack:=λb o q m hm=>by
   rcases cM.mp (I.kv b hm)with e|e
   .have y:l.heap.objs.size<=b:=by rw[e];exact I.ok.above
    exact rC _ (dZ (b7 q) y)
   .exact m e
 have Ce:∀b u,H b=ae u->b∉eD (cA (gQ P w) P w O Q j N i g f J A d l p E).stack:=λb u q hm=>by
   have:=I.fY b hm
   simp_all
 have Y:Un (eD d) [] p H l.heap h:=I.aj;have FF:=I.stack
 have sub:∀b∈eD d,b∈eD (cA (gQ P w) P w O Q j N i g f J A d l p E).stack:=λb m=>by
   show b∈eD (i5 i g l.heap.objs.size f J::d)
   delta eD at m ⊢
   simp_all
 have IN:∀b o,b∈eD (cA (gQ P w) P w O Q j N i g f J A d l p E).stack->h.get? b=ae o->∃sl,h'.get? b=ae {o with slots:=sl}:=λb o m q=>by
   obtain⟨_,o',ho',hd⟩:=FF.mem m
   simp_all
 refine⟨⟨λb o q n m x=>?_,λb o q n m x=>?_,λb o q n x=>Y.free b o q n aE,λb o q x=>?_,Y.ee,Y.eQ,Y.fg⟩,λb u q=>?_,λb m hc=>?_⟩
 .have y:=Y.keep b o q n m aE;exact fl.1 b o (L b o y (nfr b o q m) (.inl ⟨o,q⟩))
 .obtain⟨sl,y⟩:=Y.slot b o q n m aE
  grind
 .obtain⟨o',y⟩:=Y.there b o q aE
  by_cases hm:b∈eD (cA (gQ P w) P w O Q j N i g f J A d l p E).stack
  .grind
  .exact⟨o',fl.1 b o' (L b o' y hm (.inl ⟨o,q⟩))⟩
 .have h0:=I.be b u q;refine h0.bq (λc v hc r=>?_) (λx z=>z) λx x z=>z
  have ht:∃u,H c=ae u:=by grind
  obtain⟨u',OS⟩:=ht;exact fl.1 c v (L c v r (Ce c u' OS) (.inr ⟨u',OS⟩))
 .have ht:∃o,h.get? b=ae o/\b∉eD (cA (gQ P w) P w O Q j N i g f J A d l p E).stack:=by
    rcases hc with⟨o,q⟩|⟨u,q⟩
    .obtain⟨o',y⟩:=Y.there b o q aE
     simp_all
    .obtain⟨ob,y⟩:=WI (I.be b u q)
     simp_all
  obtain⟨o,y,h2⟩:=ht;have h3:=L b o y h2 hc;rw[h3,fl.1 b o h3]
def Ye(I:aK (cA (gQ P w) P w j l d N g a f m A c n p E) L U H {s with heap:=h})(r:Heap.MadeExcOf h s.heap e (.ref C) vs)(Q:E (.ref C) ah H):
  (cA (gQ P w) P w j l d N g a f m A c n p E).xe (.ref e) s:=by
 have v:h.FunFrames (PySem.W.hideAll h (eD (cA (gQ P w) P w j l d N g a f m A c n p E).stack)) (cA (gQ P w) P w j l d N g a f m A c n p E).stack:=
  PySem.W.funFrames_hide (I.stack) λy Y b i=>Bj.mpr ⟨y,Y,i⟩
 have B:H e=ah:=by
  cases q:H e with
  |none=>rfl
  |some u=>
   obtain⟨ob,z⟩:=WI (I.be e u q);rw[r.new]at z;cases z
 refine wpAny_leaves_madeW I.ok.frames aa (λb o q=>PySem.W.of_hideAll _ q) v r λh' t O ap hn J=>?_
 obtain⟨u1,u2,u3⟩:=OR I O (λb o q i x=>PySem.W.hideAll_get _ q i) λb o i q hd=>J b o (r.keeps b o q) hd
 exact⟨e,C,H,_,_,rfl,I.os,I.bare,u1,u2,B,O,u3,Q⟩
def uz(I:aK (cA (gQ P w) P w L O h N i g f Q A d n p E) Y U H s)(c:gQ P w (cA (gQ P w) P w L O h N i g f Q A d n p E).stack H s E1 e s')
  (hE:∀C j,E1 (.ref C) ah j->E (.ref C) ah j):(cA (gQ P w) P w L O h N i g f Q A d n p E).xe e s':=by
 obtain⟨a,C,j,B,a0,rfl,os,bare,un,r,ha,fl,u,v⟩:=c;have J:=I.lY os un r bare λb m=>absurd m aE
 refine wpAny_leaves_onW J.ok.frames aa fl λh' l y=>?_
 have B0:Un (eD d) [] p H n.heap s.heap:=I.aj
 obtain⟨u1,u2,u3⟩:=OR J l (λb o q m hc=>by
  rw[u b m ?_,q];rcases hc with⟨o',z⟩|z
  .obtain⟨o2,z2⟩:=B0.there b o' z aE;exact .inl ⟨o2,z2⟩
  .exact .inr z) λb o m q hd=>y b o q hd
 exact⟨a,C,j,B,a0,rfl,J.os,J.bare,u1,u2,ha,l,u3,hE C j v⟩
end
abbrev i8(a:bK)(c:Str)(C:ar):Prop:=cH a ci c=ae (ae (.ref C))
def XE(a:bK)(c:Str)(H:Hp):XK:=λcls x d=>∃C,cls=.ref C/\i8 a c C/\aA H d
def AI(X:Cx)(c:Str)(h:L2.St)(H:Hp):Prop:=∀a d s e g,aA H d->aK X a h d s->gQ X.P X.w X.stack d s (XE X.K c d) e g->X.xe e g
def Dz(X:Cx)(c:Str)(d:Hp):Prop:=∀a g H (s:bT) h e C i,aA d H->i8 X.K c C->aK X a g H {s with heap:=h}->Heap.MadeExcOf h s.heap e (.ref C) i->X.xe (.ref e) s
structure BK(X:Cx)(c:Str)(H0:Hp):Prop where
 a:Dz X c H0
 b:∀σ H,aA H0 H->AI X c σ H
def tEX(X:Cx)(l:Lv)(f:T3):TE:=λe H Q=>∃G h a,aH X.K G h a e H/\
 ((∃d,f a=.ok d/\∀v g,aA H g->aV X.K (l.A G a e) g v d->l.T H v->Q v g)\/∃c,f a=.exc c/\AI X c e H)
def OT(X:Cx)(g:TZ):TS:=λE e H=>∃G d a,aH X.K G d a e H/\((∃o,g a=.ok o/\oA X.K G d a e H E o)\/∃c,g a=.exc c/\BK X c d)
@[irreducible] def nS (X:Cx) (l:Lv) (e:Expr) (f:T3):Prop:=PE X e (tEX X l f)
@[irreducible] def AJ (X:Cx) (st:Stmt) (g:TZ):Prop:=PS X st (OT X g)
@[irreducible] def iO (X:Cx) (st:List Stmt) (g:TZ):Prop:=eh X st (OT X g)
def p6(r:aw c):aw c:=match r with
 |.ok a=>.ok a
 |_=>.am
def X9{r}{a:d}(h:p6 r=.ok a):r=.ok a:=by
 cases r with
 |ok b=>exact h
 |exc _|am=>cases h
def Y8{r:aw a}(h:p6 r=.exc c):False:=by
 cases r<;>cases h
def Wc{r}{f:e->aw g}(h:(r>>=f)=.exc c):r=.exc c\/∃a,r=.ok a/\f a=.exc c:=by
 cases r with
 |ok a=>exact .inr ⟨a,rfl,h⟩
 |exc d=>cases h;exact .inl aa
 |am=>cases h
def Xh(g:TZ):Sl->aw br:=λa=>p6 (g a)
def ZS(f:T3):Sl->aw D:=λa=>p6 (f a)
section
variable{st:Stmt}{rest:List Stmt}{g2:TZ}
def DS.x(h:DS X st g):AJ X st (Xh g):=by
 nomatch (PS.imp h<|by
  rintro E e H ⟨G,d,a,k,q⟩;rcases q with⟨o,e1,q⟩|⟨c,e1,_⟩
  .exact⟨G,d,a,o,k,X9 e1,q⟩
  .exact(Y8 e1).elim)
def h9.x(h:h9 X a g):iO X a (Xh g):=by
 nomatch (eh.imp h λE i H=>by
  rintro⟨G,e,d,k,q⟩;rcases q with⟨o,e1,q⟩|⟨c,e1,_⟩
  .exact⟨G,e,d,o,k,X9 e1,q⟩
  .exact(Y8 e1).elim)
def JH(r:AJ X st u)(v:iO X rest g2):iO X (st::rest) (az u g2):=by
 nomatch (eh.imp (y7 r v)<|by
  rintro E z H ⟨G,g,e,k,q⟩;rcases q with⟨o,i,q⟩|⟨c,i,n⟩
  .obtain⟨h,e1,e2⟩:=je i;refine⟨G,g,e,k,.inl ⟨h,e1,?_⟩⟩
   cases h with
   |nx a=>exactλj w l p=>⟨G,g,a,l,.inl ⟨o,e2,Js p q⟩⟩
   |rt _ _|bk _|ct _=>cases e2;exact q
  .rcases Wc i with e1|⟨h,e1,e2⟩
   .exact⟨G,g,e,k,.inr ⟨c,e1,n⟩⟩
   .cases h with
    |nx a=>exact⟨G,g,e,k,.inl ⟨_,e1,λj w l p=>⟨G,g,a,l,.inr ⟨c,e2,n⟩⟩⟩⟩
    |rt _ _|bk _=>cases e2
    |ct m=>cases e2)
def QQ(a:AJ X st c):iO X [st] c:=by
 nomatch (eh.imp (Wt a) λE d H q=>q)
def sK(t:T0)(c g2:TZ):Sl->aw br:=λa=>match t a with
 |.ok b=>if b=af then c a else g2 a
 |_=>.am
def OU(m:DT X c t)(n:iO X g i)(p:iO X d g2):AJ X (.If c g d r) (sK t i g2):=by
 nomatch (PS.imp (GX m n p)<|by
  rintro E u H ⟨G,h,a,k,q⟩
  have j:∃b,t a=.ok b/\sK t i g2 a=if b=af then i a else g2 a:=by
   cases e1:t a with
   |ok b=>exact⟨b,rfl,by delta sK;rw[e1]⟩
   |_=>
     have z:sK t i g2 a=.am:=by delta sK;rw[e1]
     simp_all
  obtain⟨b,e1,e2⟩:=j;rw[e2]at q;refine⟨G,h,a,b,k,e1,λv s=>?_⟩
  cases b with
  |true=>
   rcases q with⟨o,e,q⟩|⟨c,e,l⟩
   .exact⟨G,h,a,k.aB s,.inl ⟨o,e,Js (bN.refl s) q⟩⟩
   .exact⟨G,h,a,k.aB s,.inr ⟨c,e,l⟩⟩
  |false=>
   rcases q with⟨o,e,q⟩|⟨c,e,l⟩
   .exact⟨G,h,a,k.aB s,.inl ⟨o,e,Js (bN.refl s) q⟩⟩
   .exact⟨G,h,a,k.aB s,.inr ⟨c,e,l⟩⟩)
def jgw(i)(n:X.N.Nodup)(h:nS X .s e f)(p:X.N[i]?=ae x:=by rfl)(u:Loc X.V.scope x:=by exact l6 aa)(w:kw e (ae (.Name x a)) j.line X.V=pure ag:=by rfl)
   (y:Vk X x:=by first|exact .inl aa|exact .inr aa|assumption):AJ X (.Assign [.Name x a] e j) (jF i f):=by
 nomatch (
  PS.imp (G3 n p u h w y)<|by
   rintro E B H ⟨G,m,g,k,q⟩;rcases q with⟨o,l,q⟩|⟨c,l,I⟩
   .obtain⟨d,e1,e2⟩:=je l;cases e2;exact⟨G,m,g,k,.inl ⟨d,e1,λv J s r b=>q _ J ((k.aB s).m4 r) (.set s λb b z b=>by cases z)⟩⟩
   .rcases Wc l with e1|⟨d,e1,e2⟩
    .exact⟨G,m,g,k,.inr ⟨c,e1,I.b B H k.aj⟩⟩
    .cases e2)
end
def spX(g:bK)(j:Bool)(n:Nat)(F:LD->aw D):Sp:=λi H Q E=>∃B h,ao i=n/\ay g B H i h/\
 ((
  ∃d,F h=.ok d/\∀v e,aA H e->aV g (λa=>H a=ah\/B a) e v d->(j=af->bI H v)->Q v e)\/
  ∃c,F h=.exc c/\∀C e,i8 g c C->aA H e->E (.ref C) ah e)
structure mK(P:fW)(w:World)(κ:bK)(mg:YE)(aj:Heap)(k:Nat)(x:Str)(ps:List Str)(fr:Bool)(F:LD->aw D):Prop where
 ex:∃f fd,cZ P w κ mg aj (gQ P w) k f fd ps (spX κ fr (ao ps) F)/\mg x=ae (.ref f)/\lc κ (.ref f)=af/\Binds κ fd ps []
def mK.mono(h:mK P w c mg aj j x d e F)(g:j<=k):mK P w c mg aj k x d e F:=
 let ⟨f,i,a,b⟩:=h.ex
 ⟨f,i,a.mono g,b⟩
def KP(n:Nat)(F:LD->aw D)(g:TY):Sl->aw D:=λa=>match g a with
 |.ok c=>bh (ao c=n) (F c)
 |_=>.am
section
def OV{j:L2.St}(F:cZ X.P X.w X.K X.mg X.aj n k f o l p)(q:aX k X.A)(v:Binds X.K o l [])
  (I:aK X a j H s) (r:aW m c) (h:p m H Q E) (w:∀e i,n X.stack H s E e i->X.xe e i):wpAny (bj X) X.A (call (.ref f) c) (EP X a j Q) X.xe s:=by
 have z:c.length=l.length:=by rw[<-r.length];exact F.len _ _ _ _ h
 have d:=v s c I.fP aZ;rw[rH]at d;refine Bm (tt (F.run X.A X.stack s H ⟨c,[]⟩ c m Q E q I.l5 d r h) λr i g=>?_)
 cases r with
 |error e=>exact w e i g
 |ok y=>
  cases y with
  |ret u=>exact I.after g
  |next|brk|cont=>exact mT g
def mK.call(A:mK X.P X.w X.K X.mg X.aj k x l Y F)(hr:aX k X.A)(ha:DA X .s (e::y) g)(B:l.length=n:=by rfl)(hg:Gl X x:=by rfl)(J:YG x:=by decide)
   (he:Wn X e y:=by exact jq aa) (L:Vl X m y:=by exact jR aa):nS X (if Y=af then .t else .s) (.Call (.Name x p) (e::y) [] m) (KP n F g):=by
 subst B;obtain⟨f,fd,h1,h2,h3,h4⟩:=A.ex
 nomatch (by
 rintro i s σ H Q I ⟨G,H0,a,kk,q⟩
 have key:∃h,g a=.ok h/\KP l.length F g a=bh (h.length=l.length) (F h):=by
   cases e1:g a with
   |ok h=>exact⟨h,rfl,by delta KP;rw[e1]⟩
   |_=>
     have z:KP l.length F g a=.am:=by delta KP;rw[e1]
     simp_all
 obtain⟨h,e1,e2⟩:=key;rw[e2]at q;refine Bn (Zk I hg h2 ?_ J);refine E2 I.ok.mod.vE h3 (bE ((ha) m i s σ H (λN o=>aA H o/\ay X.K (Sf G a σ) o N h) I ⟨G,H0,a,h,kk,e1,λN H' j r'=>⟨j,r'⟩⟩) λus s1 ⟨N,o,u,r,sm,w⟩=>⟨u.fP,?_⟩) he L;rcases q with⟨d,O,q⟩|⟨c,O,th⟩
 .obtain⟨B,e3⟩:=jE O;refine OV (E:=λb b b=>False) h1 hr h4 u r ⟨_,h,by rw[w.length];exact B,w,.inl ⟨d,e3,λv H2 s2 r2 nt=>?_⟩⟩ λe j U=>?_
  .have r3:=r2.aS λc z=>z.elim (λz=>kk.new c (aA.free sm z)) λz=>z
   cases Y with
   |true=>exact q v H2 (sm.trans s2) r3 ((nt aa).aB sm)
   |false=>exact q v H2 (sm.trans s2) r3 trivial
  .obtain⟨_,_,_,_,_,_,_,_,_,_,_,_,_,z⟩:=U
   simp_all
 .have hm:h.length=l.length/\F h=.exc c:=by
    delta bh at O
    grind
  refine OV (E:=XE X.K c o) h1 hr h4 u r ⟨_,h,by rw[w.length];exact hm.1,w,.inr ⟨c,hm.2,λC H' hC j=>⟨C,rfl,hC,j⟩⟩⟩ λe j U=>?_
  exact th i o s1 e j sm u U)
end
def gR(e:Bool)(n:Nat)(g:TZ)(h:LD):aw D:=match g (qV n h)with
 |.ok (.rt a d)=>if e=af/\a=ag then .am else .ok d
 |.ok (.nx _)=>.ok .bo
 |.exc c=>.exc c
 |_=>.am
def jeZ(h:gR d n g a=.exc c):g (qV n a)=.exc c:=by
 delta gR at h
 grind
set_option tactic.hygienic true in
theorem jaT(h:gR i n g j=.ok d):Meets i n g j d:=by
 unfold gR at h
 split at h
 .rename_i a l e
  split at h
  .cases h
  .rename_i m;cases h;refine .inl ⟨a,e,λo=>?_⟩
   cases a with
   |true=>rfl
   |false=>simp_all
 .rename_i c e;cases h;exact .inr ⟨rfl,c,e⟩
 all_goals simp_all
section
def jmk{st}(U)(Y:mE o x x st f fd)(p:mg x=ae (.ref f))(S:aC N ps (jj st))(u:Binds o fd ps [])
   (hb:∀(j)(A)(i)(s)(H)(E),aX k (A.deeper (i5 x (jj st) s.heap.objs.size f j))->iO (cA (gQ P w) P w o mg l N x (jj st) f j A i s H E) (zg st) g):
   mK P w o mg l (k+1) x ps U (gR U (ao N) g):=by
 refine⟨f,fd,?_,p,Y.kp,u⟩
 nomatch (by
 obtain⟨oc,od,kV,doc,pm,an,j,ct,E4,rfl,lk,y⟩:=Y.ex;refine Hx lk y S (by rintro vs H Q E ⟨B,ds,hl,_⟩;exact hl) λA i s H vs Q E hr h=>?_
 obtain⟨B,ds,hl,r,q⟩:=h;refine⟨_,hb j A i s H E hr,?_⟩;have J:=Uo (N:=N) r;rcases q with⟨d,e,q⟩|⟨c,e,q⟩
 .rcases jaT e with⟨fr',z,hf⟩|⟨rfl,env',z⟩
  .exact⟨_,H,_,J,.inl ⟨_,z,λv m s r nt=>q v m s r λhh=>nt (hf hh)⟩⟩
  .exact⟨_,H,_,J,.inl ⟨_,z,λBt m k' f'=>q .bo m k'.aj .bo λb a e=>by cases e⟩⟩
 .refine⟨_,H,_,J,.inr ⟨c,jeZ e,λn σ H1 s1 h e C vs sm L I hx=>Ye I hx (q C H1 L sm),λσ H1 sm n H2 s1 e s' O I cx=>uz I cx λC m z=>?_⟩⟩;obtain⟨C',e',L,s3⟩:=z;cases e'
  exact q C m L (sm.trans (O.trans s3)))
end
def IP(c:Str):Sl->aw br:=λx=>.exc c
def jlr(h:StrKeys c):∃l:List Str,∀x,x∉l->nsFind c x=ah:=by
 have go:∀r:List DictEntry,(∀e∈r,∃n t,e.key=.str n t)->∃l:List Str,∀e∈r,∀x,e.key.isStr x=af->x∈l:=by
  intro r
  induction r with
  |nil=>simp_all
  |cons e r d=>
   intro h;obtain⟨l,g⟩:=d λe he=>h e (g9 _ he)
   obtain⟨n,t,i⟩:=h e g8;refine⟨n::l,λj he x a=>?_⟩;rcases cM.mp he with rfl|he
   .rw[i]at a;exact cM.mpr (.inl (Value.isStr_inj (.str n t) x n a (beq_self_eq_true n)))
   .grind
 obtain⟨l,g⟩:=go c.toList λe he=>h e (Hi.mp he)
 refine⟨l,λx a=>?_⟩
 delta nsFind findBy
 grind
def jjj(p:fW)(M:Mod j mg h)(r:i8 j c C)(q:rW j C e a=af):
  ∃m N u v bs d w sub y i dd z B E H I n,h.get? C=ae (excClassObj u v C N bs m d w sub y i dd z B E H I a)/\h.Ns N n/\n "__init__" =ah/\OwnTail h e m:=by
 have g:=M.glob;obtain⟨o,es,ep,h1,h2,J,L⟩:=g;obtain⟨mb,O,Q⟩:=M.blt;obtain⟨l,U⟩:=jlr J;exact(PySem.W.own_of_in (p:=p) M.vE ⟨M.glob,O,M.nolimit,Q,λx b Y b b b=>(L x).symm.trans (U x Y)⟩ r q).obj
def XZ(Q:i8 X.K c C)(hm:X.mg c=ae (.ref C))(hq:rW X.K C bm h=af)(FB:ExcBaseFacts B h m bm)
   (ha:DE X l a f) (p:∀env,∃d,f env=.ok d) (i:X.bU=af) (hg:Gl X c) (w:YG c)
   (U:bx [a] X.V=(ag,eval a X.V)::bx [] X.V)
   {n:L2.St} (I:aK X g n H s) (k:aH X.K G H0 env n H) (th:Dz X c H):
   wpAny (bj X) X.A (exec (.Raise (ae (.Call (.Name c np) [a] [] Y)) ah pos) X.V) (λfl y=>SP X g E fl y) X.xe s:=by
 nomatch (by
  obtain⟨d,hd⟩:=p env;obtain⟨tl,N,nm,qn,bs,j,sn,sub,ab,z,dd,k0,k1,k2,k3,k5,mN,J,hN,L,T⟩:=jjj X.P I.ok.mod Q hq
  refine wpAny_Raise_call_subT (nm:=nm) (q:=qn) (N:=N) (bs:=bs) (hdct:=j) (sn:=sn) (sub:=sub) (ab:=ab) (col:=z) (dd:=dd) (k0:=k0) (k1:=k1) (k2:=k2) (k3:=k3) (k5:=k5)
   FB (T.hasType FB.hasBase) (I.ok.hd i) (by rw[U];rfl) L (Zk I hg hm ⟨rfl,?_⟩ w)
  rw[U];refine Calls.evalArgs_plain (Hr (bE ((ha) g s n H (λv O=>aA H O) I ⟨G,H0,env,d,k,hd,λv H' y x x=>y⟩) λu s1 ⟨v,O,o,r,sm⟩=>Hq ?_))
  exact⟨rfl,(by decide:1<=ba),o.bk _ _ J,hN.keeps o.bk,T.keeps o.bk,λh' e hx=>th g n O {s1 with heap:=h'} s1.heap e C _ sm Q o hx⟩)
def Ur(w:i8 X.K c C)(y:X.mg c=ae (.ref C))(z:rW X.K C J i=af)(FB:ExcBaseFacts B i m J)
    (L:DE X l a f) (n:∀env,∃d,f env=.ok d) (j:X.bU=af:=by rfl) (N:Gl X c:=by rfl) (p:YG c:=by decide)
    (O:bx [a] X.V=(ag,eval a X.V)::bx [] X.V:=by exact jq aa):
    AJ X (.Raise (ae (.Call (.Name c np) [a] [] u)) ah Q) (IP c):=by
 nomatch (by
  rintro g s v H E I ⟨G,H0,env,k,q⟩;rcases q with⟨o,r,_⟩|⟨c',r,U⟩
  .cases r
  cases r
  exact XZ w y z FB L n j N p O I k λg v Y s1 h e C vs sm=>U.a g v Y s1 h e C vs (k.aj.trans sm))
def OW(X:Cx)(g:TZ):TS:=λE d H=>∃G e a,aH X.K G e a d H/\((∃o,g a=.ok o/\oA X.K G e a d H E o)\/∃c,g a=.exc c/\AI X c d H)
@[irreducible] def OX (X:Cx) (st:Stmt) (g:TZ):Prop:=PS X st (OW X g)
@[irreducible] def DB (X:Cx) (st:List Stmt) (g:TZ):Prop:=eh X st (OW X g)
section
variable{st:Stmt}
def jgx(a:OX X st c):DB X [st] c:=by
 nomatch (eh.imp (Wt a) λE d H q=>q)
def jgv(h:nS X l e f)(m:kw e ah g.line X.V=pure ag:=by rfl):OX X (.Expr e g) (CQ f):=by
 nomatch (PS.imp (Zg h m)<|by
  rintro E n H ⟨G,j,a,k,q⟩;rcases q with⟨o,i,q⟩|⟨c,i,p⟩
  .obtain⟨d,e1,e2⟩:=je i;cases e2;exact⟨G,j,a,k,.inl ⟨d,e1,λv u s r x=>q n u (k.aB s) (bN.refl s)⟩⟩
  .rcases Wc i with e1|⟨d,e1,e2⟩
   .exact⟨G,j,a,k,.inr ⟨c,e1,p⟩⟩
   .cases e2)
end
abbrev Cx.oJ(X:Cx)(E:Wo)(a:List (ar×Obj)):Cx:={X with xe:=E,pn:=X.pn++a}
abbrev Cx.held(X:Cx)(e:ar):Cx:={X with xe:=λx x=>False,A:=X.A.mark (ae (.ref e)),bU:=ag}
section
variable{Y:L2.St}
def jk5(ok:X.Ok):(Cx.oJ X E a).Ok:=⟨ok.mod,ok.kind,ok.glob,ok.blt,ok.above,ok.inj,ok.has,ok.sj,ok.hd,ok.frames,ok.tf,ok.tj,ok.bs,ok.oi,ok.j2,ok.kb,ok.fG,ok.pv⟩
def jfq(ok:(Cx.oJ X E a).Ok):X.Ok:=⟨ok.mod,ok.kind,ok.glob,ok.blt,ok.above,ok.inj,ok.has,ok.sj,ok.hd,ok.frames,ok.tf,ok.tj,ok.bs,ok.oi,ok.j2,ok.kb,ok.fG,ok.pv⟩
def jiV(I:aK X a Y H s):aK (Cx.oJ X E a) [] Y H s:=⟨jk5 I.ok,I.os,I.bare,I.aj,I.loc,I.cell,I.free,I.cO,λp c=>I.pin p aZ,I.be,I.len⟩
def JA(I:aK (Cx.oJ X E a) d Y H s):aK X a Y H s:=⟨jfq I.ok,I.os,I.bare,I.aj,I.loc,I.cell,I.free,I.cO,λp c=>I.pin p (o8 _ c),I.be,I.len⟩
def ZW{D}(h:SP (Cx.oJ X E d) [] D f e):SP X d D f e:=by
 cases f with
 |next|brk|cont=>obtain⟨a,c,I,q⟩:=h;exact⟨a,c,JA I,q⟩
 |ret u=>obtain⟨v,a,c,I,r,q⟩:=h;exact⟨v,a,c,JA I,r,q⟩
def jiv(ok:X.Ok):(Cx.held X e).Ok:=⟨ok.mod,ok.kind,ok.glob,ok.blt,ok.above,ok.inj,ok.has,ok.sj,bF,ok.frames,ok.tf,ok.tj,ok.bs,ok.oi,ok.j2,ok.kb,ok.fG,ok.pv⟩
def uD(I:aK X a Y H s):aK (Cx.held X e) a Y H s:=⟨jiv I.ok,I.os,I.bare,I.aj,I.loc,I.cell,I.free,I.cO,I.pin,I.be,I.len⟩
def JY(ok:X.Ok)(I:aK (Cx.held X e) a Y H s):aK X a Y H s:=⟨ok,I.os,I.bare,I.aj,I.loc,I.cell,I.free,I.cO,I.pin,I.be,I.len⟩
def Kn(I:aK X r Y H s)(hN:X.N.Nodup)(U:X.N[i]?=ae x)(hk:X.V.scope.names.lookup x=ae .local)
   (h:∀s',aK X r (Y.set i ah) H s'->Q () s'):wpAny M A (do bindName X.V x .none;unbindBehindTheSuite X.V x pos) Q E s:=by
 obtain⟨m,hn,hl⟩:=id I.loc;have u:(X.V.scope.kind==.class||(X.V.scope.kind==.module&&X.V.locals !=X.V.globals))=ag:=by rw[I.ok.kind];rfl
 have afO:i<ao Y:=by rw[I.len];exact(iZ.mp U).1
 have pw:=I.pw
 have g:∀{a:ar}{B:Heap},(∃o,s.heap.get? a=ae o/\H a=ah)->iw a s.heap B->eA X.P X.w H B:=λ{a B} ha l b ob e=>by
   obtain⟨_,_,J⟩:=ha;refine(I.be b ob e).bq (λc w' hc q=>(l.2 c ?_).trans q) (λf q=>q) λf f q=>q
   grind
 refine wpAny_nameGoes_keeps hk hn u λB v L l=>?_
 obtain⟨oL,_,_,N,_⟩:=id hn;refine h _ ⟨I.ok,I.os,I.bare,⟨λb o e n O w=>?_,λb o e n O w=>?_,I.aj.free,λb o e w=>?_,I.aj.ee,I.aj.eQ,I.aj.fg⟩,⟨_,L,λj y v' e1 e2 e3=>?_⟩,λy c e=>?_,I.free,I.cO,λp hp=>?_,g ⟨oL,N,I.free⟩ l,by simpa using I.len⟩
 .exact(l.2 b (di (dZ (b7 e) I.ok.above))).trans (I.aj.keep b o e n O w)
 .obtain⟨sl,e1⟩:=I.aj.slot b o e n O w;exact⟨sl,(l.2 b (di (dZ (b7 e) I.ok.above))).trans e1⟩
 .obtain⟨o',e1⟩:=I.aj.there b o e w;exact⟨o',(l.2 b (di (dZ (b7 e) I.ok.above))).trans e1⟩
 .by_cases hj:j=i
  .simp_all
  .rw[rE (gM hj)]at e2;obtain⟨u',r',q⟩:=hl j y v' e1 e2 e3;refine⟨u',r',?_⟩;rcases q with⟨k,e⟩|⟨k,c,e,z⟩
   .refine .inl ⟨k,?_⟩;have:y≠x:=λe=>hj (Ka hN e1 (e▸U))
    simp_all
   .exact .inr ⟨k,c,e,z.sameBut l (pw y c e)⟩
 .obtain⟨w',z⟩:=I.cell y c e;exact⟨w',z.sameBut l (pw y c e)⟩
 .obtain⟨e,n,ne,nf,d⟩:=I.pin p hp;exact⟨(l.2 p.1 ne).trans e,n,ne,nf,d⟩
end
def OY{B:Heap}(un:Un (eD a) [] H e h i)(y:eA P w e i)(fr:∀b∈eD a,e b=ah)
   (d:∀b,b∉eD a->((∃o,h.get? b=ae o)\/∃u,e b=ae u)->B.get? b=i.get? b) (N:i.FunFrames J a) (st:B.StaysIn l) (up:i.UpToSlots l):
   Un (eD a) [] H e h l/\eA P w e l:=by
 have m:∀b o,b∈eD a->i.get? b=ae o->∃L,l.get? b=ae {o with slots:=L}:=λb o g q=>by
   obtain⟨_,E,j,O⟩:=N.mem g;rw[q]at j;cases j;exact up b o q O
 refine⟨⟨λb o q n g x=>?_,λb o q n g x=>?_,un.free,λb o q x=>?_,un.ee,un.eQ,un.fg⟩,λb u q=>?_⟩
 .have p:=un.keep b o q n g aE;exact st b o ((d b g (.inl ⟨o,q⟩)).trans p)
 .obtain⟨L,p⟩:=un.slot b o q n g aE
  grind
 .obtain⟨E,p⟩:=un.there b o q aE
  by_cases Q:b∈eD a
  .grind
  .exact⟨E,st b E ((d b Q (.inl ⟨o,q⟩)).trans p)⟩
 .refine(y b u q).bq (λc v hc r=>?_) (λx z=>z) λx x z=>z
  have U:∃u,e c=ae u:=by grind
  obtain⟨Y,I⟩:=U;have nm:c∉eD a:=by grind
  exact st c v ((d c nm (.inr ⟨Y,I⟩)).trans r)
section
def Wy(o:qh (env.set j .un) (g.set j h) a):qh env g a:=by
 obtain⟨i,d,c,e⟩:=o
 by_cases z:j=i
 .subst z;obtain⟨q,_⟩:=jy c;cases q
 .rw[ju z]at c e;exact⟨i,d,c,e⟩
def aH.unset(k:aH m G p env d H):aH m G p (env.set j .un) (d.set j r) H:=by
 have w:∀a,Sf G env d a->Sf G (env.set j .un) (d.set j r) a:=λa n=>⟨λo=>n.1 (Wy o),n.2⟩
 refine⟨by simp[k.len],k.aj,k.g0,λi e h=>?_,λi e h=>?_,λi g e u a h1 h2 c l=>?_⟩
 .by_cases z:j=i
  .subst z;obtain⟨q,_⟩:=jy h;cases q
  .rw[ju z]at h ⊢;obtain⟨v,h1,h2⟩:=k.ai i e h;exact⟨v,h1,h2.aS w⟩
 .by_cases z:j=i
  .subst z;obtain⟨q,_⟩:=jy h;cases q
  .rw[ju z]at h ⊢;obtain⟨a,h1,h2,c⟩:=k.aG i e h;exact⟨a,h1,h2,c.bq (λx x e x=>e) w λx q=>q⟩
 .have y:j≠i:=by rintro rfl;obtain⟨q,_⟩:=jy h1;cases q
  have B:j≠g:=by rintro rfl;obtain⟨q,_⟩:=jy h2;cases q
  rw[ju y]at h1 c;rw[ju B]at h2 l;exact k.mZ i g e u a h1 h2 c l
def bN.unset:bN env a H (env.set j .un) (a.set j c) H:=⟨λx x e x=>e,λb o=>.inl (Wy o),λx e=>e⟩
end
def DC(j:Nat):br->br
 |.nx a=>.nx (a.set j .un)
 |.bk a=>.bk (a.set j .un)
 |.ct a=>.ct (a.set j .un)
 |.rt c d=>.rt c d
def p7(d:List Str)(g:TZ)(j:Nat)(e:TZ):Sl->aw br:=λa=>match g a with
 |.ok o=>.ok o
 |.exc c=>if d.contains c=af then e (a.set j (.ai (.eX c)))>>=λo=>.ok (DC j o)else .am
 |.am=>.am
def jkd(un:Un fs [] H g h i)(j:eA P w g i)(E:h.get? a=ah)(d:g a=ah)(p:i.get? a=ae l):
   Un fs [] H (aQ g a (.bQ l (.aG a))) h i/\eA P w (aQ g a (.bQ l (.aG a))) i:=by
 refine⟨⟨un.keep,un.slot,λb o q n z=>?_,un.there,λb r q=>?_,λb o u q=>?_,λb B q=>?_⟩,λb u e=>?_⟩
 .rw[jz dX];exact un.free b o q n z
 .have:=un.ee b r q;rw[jz (qi this d)];exact this
 .have:=un.eQ b o u q;rw[jz (qi this d)];exact this
 .obtain⟨m,e⟩:=un.fg b B q;exact⟨m,by rw[jz (qi e d)];exact e⟩
 .by_cases y:b=a
  .subst y;rw[jv]at e;cases e;exact⟨p,l,p⟩
  .rw[jz y]at e;exact(j b u e).bq (λc v x q=>q) (λc q=>by rw[jz (qi q d)];exact q) λc r q=>by rw[jz (qi q d)];exact q
def IQ(X:Cx)(a:List (ar×Obj))(E:Ends)(h:List ExceptHandler)(e:aJ)(c:bT):Prop:=wpAny (bj X) X.A (noteFrame e X.V) (λx d=>wpAny (bj X) X.A (setFlight e ah) (λx g=>
 wpAny (bj X) X.A (handleBy e X.V h) (SP X a E) X.xe g) X.xe d) X.xe c
def jlW(cs)(j)(hN:X.N.Nodup)(O:∀E' ps,DB (Cx.oJ X E' ps) body g)(hs:∀e,h9 (Cx.held X e) (y::p) gs)
    (hT:X.mg T=ae (.ref CT)) (hx:∀c,cs.contains c=af->∀C,i8 X.K c C->DD X.K (.ref C) (.ref CT)=ae af)
    (hj:X.N[j]?=ae n:=by rfl) (hl:X.V.scope.names.lookup n=ae .local:=by rfl) (BL:X.stack=X.V::X.outer:=by rfl) (Ie:X.V.frame=ae X.V.locals:=by rfl) (hg:Gl X T:=by rfl) (IR:YG T:=by decide):
    DS X (.Try body [.ExceptHandler (ae (.Name T np)) (ae n) (y::p) IS] [] [] pos) (p7 cs g j gs):=by
 nomatch (by
  rintro r s σ H E I ⟨G,H0,w,o,k,ef,q⟩;refine wpAny_Try_except (lU ((O (IQ X r E [.ExceptHandler (ae (.Name T np)) (ae n) (y::p) IS]) r) [] s σ H E (jiV I) ⟨G,H0,w,k,?_⟩) (λf s1 hq=>?_) λe s1 h=>h)
  .delta p7 at ef
   cases eg:g w with
   |ok o'|am=>simp_all
   |exc c=>
    rw[eg]at ef;dsimp only at ef
    by_cases hc:cs.contains c=af
    .rw[if_pos hc]at ef;obtain⟨o1,e1,e2⟩:=je ef;cases e2;refine .inr ⟨c,rfl,λOZ H1 s2 e s' sm I' cx=>?_⟩;have I1:=JA I';obtain⟨a,C,L,B,a0,rfl,os,bare,un,Q,ha,fl,U,C',eC,hC,BM⟩:=cx;cases eC;have J:=I1.lY os un Q bare λb O=>absurd O aE
     have nb:a∉eD X.stack:=λhm=>by
       obtain⟨_,o',ho',hd⟩:=J.stack.mem hm;obtain⟨oe,vs,he,_,hv,_⟩:=fl.first
       simp_all
     have hn:s2.heap.get? a=ah:=by
       cases z:s2.heap.get? a with
       |none=>rfl
       |some o'=>
        obtain⟨ob,hob,_⟩:=fl.there;have:=U a nb (.inl ⟨o',z⟩);rw[fl.2.1,hob]at this;cases this
     refine wpAny_looks_onW (by rw[<-BL];exact I.ok.frames) Ie (by rw[<-BL];exact fl) λh2 held O0=>?_
     refine wpAny_landsW held λh3 IT O1=>?_
     obtain⟨f1,f2,Y,f4⟩:=IT;obtain⟨U3,O3⟩:=OY un Q J.fY U J.stack f1 (O0.trans O1);have I3:=I1.lY (s':={s' with heap:=h3}) os U3 O3 bare λb O=>absurd O aE
     refine wpAny_handleBy_cons (codeAny_handlers_test ?_) (by intro q;cases q);refine Zk (uD I3) hg hT ?_ IR;obtain⟨ob3,IU,hc3⟩:=O2 (Heap.TracedW.at f4);refine(PySem.W.exm_one I3.fP (by rw[<-hc3];exact(AK IU).andThen .now) (hx c hc C hC)).here ?_;refine codeAny_handlers_suite_as ?_;refine wpAny_setFlight_noneW f1 Y (Heap.TracedW.at f4) λh4 st4 FF4 tr4 DF=>?_
     have up4:=O0.trans (O1.trans λb o e n=>⟨o.slots,DF b o e n⟩);obtain⟨U4,O4⟩:=OY un Q J.fY U J.stack st4 up4;obtain⟨oe,hoe,hce⟩:=O2 (Heap.TracedW.at tr4);obtain⟨U5,O5⟩:=jkd U4 O4 hn ha hoe;have C6:aA H (aQ L a (.bQ oe (.aG a))):=(sm.trans BM).trans (aA.aQ ha);refine ZV (X:=Cx.held X a) (uD (I1.lY (s':={s' with heap:=h4}) os U5 O5 bare λb O=>absurd O aE)) hN hj (.inl hl) (v:=.ref a) aa (λs6 I6=>?_) (.inr hl);have kS:=(k.aB C6).m4 (i:=j) (.eX jv hce hC);have fS:bN w σ H (w.set j (.ai (.eX c))) (σ.set j (ae (.ref a))) (aQ L a (.bQ oe (.aG a))):=.set C6 λx x z x=>by cases z
     refine lU ((hs a) r s6 (σ.set j (ae (.ref a))) _ ⟨λl L=>E.nx (l.set j ah) L,E.rt,λl L=>E.bk (l.set j ah) L,λl L=>E.ct (l.set j ah) L⟩ I6 ⟨G,H0,_,o1,kS,e1,?_⟩) (λf s7 h7=>?_) λx x z=>mT z
     .cases o1 with
      |nx N|bk N|ct N=>exactλl m k3 Y=>q _ m k3.unset ((fS.trans Y).trans .unset)
      |rt fr d=>exact q
     .cases f with
      |next=>
       obtain⟨l,m,I7,q7⟩:=h7;exact Kn (JY I.ok I7) hN hj hl λs8 I8=>⟨_,m,I8,q7⟩
      |brk=>
       obtain⟨l,m,I7,q7⟩:=h7;exact Kn (JY I.ok I7) hN hj hl λs8 I8=>⟨_,m,I8,q7⟩
      |cont=>
       obtain⟨l,m,I7,q7⟩:=h7;exact Kn (JY I.ok I7) hN hj hl λs8 I8=>⟨_,m,I8,q7⟩
      |ret u=>
       obtain⟨v,l,m,I7,r7,q7⟩:=h7;exact Kn (JY I.ok I7) hN hj hl λs8 I8=>⟨v,_,m,I8,r7,q7⟩
    .simp_all
  .cases f with
   |next=>exact Cf (ZW hq)
   |brk|cont=>exact ZW hq
   |ret u=>exact ZW hq)
section
open PySem.W PySem.Calls
def jiT{H:Heap->Prop}(r:∀(M)(h),o.In h->H h->Looks M h (typeOf x) t)(e:gJ o t c=ae af):Answers (λs=>o.In s.heap/\H s.heap) x c af:=by
 intro dj tk j w A R s u;obtain⟨v,g,d,a,os⟩:=s;obtain⟨⟨X,p⟩,i⟩:=u;have LT:=r (aN j w) v X p
 delta gJ at e
 refine ax (LT.at ?_)
 by_cases q:(t==c)=af
 .rw[if_pos q]
  first
   |((repeat lk);exact i a)
   |exact ax (oF (i a))
   |exact ax (oF (aP (i a)))
 .rw[if_neg q]at e;rw[if_neg q];obtain⟨m,n,l⟩:=kit_cls X e;refine ax (m.at ?_)
  k_delta "plainIsInstance"
  refine ax (ax (n.at ?_));refine ax ((LT.andThen l).at ?_)
  first
   |exact aP (aP (i a))
   |(simp;first|exact aP (aP (i a))|exact aP (i a)|exact ax (aP (aP (i a))))
def jiS{H:Heap->Prop}(g:∀(M)(h),d.In h->H h->Looks M h (typeOf x) t)
  (X:d.In s.heap) (p:H s.heap) (e:gJ d t c=ae af) (i:x≠ .builtin "__main__.__loader__#opaque") (h:∀tk,Q (.bool af) {s with toks:=tk}):
  wpAny (aN a w) A (call (.builtin "isinstance") [x,c]) Q E s:=
 call_isinstance
  (λa w A R s j=>isinstance_outer (jiT g e 0 _ a w A R s j) i) ⟨⟨X,p⟩,h⟩
end
section
variable{X:Cx}
def J6:lW "dict" =ae (.type "dict"):=by decide+kernel
end
abbrev KF:=Int×(Sl->aw D)
section
def O6:iO X [] (Xh bP):=h9.x jM
end
section
def nS.s(h:nS X .t e f):nS X .s e f:=by
 nomatch (PE.imp h<|by
  rintro i H Q ⟨G,c,a,k,q⟩;rcases q with⟨d,e1,q⟩|z
  .exact⟨G,c,a,k,.inl ⟨d,e1,λv g s r x=>q v g s r trivial⟩⟩
  .exact⟨G,c,a,k,.inr z⟩)
def mK.DH(A:mK X.P X.w X.K X.mg X.aj k x j l F)(hr:aX k X.A)(m:DA X .s (e::a) g)(o:ao j=n:=by rfl)(hg:Gl X x:=by rfl)(c:YG x:=by decide)
  (q:Wn X e a:=by exact jq aa) (d:Vl X i a:=by exact jR aa):nS X .s (.Call (.Name x p) (e::a) [] i) (KP n F g):=by
 have h:=mK.call (p:=p) A hr m o hg c q d
 cases l with
 |true=>exact nS.s h
 |false=>exact h
end
def J8(t:TW)(g:TZ):D->Sl->aw br:=λd c=>match t d c with
 |.ok a=>g a
 |_=>.am
def me(f:TY)(t:TW)(g:TZ):Sl->aw br:=λa=>match f a with
 |.ok c=>bu (J8 t g) c a
 |_=>.am
def jjy(hp:vF (bj X) X.A X.V X.xe)(hc:X.bU=af)(hi:DI X tg e fi)(hg:DG X tg t)(hb:iO X body g)
   (hs:∀x,so e X.V x=pure x:=by intro _;rfl):AJ X (.For tg e body [] pos) (me fi t g):=by
 nomatch (
  PS.imp (vW hp hc hi hg hb hs)<|by
   rintro E σ H ⟨G,Q,r,k,q⟩
   have key:∃j,fi r=.ok j/\me fi t g r=bu (J8 t g) j r:=by
     cases e1:fi r with
     |ok j=>exact⟨j,rfl,by delta me;rw[e1]⟩
     |_=>
       have z:me fi t g r=.am:=by delta me;rw[e1]
       rcases q with⟨o,h,_⟩|⟨c,h,_⟩<;>(rw[z]at h;cases h)
   obtain⟨j,e1,e2⟩:=key;rw[e2]at q;generalize IV:bu (J8 t g) j r=L at q;refine⟨G,Q,r,j,k,e1,λJ H1 P sm wk p0 sD=>?_⟩;have k1:=k.aB sm
   have B:(∃o,L=.ok o/\oA X.K G Q r σ H1 E o)\/∃c,L=.exc c/\BK X c Q:=by
     rcases q with⟨o,h,q⟩|z
     .exact .inl ⟨o,h,Js (bN.refl sm) q⟩
     .exact .inr z
   refine⟨λi m w U=>m=ao j-i/\i<=ao j/\∃a,aH X.K G Q a w U/\bN r σ H1 a w U/\bu (J8 t g) (j.drop i) a=L,⟨ao j,by simp,fH _,r,k1,bN.refl (aA.refl H1),by simpa using IV⟩,?_⟩;rintro i m w U ⟨rfl,hi,a,k',f',e'⟩;obtain⟨w1,w2,w3⟩:=wk i U (sD a w U f')
   by_cases hd:i<ao j
   .refine .inr ⟨w1 hd,?_⟩;rw[CS hd]at e'
    have I:(J8 t g j[i] a>>=λo=>match o with
      |.nx a|.ct a=>bu (J8 t g) (j.drop (i+1)) a
      |.bk a=>.ok (.nx a)
      |.rt fr d=>.ok (.rt fr d))=L:=e'
    have IW:∃l,t j[i] a=.ok l/\J8 t g j[i] a=g l:=by
      cases e5:t j[i] a with
      |ok l=>exact⟨l,rfl,by delta J8;rw[e5]⟩
      |_=>
        have z:J8 t g j[i] a=.am:=by delta J8;rw[e5]
        rw[z]at I;have u:=I.symm;rcases B with⟨o,h,_⟩|⟨c,h,_⟩<;>(rw[u]at h;cases h)
    obtain⟨l,e5,e6⟩:=IW;rw[e6]at I;refine⟨λv Y=>ao j-(i+1)=ao j-(i+1)/\i+1<=ao j/\∃n,aH X.K G Q n v Y/\bN r σ H1 n v Y/\bu (J8 t g) (j.drop (i+1)) n=L,λv Y z=>⟨ao j-(i+1),by omega,z⟩,λx Y y=>?_⟩
    obtain⟨BM,rd⟩:aA U Y/\aV X.K (Sf G a w) Y x j[i]:=by
      rcases w2 _ (cW hd) x Y y with⟨rfl,rd⟩|⟨p,vs,es,hp,rfl,rfl,ed,rQ⟩
      .exact⟨aA.refl _,f'.rep k1 rd⟩
      .refine⟨aA.aQ hp,?_⟩;rw[ed];exact .ap jv ((f'.Ah k1 rQ).aB (aA.aQ hp))
    refine⟨G,Q,a,j[i],l,k'.aB BM,rd,e5,λBy CU CV=>⟨G,Q,l,CU,?_⟩⟩;have IX:=(f'.trans (bN.refl BM)).trans CV
    cases eg:g l with
    |am=>
      rw[eg]at I;have u:=I.symm;rcases B with⟨o,h,_⟩|⟨c,h,_⟩<;>(rw[u]at h;cases h)
    |exc c1=>
      rw[eg]at I;have u:=I.symm;rcases B with⟨o,h,_⟩|⟨c,h,th⟩
      .rw[u]at h;cases h
      .rw[u]at h;cases h;exact .inr ⟨c1,rfl,th⟩
    |ok o1=>
      rw[eg]at I;refine .inl ⟨o1,rfl,?_⟩
      cases o1 with
      |nx n|ct n=>exactλv H3 N O=>⟨rfl,hd,n,N,IX.trans O,I⟩
      |bk n=>
        have u:=I.symm;rcases B with⟨o,h,B⟩|⟨c,h,_⟩
        .rw[u]at h;cases h;exactλv H3 N O=>B v H3 N (IX.trans O)
        .rw[u]at h;cases h
      |rt fr dd=>
        have u:=I.symm;rcases B with⟨o,h,B⟩|⟨c,h,_⟩
        .rw[u]at h;cases h;exact B
        .rw[u]at h;cases h
   .have he:i=ao j:=by omega
    refine .inl ⟨w3 ak,?_⟩;rw[CW ak]at e';have u:=e'.symm;rcases B with⟨o,h,B⟩|⟨c,h,_⟩
    .rw[u]at h;cases h;exact B w U k' f'
    .rw[u]at h;cases h)
end M
namespace M
open PySem PySem.Spec PySem.W PySem.Calls
open PyProof.Rows hiding St
open Builtin Builtin.ObjectAttr Builtin.Getset_descriptor
section
variable{os:OsState}{C:ar}{Y:Frag}
def jeO(X:Y.In h)(e:h.get? a=ae o)(i:o.cls=.ref C)(j:mroIn Y C (.type "object")=ae af)(l:R (.ok (.ret (.ref C))) ⟨h,g,d,t,os⟩):
  lZ (aN c w) A (.call (.builtin "getset_descriptor.__get__") ⟨[.builtin "object.__class__",.ref a,m],[]⟩) R ⟨h,g,d,t,os⟩:=by
 have n:Looks (aN c w) h (typeOf (.ref a)) (.ref C):=i▸(AK e).andThen .now;have p:=looks_mroIn (M:=aN c w) X j;refine IY KF.slot_gs.plain KF.entry_gs (KF.slot_gs.check _ _ _ _ _ _ _ _ KF.type_class (KF.args_gs _ _ _) ?_)
 delta mF.«getset_descriptor.__get__» descrGet
 rw[dga_obj];refine ax (aP ?_)
 delta descrGetter descrCheckInstance descrNameAndClass isInstance
 simp only[KF.owner_class]
 repeat lk
 refine⟨Code.quiet_builtin _ cu,sL KF.entry_class ?_⟩
 delta mF.«object.__class__» shownTypeOf
 repeat lk
 exact l
def jbN(X:Y.In h)(d:ix Y (.ref C) "__class__" =ae (ae (.builtin "object.__class__")))(e:Cv Y (.builtin "object.__class__") "__get__" =ae (ae (.builtin "getset_descriptor.__get__")))(c:takesIn Y (.builtin "object.__class__")=ae af):
  Looks (aN prog w) h (find (.ref a) (.ref C) "__class__") (.bind (.builtin "getset_descriptor.__get__") (.builtin "object.__class__")):=
 (EX X d).andThen ((looks_specialIn X e).andThen
  ((show Looks (aN prog w) h (dataDescriptor? (ae (.builtin "object.__class__")) (ae (.builtin "getset_descriptor.__get__"))) (ae (.builtin "getset_descriptor.__get__",.builtin "object.__class__")) from(looks_takesIn X c).andThen .now).andThen (Looks.tag .now)))
def jaz(X:Y.In h)(i:h.get? a=ae o)(j:o.cls=.ref C)(l:mroIn Y C (.type "object")=ae af)
  (m:ix Y (.ref C) "__class__" =ae (ae (.builtin "object.__class__"))) (n:Cv Y (.builtin "object.__class__") "__get__" =ae (ae (.builtin "getset_descriptor.__get__"))) (e:takesIn Y (.builtin "object.__class__")=ae af)
  (p:Q (.done (.ret (.ref C))) ⟨h,g,d,t,os⟩):wpAny (aN c w) A (mF.«object.__getattribute__» ⟨[.ref a,.str "__class__" u],[]⟩) Q E ⟨h,g,d,t,os⟩:=by
 have q:Looks (aN c w) h (typeOf (.ref a)) (.ref C):=j▸(AK i).andThen .now;have r:=jbN (prog:=c) (w:=w) (a:=a) X m n e;refine ax (aP ?_);refine ax (aP ?_);refine ax (q.at ?_);refine ax (r.at ?_);exact ax (gk (Bm (jeO X i j l (aP p))))
def jbO(X:Y.In h)(r:h.get? a=ae o)(u:o.cls=.ref C)(y:mroIn Y C (.type "object")=ae af)(z:subIn Y (.ref C) (.type "BaseException")=ae af)
  (B:ix Y (.ref C) "__class__" =ae (ae (.builtin "object.__class__"))) (E:Cv Y (.builtin "object.__class__") "__get__" =ae (ae (.builtin "getset_descriptor.__get__"))) (n:takesIn Y (.builtin "object.__class__")=ae af)
  (H:R (.ok (.ret (.ref C))) ⟨h,g,d,t,os⟩):lZ (aN c w) A (.call (.builtin "BaseException.__getattribute__") ⟨[.ref a,.str "__class__" p],[]⟩) R ⟨h,g,d,t,os⟩:=by
 have I:Looks (aN c w) h (typeOf (.ref a)) (.ref C):=u▸(AK r).andThen .now;have J:Looks (aN c w) h (isSubtype (.ref C) (.type "BaseException")) af:=looks_subIn X z;refine IY F.excAttr_ValueError.ga.plain F.entry_bexc_ga ?_;have L:builtinKind "BaseException.__getattribute__" =ae .slot:=by kernel_rfl
 have q:splitId "BaseException.__getattribute__" =ae ("BaseException", "__getattribute__"):=by kernel_rfl
 have N:Looks (aN c w) h (isInstance (.ref a) (.type "BaseException")) af:=I.andThen J;have j:=F.args_bexc_ga (.ref a) (.str "__class__" p);simp only[checkBuiltinCall,L,q];refine ax (N.at ?_);simp
 have i:wpAny (aN c w) A.in1 (mF.«object.__getattribute__» ⟨[.ref a,.str "__class__" p],[]⟩) (λi m=>match i with|.done f=>R (.ok f) m|.again v=>v.quiet=af/\lZ (aN c w) A v R m) (λe m=>R (.error e) m) ⟨h,g,d,t,os⟩:=
  jaz X r u y B E n H
 cases l:Manifest.signature? "BaseException.__getattribute__" with
 |none=>exact aP i
 |some sig=>
  simp only[argsOk,l]at j;have O:=j;show wpAny _ _ (Bind.checkArgs "BaseException.__getattribute__" sig ⟨[.ref a,.str "__class__" p],[]⟩) _ _ _;rw[O];exact aP i
structure ly(Y:Frag)(C:ar):Prop where
 cls:(clsIn Y C).isSome=af
 obj:mroIn Y C (.type "object")=ae af
 aj:subIn Y (.ref C) (.type "BaseException")=ae af
 aG:ix Y (.ref C) "__class__" =ae (ae (.builtin "object.__class__"))
 get:Cv Y (.builtin "object.__class__") "__get__" =ae (ae (.builtin "getset_descriptor.__get__"))
 tak:takesIn Y (.builtin "object.__class__")=ae af
 ga:ix Y (.ref C) "__getattribute__" =ae (ae (.builtin "BaseException.__getattribute__"))
 hk:ix Y (.ref C) "__getattr__" =ae ah
def jbP(X:Y.In h)(c:ly Y C)(i:h.get? a=ae o)(j:o.cls=.ref C)(l:Q (ae (.ref C)) ⟨h,g,d,t+1,os⟩):wpAny (aN e w) A (getAttr? (.ref a) "__class__") Q E ⟨h,g,d,t,os⟩:=by
 have m:Looks (aN e w) h (typeOf (.ref a)) (.ref C):=j▸(AK i).andThen .now;have n:=EX (M:=aN e w) X c.ga;have L2:=EX (M:=aN e w) X c.hk;refine ax (wpAny_mkText (ax (BF (gk (ax (m.at (ax (n.at ?_))))))));refine ax (L2.at ?_);refine ax (BF (gk ?_));show wpAny _ _ (boundAndCalled _ _ _) _ _ _;refine ax (aP ?_);exact Bm (jbO X i j c.obj c.aj c.aG c.get c.tak (aP (aP l)))
set_option tactic.hygienic true in
theorem jfW(c:ly Y C):KitX Y (.ref a) (.ref C) (λh=>∃o,h.get? a=ae o/\o.cls=.ref C) where
 ty:=by rintro _ _ _ ⟨o,j,l⟩;exact l▸(AK j).andThen .now
 it:=λx x X x=>by
  obtain⟨m,i⟩:=Hv.mp c.cls;unfold clsIn at i
  split at i
  .rename_i y B p r j;intro J L N O k q;exact ax (wpAny_loadPart (k _ _ (X _ _ j)) (aP q))
  .cases i
 ne:=λh U dd H n sl X u=>by
  obtain⟨m,i⟩:=Hv.mp c.cls;refine Bool.eq_false_iff.mpr λq=>?_
  have e:=Value.ref.inj (beq_iff_eq.mp q);subst e;unfold clsIn at i
  split at i
  .rename_i y B p r j;have z:=(X _ _ j).symm.trans u;cases z
  .cases i
 ca:=λ{v w A E Q s} X I k=>by
  obtain⟨o,j,l⟩:=I;obtain⟨h,g,d,t,os⟩:=s;exact jbP X c j l k
end
section
open L2
def jgS(d:List (Str×Bool))(h:∀u,aR cV u->u=i)(j:∀c b,d.lookup c=ae b->∀C,i8 X.K c C->ly X.K C/\gJ X.K (.ref C) i=ae b):
  bG X (.builtin "isinstance") (λe H Q=>∃x c b,e=[x,cV]/\aV X.K Any H x (.eX c)/\d.lookup c=ae b/\Q (.bl b) H):=by
 rintro g s O H e U Q I r ⟨x,c,b,l,m,n,q⟩;subst l;obtain⟨u,p,rfl,v,w⟩:=Bk r;cases h p w
 cases m with
 | @eX _ _ a Y C o _ y z B=>
  cases(v);obtain⟨E,_⟩:=(I.be a _ y)
  obtain⟨J,L⟩:=j c b n C B;exact ot (jfW J) I.fP ⟨o,E,z⟩ L bF λN=>⟨.bl b,H,I.tok N,rfl,q⟩
noncomputable def AL(a:List (Str×Bool)):D->aw D
 |.eX c=>match a.lookup c with
  |some b=>.ok (.bl b)
  |none=>.am
 |_=>.am
def AM(a:List (Str×Bool))(f:T3):Sl->aw D:=λc=>f c>>=AL a
def jf7(h:AL e a=.ok d):∃c b,a=.eX c/\e.lookup c=ae b/\d=.bl b:=by
 delta AL at h
 grind
def O7(g)(Ty)(B:∀c b,g.lookup c=ae b->∀C,i8 X.K c C->ly X.K C/\gJ X.K (.ref C) (.ref i)=ae b)(E:DE X l e f)
   (I:Gl X "isinstance") (J:X.mg "isinstance" =ah) (j:Gl X Ty) (m:X.mg Ty=ae (.ref i))
   (L:YG Ty:=by decide) (z:bx [e,.Name Ty h] X.V=(ag,eval e X.V)::bx [.Name Ty h] X.V:=by exact jq aa)
   (n:bx [.Name Ty h] X.V=(ag,eval (.Name Ty h) X.V)::bx [] X.V:=by exact jq aa) (o:(fh w (bx [.Name Ty h] X.V)).any (·.1)=ag:=by exact jR aa):
   DE X l' (.Call (.Name "isinstance" p) [e,.Name Ty h] [] w) (AM g f):=by
 nomatch (
  PE.imp (yd (jgS g (cV:=.ref i) (λu r=>r) B) I J Fl (qc E (qc (YR (v:=.ref i) j m aa L) zV n) z) au au z o)<|by
   rintro σ H Q ⟨G,N,y,d,k,O,q⟩;obtain⟨a,e1,e2⟩:=je O;refine⟨G,N,y,a,k,e1,λv U s r x=>?_⟩;obtain⟨c,b,rfl,Y,rfl⟩:=jf7 e2
   exact⟨v,c,b,rfl,r.aS Lv.bA,Y,q _ U s (.bl b) (iz (κ:=X.K) b).T⟩)
end
end M
namespace M
open PySem PySem.Spec L2
open PyProof.Rows hiding St
def mK.av(h:mK P w i mg aj k x j l F):Av P w i mg aj k x j l (λa=>p6 (F a)):=by
 obtain⟨f,m,G,b⟩:=h.ex;refine⟨f,m,⟨by rintro c H Q E ⟨B,a,d,hl,_⟩;exact hl,λA outer s H args n c Q E hr o p u v=>?_⟩,b⟩;obtain⟨B,a,d,hl,r,e,q⟩:=v;refine tt (G.run A outer s H args n c Q (λt t t=>False) hr o p u ⟨B,a,hl,r,.inl ⟨d,X9 e,q⟩⟩) λr I g=>?_
 cases r with
 |error e=>
  obtain⟨_,_,_,_,_,_,_,_,_,_,_,_,_,z⟩:=g
  simp_all
 |ok y=>cases y<;>exact g
theorem ay.set(a:aV c A H v d):∀{e}{g:LD}(j),ay c A H e g->ay c A H (e.set j v) (g.set j d)
 |_,_,_,.nil=>.nil
 |_,_,0,.cons _ t=>.cons a t
 |_,_,j+1,.cons h t=>.cons h (ay.set a j t)
def IZ(i:Nat)(e fv:T3):Sl->aw br:=λa=>eH i a>>=λc=>fv a>>=λd=>e a>>=λg=>match g with
 |.int n=>match pB (ao c) n with
  |some j=>.ok (.nx (a.set i (.aG (.al (c.set j d)))))
  |none=>.am
 |_=>.am
def jgy(i)(Q:DE X l1 e1 U)(Y:DE X .s e2 fv)(hN:X.N[i]?=ae x:=by rfl)(w:gj X.V.scope x:=by exact dC aa)
   (hd:YG x:=by decide) (z:YF x:=by decide)
   (u:∀v,oo (.Subscript (.Name x p) e1 c) X.V v=(do
    let ov<-mS [v] (eval (.Name x p) X.V)
    let B<-mS [v,ov] (eval e1 X.V)
    rF c
    mS [v,ov,B] (setItem ov B v)
    release [v,ov,B] []):=by intro _;rfl)
   (hs:swapsWithSole [.Subscript (.Name x p) e1 c] e2 I.line X.V=pure ag:=by rfl) (hw:swappedStores [.Subscript (.Name x p) e1 c] e2 X.V=pure ah:=by rfl)
   (h1:(i4 [.Subscript (.Name x p) e1 c] X.V).map (·.2)=[oo (.Subscript (.Name x p) e1 c) X.V]:=by rfl):
   DS X (.Assign [.Subscript (.Name x p) e1 c] e2 I) (IZ i U fv):=by
 nomatch (
  PS.imp (Nf Y (UR (zC hN w hd z) Q jeW u) hs hw h1)<|by
   rintro E σ H ⟨G,L,g,o,k,h,q⟩;obtain⟨ds,c1,h⟩:=je h;obtain⟨d,c2,h⟩:=je h;obtain⟨kd,c3,e⟩:=je h;have N:=yf c1;obtain⟨a,xs,u,hx,O⟩:=ye k N
   cases kd with
   |int n=>
    dsimp only at e
    cases J:pB ds.length n with
    |none=>rw[J]at e;cases e
    |some j=>
     rw[J]at e;cases e;refine⟨G,L,g,d,k,c2,λv H1 l r1 b=>⟨.ref a,u,G,L,g,.int n,k.aB l,c3,λy H2 m r2 b=>?_⟩⟩;have r:=m _ _ (l _ _ hx);cases(r2.aS Lv.bA).eG;refine⟨a,xs,n,j,rfl,rfl,r,by rw[O.length];exact J,?_⟩;have W:=((k.aB l).aB m).write N u r (ay.set (r1.aB m) j ((O.aB l).aB m));exact q σ _ W.1 ((W.2.aB m).aB l)
   |_=>exact dD e)
section
def jfG(a:s.heap.IsTupleIter e t i)(m:s.heap.IsTuple t c)(n:c[i]?=ae x)(p:∀h,h.IsTupleIter e t (i+1)->iw e s.heap h->Q x {s with heap:=h}):
  wpAny (aN l w) A (O8 (.ref e)) Q E s:=by
 obtain⟨o,g,q,d⟩:=id a;obtain⟨r,j,_,u,hd2⟩:=m
 refine ax (tu a.typeIs FH (nK FH a.typeIs F.entry_tuple_iterator_next
  (show wpAny _ _ (field (.ref e) 0>>=_) _ _ s from ax (ox g d aa (show wpAny _ _ (if(cg t==lI)=af then _ else _) _ _ s from ?_))) (F.args_tuple_iterator_next_1 _)))
 refine(ax (ox g d aa (show wpAny _ _ (seqItems? (.ref t)>>=_) _ _ s from ax (vr j hd2 ?_))));simp only[AD,n];exact ax (Dt g d aE (aP ⟨x,rfl,aP (p _ ⟨_,sy _ g (Obj.isFreed_of_fields (FC d _)),(Obj.cls_mapFields ..).trans q,by rw[FC d];simp[lK]⟩ (rT ..))⟩))
def O9(n:A.handled=ah)(a:s.heap.IsTupleIter d t i)(p:s.heap.IsTuple t c)(q:c[i]?=ah)
  (r:∀g e,Heap.ExtBut d s.heap g->(∃o,g.get? e=ae o/\o.cls=.type "StopIteration")->E (.ref e) {s with heap:=g}):
  wpAny (aN m w) A (O8 (.ref d)) Q E s:=by
 obtain⟨o,h,u,j⟩:=id a;obtain⟨v,l,_,y,hd2⟩:=p
 refine ax (tu a.typeIs FH (nK FH a.typeIs F.entry_tuple_iterator_next
  (show wpAny _ _ (field (.ref d) 0>>=_) _ _ s from ax (ox h j aa (show wpAny _ _ (if(cg t==lI)=af then _ else _) _ _ s from ?_))) (F.args_tuple_iterator_next_1 _)))
 refine(ax (ox h j aa (show wpAny _ _ (seqItems? (.ref t)>>=_) _ _ s from ax (vr l hd2 ?_))));simp only[AD,q];refine ax (oF (ax (Dt h j aE (ax ?_))));refine ax (nM (ax (wpAny_of_eq (by first|rfl|(simp;rfl)) (nM ?_ (by size_fits)))) (by size_fits));refine ax (wpAny_handled ?_);rw[show A.in1.handled=ah from n];exact ax (aP (wpAny_throw (r _ _ (((rT ..).extBut.push _).push _) ⟨_,dA _ aa,rfl⟩)))
def jd5(u:A.handled=ah)(c l)(j:l≠c)(a):Draws n w A c [c,l] a.size (λi v=>a[i]?=ae v) (λi h=>h.IsTupleIter c l i/\h.IsTuple l a) where
 live:=λb b st=>let ⟨o,m,_⟩:=st.1;⟨o,m⟩
 frame:=λb b b st p=>⟨st.1.at λo e=>p c aE o e,let ⟨o,m,r⟩:=st.2;⟨o,p l aE o m,r⟩⟩
 item:=λi s Q E q st y=>jfG st.1 st.2 (x:=a[i]) (by simp[q]) λz d g=>y _ z s.toks (by simp[q]) ⟨d,st.2.extBut g.extBut j⟩ g
 done:=λs Q E st B=>O9 u st.1 st.2 aE B
def jgC(n:A.handled=ah)(c l)(a)(i)(u:a.size<=i):Draws g w A c [c,l] i (λx x=>True) (λj h=>j=i/\h.IsTupleIter c l j/\h.IsTuple l a) where
 live:=λx x st=>let ⟨o,d,_⟩:=st.2.1;⟨o,d⟩
 frame:=λx x x st m=>⟨st.1,st.2.1.at λo e=>m c aE o e,let ⟨o,d,r⟩:=st.2.2;⟨o,m l aE o d,r⟩⟩
 item:=λj s Q E p st v=>absurd st.1 (di p)
 done:=λs Q E st q=>O9 n st.2.1 st.2.2 cf q
end
def je7{d:Type}{a:d}{c:fW}{w:World}{A:hJ}{Q:d->bT->Prop}{E:Wo}{s:bT}(h:∀b,Q b s):wpAny (aN c w) A (pure a) Q E s:=aP (h a)
open AutoSeq1 (wpAny_loadPart') in
theorem jdX(l)(a)(n)(c)(m):
  PySem.Meets (mF.«enumerate.__new__» ⟨[.type "enumerate",.ref l],[]⟩) (λx R s=>s.heap.get? l=ae {cls:=.type "tuple",dict:=c,data:=.seq a n,slots:=m}/\
   R (.ok (.ret (.ref (s.heap.push {cls:=.type "tuple_iterator",data:=.fields #[.ref l,.int 0 0]}).objs.size)))
    {s with heap:=(s.heap.push {cls:=.type "tuple_iterator",data:=.fields #[.ref l,.int 0 0]}).push {cls:=.type "enumerate",data:=.fields #[.none,.bool ag,.ref s.heap.objs.size,lK 0,.none,.none]}}):=
 .of_wp λi w A R s h=>by
  obtain⟨o,g,d,tk,os⟩:=s;obtain⟨e,h⟩:=h;have j:=sub_enumerate;have p:Heap.IsTuple (Shared.heap ⟨o,g,d,tk,os⟩) l a:=⟨_,e,rfl,n,rfl⟩
  wp_walk using Ff e
  refine wpAny_stack_any λst=>je7 λb=>?_
  cases b<;>(wp_walk using Ff e,wpAny_pyIter_tuple p;exact⟨_,rfl,h⟩)
section
variable{s:bT}
def jbD(r:s.heap.IsTuple l a)
  (h:∀d,IsEnum d (s.heap.objs.size+1) s.heap.objs.size 0 .none->d.IsTupleIter s.heap.objs.size l 0->(∀b o,s.heap.get? b=ae o->d.get? b=ae o)->Q (.ref (s.heap.objs.size+1)) {s with heap:=d}):
  wpAny (aN p w) A (call (.type "enumerate") [.ref l]) Q E s:=by
 obtain⟨⟨c,g,dt,u⟩,v,y,n,z⟩:=r;cases(y);cases(z);refine callType_new F.called_enumerate au (F.typeCall_enumerate_1 _) (F.newCall_enumerate_1 _) (λobj=>F.args_object_init_2 obj _) F.entry_enumerate_new (jdX l a n g u) ⟨v,?_⟩;generalize i:s.heap.push {cls:=.type "tuple_iterator",data:=.fields #[.ref l,.int 0 0]}=e;have q:e.objs.size=s.heap.objs.size+1:=by rw[<-i];exact su ..
 have j:e.get? s.heap.objs.size=ae {cls:=.type "tuple_iterator",data:=.fields #[.ref l,.int 0 0]}:=by rw[<-i];exact dA _ aa
 have B:∀b o,s.heap.get? b=ae o->e.get? b=ae o:=λb o x=>by rw[<-i];exact cc _ x
 have m:=dA e (o:={cls:=.type "enumerate",data:=.fields #[.none,.bool ag,.ref s.heap.objs.size,lK 0,.none,.none]}) aa;rw[q]at m;rw[q];exact⟨⟨_,m,rfl⟩,h _ m ⟨_,cc _ j,rfl,rfl⟩ λb o x=>cc _ (B b o x)⟩
end
noncomputable def I0(d:bK)(a:ar)(c:List V):It:=⟨λi H=>gO d H a c/\i<ao c,λi H v e=>∃p x,H p=ah/\c[i]?=ae x/\v=.ref p/\e=aQ H p (.ap [.int (i:Int),x]),λi H=>gO d H a c/\ao c<=i⟩
def jaG(a d e)(Y)(v:e≠d)(hai:a≠d)(hae:a≠e):Turn P w κ (.Tuple elts n pos) (I0 κ a Y) [e,d] e (λi h=>(∃g,IsEnum h e d (i) g)/\h.IsTupleIter d a i) where
 mem:=by simp
 obj:=λi h st b B=>by
  obtain⟨⟨g,m⟩,o,ho,hc,hd⟩:=st
  grind
 keep:=λi h h' st k=>by
  obtain⟨⟨g,m⟩,j⟩:=st;exact⟨⟨g,k e aE _ m⟩,j.at λo x=>k d aE o x⟩
 item:=by
  intro X hP hw hK hc i c s σ H E I J st hg;subst hP hw hK;obtain⟨hq,hi⟩:=hg;obtain⟨l,rv,p,hz⟩:=I.tuple hq;have hx:=cW hi;obtain⟨u,hu,ru⟩:=rv.get hx;obtain⟨⟨g,m⟩,j⟩:=st;have fe:=J e aE;have fi:=J d aE;have hl:=rv.length;refine wpAny_pyNext_enum_itemD (jd5 (A:=X.A.in1) (I.ok.hd hc) d a hai l.toArray) m ⟨j,show s.heap.IsTuple a l.toArray from p⟩ cf v dX λx h' tk px ho Jq hT IK hk=>?_
  have hxu:x=u:=by simp_all
  subst hxu;refine⟨_,rfl,wpAny_letOwnedTupleGo_enum ho λtz AH L=>?_⟩;have N:=b7 m;have O:d<s.heap.objs.size:=by obtain⟨_,x,_⟩:=j;exact b7 x
  have I1:aK X c σ (aQ H s.heap.objs.size (.ap [.int i,Y[i]])) {s with heap:=s.heap.push {cls:=.type "tuple",data:=.seq #[.int i tk,x]}}:=
    I.laid (λb o e=>cc _ e) (bz _) ⟨cn (show 2<=20 by decide) au,[.int i tk,x],.cons ⟨_,rfl⟩ (.cons ru .nil),⟨_,dA _ aa,rfl,_,rfl⟩⟩
  have Q:eE X c (aQ H s.heap.objs.size (.ap [.int i,Y[i]])) e:=⟨by rw[jz (di N)];exact fe.1,fe.2⟩
  have U:eE X c (aQ H s.heap.objs.size (.ap [.int i,Y[i]])) d:=⟨by rw[jz (di O)];exact fi.1,fi.2⟩
  have I2:=Jc (t':=tk+1) I1 (λb o q r eo=>by
    refine(L.2 b q).trans ?_
    by_cases B:b=s.heap.objs.size
    .subst B;rw[dA _ aa]at eo
     simp_all
    .have Dy:s.heap.get? b=ae o:=by
      rcases IL eo with⟨z,_⟩|z
      .simp_all
      .exact z
     exact hk b o q r Dy) Q U
  refine⟨.ref s.heap.objs.size,_,I2,rfl,⟨_,_,(I.be.fresh (bz _)),hx,rfl,rfl⟩,⟨⟨_,by simpa using AH⟩,Jq.1.at λo y=>(L.2 d v.symm).trans y⟩,λb B=>?_⟩;simp at B;rcases B with rfl|rfl
  .exact Q.1
  .exact U.1
 done:=by
  intro X hP hw hK hc i c s σ H E I J st hg;subst hP hw hK;obtain⟨hq,hi⟩:=hg;obtain⟨l,rv,p,hz⟩:=I.tuple hq;obtain⟨⟨g,m⟩,j⟩:=st;have hl:=rv.length;refine wpAny_pyNext_enum_endD (jgC (A:=X.A.in1) (I.ok.hd hc) d a l.toArray i cf) m ⟨rfl,j,show s.heap.IsTuple a l.toArray from p⟩ λh' eb=>⟨rfl,Jc I (λb o q r eo=>eb b o r eo) (J e aE) (J d aE)⟩
 self:=λf f f f f st h=>let ⟨⟨_,m⟩,_⟩:=st;FD m h
section
def Jr(f:T3):Sl->aw (List D):=λa=>f a>>=λd=>match d with
 |.ap c=>.ok (jW 0 c)
 |_=>.am
def jgF(hg:Gl X "enumerate")(hm:X.mg "enumerate" =ah)(h:DE X .s e f)(hs:bx [e] X.V=[(ag,eval e X.V)]:=by rfl):DI X (.Tuple elts n pZ) (.Call (.Name "enumerate" p) [e] [] E) (Jr f):=by
 have hE:PE X e (tE X.K .s f):=by nomatch h
 nomatch (by
  rintro j s z H R I ⟨G,J,c,ds,k,L,q⟩;obtain⟨d,e1,e2⟩:=je L
  have hA:PA X [e] (tA X.K .s λc=>f c>>=λd=>.ok [d]):=by
   have:=qc hE zV hs;rintro ps j s z H Q I ⟨G,J,c,ds,k,L,q⟩;obtain⟨d,c1,c2⟩:=je L;cases c2;exact this ps j s z H Q I ⟨G,J,c,d,k,c1,λv l g w t=>q [v] l g (.cons w .nil)⟩
  refine Call_ (ZD I hg hm boot_enumerate (Bi (bE (hA E j s z H (λN l=>∃v,N=[v]/\aA H l/\aV X.K (Sf G c z) l v d) I ⟨G,J,c,[d],k,by show(f c>>=_)=_;rw[e1];rfl,λN l g w=>by obtain⟨v,rfl,r⟩:=w.one;exact⟨v,rfl,g,r⟩⟩) λus g ⟨N,l,m,w,v,ev,sm,rep⟩=>?_) hs aa));subst ev;obtain⟨u,rfl,ru⟩:=Jw w
  cases d with
  |ap es=>
   cases e2;obtain⟨a,O,rfl,B,rs⟩:=rep.fK;cases ru;have hq:gO X.K l a O:=.inl (.of B);obtain⟨U,rv,pl,hz⟩:=m.tuple hq;have cr:a<g.heap.objs.size:=by obtain⟨o,ho,_⟩:=pl;exact b7 ho
   refine jbD (show g.heap.IsTuple a U.toArray from pl) λh' he Y hk=>FD he ?_
   refine⟨g.heap.objs.size+1,[g.heap.objs.size+1,g.heap.objs.size],_,_,l,rfl,(m.kept (t':=g.toks) hk),jaG a g.heap.objs.size (g.heap.objs.size+1) O (Nat.succ_ne_self _) (di cr) (di (BN cr)),⟨⟨_,he⟩,Y⟩,λb hb=>?_,?_⟩
   .simp at hb;rcases hb with rfl|rfl
    .exact m.fZ (pd _) (m.be.fresh (pd _))
    .exact m.fZ (bz _) (m.be.fresh (bz _))
   .refine q _ l (λH=>H a=ae (.ap O)) sm (λi H' pp=>?_) B λenv' Bt H' fr=>fr.keep a _ B λow=>((k.aB sm).m3 ow B).elim
    have hl:=rs.length;rw[Jy];refine⟨λhi=>⟨.inl (.of pp),by omega⟩,λd hd x H2 y=>?_,λhi=>⟨.inl (.of pp),by omega⟩⟩;obtain⟨p,x',hp,pO,rfl,rfl⟩:=y;obtain⟨d',BJ,rd⟩:=rs.get' pO;rw[Wx,BJ]at hd;cases hd;exact .inr ⟨p,_,_,hp,rfl,rfl,rfl,.cons (by rw[Dq];exact .int _) (.cons rd .nil)⟩
  |_=>cases e2)end
section
def p8:D->D->aw D
 |a,.bo=>.ok (.bl (!a.pS))
 |_,_=>.am
def Pa:fR h (λx y H Q=>y=.bo/\Q (.bl (!decide (x=.bo))) H) p8:=by
 intro x y H a b d Q c g e q
 delta p8 at e
 split at e
 .cases e;refine⟨g.pG,?_⟩;rw[Vo c];exact q _ (iz _)
 .cases e
end
def yR{a:Type}{v}{l:List (Str×a)}:nJ c ((c,v)::l)=ae v:=by simp_all
def yQ{a:Type}{v}{l:List (Str×a)}(h:c≠d):nJ c ((d,v)::l)=nJ c l:=by grind
inductive afP where
 |nx (env:Sl)|rt (b:Bool) (env:Sl)
abbrev At(c:L2.St)(i:Nat)(a:ar):Prop:=c[i]?=ae (ae (V.ref a))
abbrev FI:=List D->List dY->LD->aw (Bool×List dY×LD)
section
variable{E:L2.St}
def WV{g:List ar}(I:aK X a E H s)(k:∀b o,b∉g->s.heap.get? b=ae o->h.get? b=ae o)(f:∀b∈g,eE X a H b):aK X a E H {s with heap:=h,toks:=t'}:=by
 have n:∀b u,H b=ae u->b∉g:=λb u e z=>by have:=(f b z).1;rw[this]at e;cases e
 refine I.step (g':=s.gens) (d':=s.drawn) (ch:=g) (λb i=>?_) (λb o x x d e x=>k b o d e) (λb o x x d e x=>⟨o.slots,k b o d e⟩) (λx x x x n=>n)
   (λb o d e=>⟨o,k b o d e⟩) (λx x e=>e) (λx x x e=>e) (λb N e=>⟨#[],by rw[e];simp⟩) (λm j=>?_) (λb u e=>?_) I.bare
 .obtain⟨O,l,_,p,w,y⟩:=f b i;exact⟨p,l,w,y⟩
 .obtain⟨o,B,J,L,r⟩:=j;exact⟨o,B,J,k _ o (λz=>(f _ z).2.1 aa) L,r⟩
 .refine(I.be b u e).bq (λc v d q=>k c v ?_ q) (λx q=>q) λx x q=>q
  rcases d with z|z
  .rw[z];exact n b u e
  .exact n c _ z
end
section
variable{X:Cx}{elts:List Expr}{n:Nat}{pZ p pos:Pos}{e1 e2:Expr}{f1 f2:T3}
noncomputable def yN:LD->LD->List D
 |x::a,y::c=>.ap [x,y]::yN a c
 |_,_=>[]
theorem X4:∀a c:List D,(yN a c).length=min (ao a) (ao c)
 |[],_|_::_,[]=>by simp[yN]
 |x::a,y::c=>by simp[yN,X4 a c]
theorem X5:∀(a c)(i:Nat)(d),(yN a c)[i]?=ae d->∃x y,a[i]?=ae x/\c[i]?=ae y/\d=.ap [x,y]
 |[],_,_,_,h|_::_,[],_,_,h=>by simp[yN]at h
 |x::a,y::c,0,d,h=>by simp[yN]at h;exact⟨x,y,rfl,rfl,h.symm⟩
 |x::a,y::c,i+1,d,h=>by
  exact X5 a c i d h
def jez:lW "zip" =ae (.type "zip"):=by decide+kernel
end
section
variable{Q:L2.St}
def FK(X:Cx)(a:ar):Prop:=(∀c,X.lX a≠ae (.ap c))/\(∀o u,X.lX a≠ae (.bQ o u))/\∀d,X.lX a≠ae (.si d)
def aK.swap(I:aK X g Q H s)(e:H a=ae u)(l:FK X a)(J:∀d,u≠ .ap d)(L:∀x,u≠ .aG x)(new:bC X.P X.w H s.heap a h):aK X g Q (aQ H a h) s:=by
 have ne:∀b,H b=ah->b≠a:=by grind
 have j:∀c b,H c=ae (.aG b)->aQ H a h c=ae (.aG b):=λc b q=>by
   rw[jz];exact q
   grind
 have i:∀c d,H c=ae (.ap d)->aQ H a h c=ae (.ap d):=λc d q=>by
   rw[jz];exact q
   grind
 refine⟨I.ok,I.os,I.bare,⟨I.aj.keep,I.aj.slot,λb o q n x=>?_,I.aj.there,λb d q=>?_,λb o v q=>?_,λb w q=>?_⟩,I.loc,I.cell,?_,λx c q=>?_,λp y=>?_,λb v q=>?_,I.len⟩
 .have z:=I.aj.free b o q n x;rw[jz (ne b z)];exact z
 .exact i b d (I.aj.ee b d q)
 .rw[jz (λz=>by subst z;exact l.2.1 _ _ q)];exact I.aj.eQ b o v q
 .rw[jz (λz=>by subst z;exact l.2.2 _ q)];exact I.aj.fg b w q
 .rw[jz (ne _ I.free)];exact I.free
 .rw[jz (ne _ (I.cO x c q))];exact I.cO x c q
 .obtain⟨B,m,E⟩:=I.pin p y;exact⟨B,by rw[jz (ne _ m)];exact m,E⟩
 .by_cases r:b=a
  .subst r;rw[jv]at q;cases q;exact new.bq (λf f f z=>z) (λc z=>j c _ z) i
  .rw[jz r]at q;exact(I.be b v q).bq (λf f f z=>z) (λc z=>j c _ z) i
end
section
def DJ:D->Option Int->Option Int->aw D
 |.dw a,lo,c=>.ok (.al (cutD a lo c))
 |_,_,_=>.am
def jec{lo}(v:DE X .s e f)(w:DO X lo y)(B:DO X E I):
   DE X .t (.Subscript e (.Slice lo E ah p2) J) (zO f y I DJ):=by
 nomatch (
  PE.imp (uf nN v w B)<|by
   rintro σ H Q ⟨G,j,g,d,k,h,q⟩;obtain⟨a,e1,h⟩:=je h;obtain⟨l,e2,h⟩:=je h;obtain⟨m,L,r⟩:=je h;refine⟨G,j,g,a,k,e1,λx H1 n N s=>⟨G,j,g,l,k.aB n,e2,λH2 o=>⟨G,j,g,m,(k.aB n).aB o,L,λO u=>?_⟩⟩⟩;have sm:=n.trans (o.trans u)
   cases a with
   |dw ds=>
    cases r;obtain⟨b,U,rfl,Y,rs⟩:=((N.aB o).aB u).lm;refine⟨b,U,rfl,Y.nO,λp i=>q _ _ (sm.trans (aA.aQ i)) (.al jv (k.new p (aA.free sm i)) (((vx rs).laid i).aS λc z=>⟨z.1,z.2⟩)) ((qX (aA.refl O) i).aB sm)⟩
   |_=>exact dD r)
def Pb(d:bK):R2:=λx y H Q=>∃l b a c,x=.ref l/\y=.ref b/\df d H l a/\df d H b c/\ao a+ao c<=ba/\∀p,H p=ah->Q (.ref p) (aQ H p (.al (a++c)))
def Pc:c9 X (iG .Add) (Pb X.K):=by
 intro g s σ H x y v u Q I m n h;obtain⟨l,b,xs,zs,rfl,rfl,o,p,hz,q⟩:=h;cases m;cases n;obtain⟨c,r,⟨⟨c1,d1,w,d⟩,z,i,B,E,J⟩,z1⟩:=I.list o;obtain⟨a,j,⟨⟨c2,d2,L,e⟩,N,g2,O,U,Y⟩,z2⟩:=I.list p;subst B E J O U Y;have hl:=r.length;have Pd:=j.length;refine concat_meets ⟨_,i,rfl⟩ ⟨_,g2,rfl⟩ noFill_list_add seq_list_add F.slot_list_add F.entry_list_add (F.args_list_add_2 _ _) (list_addW l b c.toArray a.toArray z N ah ah d e aZ) ⟨i,g2,?_⟩;have ea:c.toArray++a.toArray=(c++a).toArray:=by simp
 rw[ea];exact⟨.ref _,_,I.yD (r.append j) aZ,rfl,q _ I.fresh⟩
noncomputable def p9:D->D->aw D
 |.dw a,.al b=>bh (ao a+ao b<=ba) (.ok (.al (a++b)))
 |_,_=>.am
def Pe:Bu m (Pb m) p9:=by
 intro A x y H a b d Q n o e q;cases a<;>try exact dD e
 cases b<;>try exact dD e
 obtain⟨r,u⟩:=jE e;cases u;obtain⟨l,v,rfl,w,i⟩:=n.lm;obtain⟨B,E,rfl,h,_,j⟩:=o.dg;refine⟨l,B,v,E,rfl,rfl,w.nO,.of h,i.len_app j.low r,λp g=>q _ _ (aA.aQ g) ?_ (qX (aA.refl H) g)⟩;exact .al jv (.inl g) (((i.append j.low).laid g).aS λc z=>⟨.inr z.1,z.2⟩)
def jmp(i j:Int):Prop:=0<j/\j<2^200
def jfo:c9 X (iG .FloorDiv) (rI jmp λi j=>.int (i/j)):=Co λi j x x x x x a q=>by
 have d:=a.1;have e:=a.2;refine floordiv_int ak (by rw[Ha i (Cr bg)];exact q) (.inl (PyProof.noPylong_of_log2 ?_));have c:j.natAbs<2^200:=by omega
 exact dZ ((Nat.log2_lt ak).mpr c) (ma _ _)
abbrev DK:Int->Int->Prop:=λx j=>0<j/\j<2^200
def jfw:fR a (rI jmp λi j=>.int (i/j)) (ie DK λi j=>.int (i/j)):=pQ (λx x h=>h) λi j=>nP _
abbrev iP:=ie DK λi j=>.int (i/j)
end
noncomputable def DL(a:ar)(o:Obj)(u:HO)(c:List ar):It:=
 ⟨λi H=>H a=ae (.bQ o u)/\i<ao c,λi H x d=>d=H/\∃p,c[i]?=ae p/\x=.ref p,λi H=>H a=ae (.bQ o u)/\ao c<=i⟩
section
variable{Y:bK}
def jaF(a l)(u)(g)(hx:o.ExactDict)(hd:o.data=.dict r v)(he:r.toList.map (·.key)=g.map cg):Turn P w Y tg (DL a o u g) [l] l (λi h=>h.IsKeyIter l a i (ao g) v) where
 mem:=by simp
 obj:=λi h st b m=>by
  obtain⟨o,e,c,d⟩:=st
  simp_all
 keep:=λi h h' st k=>st.at λo e=>k l aE o e
 item:=by
  intro X hP hw hK hc i n s σ H E I p st y;obtain⟨z,B⟩:=y;have J:mI s.heap a (g.map cg) v:=⟨o,r,(I.be a _ z).1,hx,hd,he⟩
  obtain⟨L,N,f2,O,Q,U⟩:=p l aE;have q:(g.map cg).length=ao g:=by simp_all
  refine OB (q.symm▸st) J (k:=.ref g[i]) (by simp[B]) λh' j sb=>?_
  rw[q]at j;obtain⟨o2,e,c,d⟩:=id j;exact⟨_,rfl,Bh e c d au ⟨.ref g[i],H,(I.turned (t':=s.toks) (λb o m e=>(sb.2 b m).trans e) L N O Q U),rfl,⟨rfl,g[i],by simp[B],rfl⟩,j,λb m=>(p b m).1⟩⟩
 done:=by
  intro X hP hw hK hc i n s σ H E I p st y;obtain⟨z,B⟩:=y;have J:mI s.heap a (g.map cg) v:=⟨o,r,(I.be a _ z).1,hx,hd,he⟩
  obtain⟨L,N,f2,O,Q,U⟩:=p l aE;have q:(g.map cg).length=ao g:=by simp_all
  exact OE (I.ok.hd hc) (q.symm▸st) J (λh' eb=>⟨rfl,I.turned (λb o m e=>eb b o m e) L N O Q U⟩) ak
 self:=λx x x x x st h=>wpAny_pyIter_keyiter st h
def jmU(g:TE):TI:=λh H R=>g h H λx d=>∃a o c,x=.ref a/\d a=ae (.bQ o (.dT c))/\∀e:List ar,F2 (λp k=>TK d k p) e (c.map (·.1))->R (DL a o (.dT c) e) d
def Vx:∀{a}{c},KT H a c->F2 (λp k=>TK H k p) (c.map (·.2.1)) (a.map (·.1)):=by
 intro _ _ r
 induction r with
 |nil=>exact .nil
 |cons h _ d=>exact .cons h.2.1 d
def Pf(w:PE X e y):PI X Q e (jmU y):=by
 intro c s z H R I h;refine bE (w c s z H _ I h) ?_;rintro v j ⟨x,U,i,B,E⟩;obtain⟨a,o,l,J,L,q⟩:=E;subst J;cases B;obtain⟨m,hz,lo,n,N,o',p,ep,d,r,u,O,_⟩:=(i.be a _ L)
 rw[m]at d;cases d;have g:p.toList.map (·.key)=(n.map (·.2.1)).map cg:=by rw[O,dF,dF];rfl
 refine OA lo (⟨o,p,m,r,u,g⟩) ?_;refine⟨j.heap.objs.size,[j.heap.objs.size],_,_,_,rfl,i.kept λb o e=>cc _ e,jaF a _ (.dT l) (n.map (·.2.1)) r u g,⟨_,dA _ aa,rfl,by simp⟩,λb hb=>?_,q _ (Vx N)⟩;have e:b=j.heap.objs.size:=by simp_all
 subst e;exact i.fZ (bz _) (i.be.fresh (bz _))
mutual
noncomputable def Pg:NK->D
 |.int i=>.int i
 |.str z=>.str z
 |.ap l=>.ap (dn l)
noncomputable def dn:List NK->List D
 |[]=>[]
 |k::l=>Pg k::dn l
end
mutual
theorem jf0:∀k,iN (Pg k)=ae k
 |.int _|.str _=>rfl
 |.ap l=>uA (fE l)
theorem fE:∀l,dk (dn l)=ae l
 |[]=>rfl
 |k::l=>jiM (jf0 k) (fE l)
end
def VR(f:T3):Sl->aw (List D):=λa=>f a>>=λd=>match d with
 |.bV c _=>bh (c.all NK.bD=af) (.ok (c.map λk=>.ap (dn k)))
 |_=>.am
def Zl{A:Wp}:∀{c:List ar}{a:List (List NK)},F2 (λp k=>TK H k p) c a->a.all NK.bD=af->ay Y A H (c.map V.ref) (a.map λk=>.ap (dn k)):=by
 intro _ _ r
 induction r with
 |nil=>exactλx=>.nil
 | @cons _ k _ _ h _ d=>
  intro e;have e:=og.mp e;exact .cons ((Kg (.ap (dn k)) (.ap k) (uA (fE k))).2.2 e.1 A _ h.1) (d e.2)
def vo(h:DE X .s e f):DI X tg e (VR f):=by
 nomatch (
  PI.imp (Pf h)<|by
   rintro σ H R ⟨G,E,n,ds,k,I,q⟩;obtain⟨d,e1,e2⟩:=je I
   cases d with
   |bV ks es=>
    obtain⟨j,J⟩:=jE e2;cases J;refine⟨G,E,n,_,k,e1,λv L w N b=>?_⟩;obtain⟨a,c,rfl,⟨o,l⟩,rfl,rs⟩:=N.f;refine⟨a,o,c,rfl,l,λr m=>q (DL a o (.dT c) r) L (λu=>u a=ae (.bQ o (.dT c))) w (Walk.toD (Zl m j) ?_) l λz O u Q=>Q.keep a _ l λU=>?_⟩
    .intro i u m;have B:(r.map V.ref).length=ao r:=cX ..;refine⟨λg=>⟨m,by rw[B]at g;exact g⟩,λg x H2 y=>?_,λg=>⟨m,by rw[B]at g;exact g⟩⟩;obtain⟨y1,p,y2,y3⟩:=y;exact⟨y1,by rw[hU,y2,y3];rfl⟩
    .exact(k.aB w).m3 U l
   |_=>exact dD e2)
end
def nj(f:Str):List Str->LD->Option D
 |n::a,d::c=>if n=f then ae d else nj f a c
 |_,_=>ah
def BO(f:Str):List Str->List Str
 |[]=>[f]
 |n::a=>if n=f then n::a else n::BO f a
def BP(f:Str)(d:D):List Str->LD->List D
 |[],_=>[d]
 |n::c,e::a=>if n=f then d::a else e::BP f d c a
 |_::_,[]=>[]
def uO{a}:∀{fs:List (Str×V)}{c:LD}{d},ay a A H (fs.map (·.2)) c->nj f (fs.map (·.1)) c=ae d->∃v,fs.lookup f=ae v/\aV a A H v d:=by
 intro fs
 induction fs with
 |nil=>intro _ _ _ h;cases h
 |cons p r g=>
  intro _ d q h;obtain⟨n,v⟩:=p;obtain⟨_,_,rfl,q,t⟩:=q.cv
  by_cases e:n=f
  .subst e;simp only[fI,nj,if_pos]at h
   simp_all
  .simp only[fI,nj,if_neg e]at h;obtain⟨i,j,l⟩:=g t h
   grind
def je6(a:aV c A H v d):∀{fs}{g:LD},ay c A H (fs.map (·.2)) g->(dN f v fs).map (·.1)=BO f (fs.map (·.1))/\ay c A H ((dN f v fs).map (·.2)) (BP f d (fs.map (·.1)) g):=by
 intro fs
 induction fs with
 |nil=>intro _ r;cases r.fJ;exact⟨rfl,.cons a .nil⟩
 |cons p r h=>
  intro _ q;obtain⟨n,u⟩:=p;obtain⟨_,_,rfl,q,t⟩:=q.cv
  by_cases e:n=f
  .simp only[dN,fI,BO,BP,if_pos e];exact⟨trivial,.cons a t⟩
  .simp only[dN,fI,BO,BP,if_neg e];obtain⟨i,j⟩:=h t;exact⟨by rw[i],.cons q j⟩
theorem WO:∀{fs:List (Str×V)},(fs.map (·.1)).contains f=ag->fs.lookup f=ah
 |[],_=>rfl
 |(n,u)::r,h=>by
  simp only[fI,JF,Bool.or_eq_false_iff]at h;rw[Al];simp[h.1,WO h.2]
def aV.objE(r:aV d A H v (.obj c ns e)):∃a C dx fs,v=.ref a/\H a=ae (.ins C dx fs)/\A a/\cH d ci c=ae (ae (.ref C))/\fs.map (·.1)=ns/\ay d (λc=>A c/\c≠a) H (fs.map (·.2)) e:=r.f
def Ph{i:Nat}(k:aH d G q env g H)(j:env[i]?=ae (.aG (.obj c l m))):
  ∃a C dx fs,g[i]?=ae (ae (.ref a))/\H a=ae (.ins C dx fs)/\cH d ci c=ae (ae (.ref C))/\fs.map (·.1)=l/\ay d (Sf G env g) H (fs.map (·.2)) m:=by
 obtain⟨a,n,_,o⟩:=k.aG i _ j
 cases o with
 |obj e h p r=>subst p;exact⟨a,_,_,_,n,e,h.1,h.2,r⟩
structure nq(κ:bK)(c f:Str):Prop where
 ex:∃C,cH κ ci c=ae (ae (.ref C))/\gI κ C/\fq κ C f
def nq.at(h:nq a c f)(e:cH a ci c=ae (ae (.ref C))):gI a C/\fq a C f:=by
 obtain⟨d,h1,h2⟩:=h.ex
 simp_all
def AN(c f:Str):D->aw D
 |.obj a e g=>bh (a=c) (match nj f e g with
  |some d=>.ok d
  |none=>.am)
 |_=>.am
set_option tactic.hygienic true in
theorem jgn(h:AN c f o=.ok d):∃a g,o=.obj c a g/\nj f a g=ae d:=by
 unfold AN at h
 split at h
 .rename_i i a g;obtain⟨j,l⟩:=jE h
  cases e:nj f a g with
  |none=>simp_all
  |some m=>grind
 .cases h
def oK(c f:Str)(d:T3):Sl->aw D:=λa=>d a>>=AN c f
section
def vt(i)(h:nq X.K c f)(y:X.N[i]?=ae x:=by rfl)(B:gj X.V.scope x:=by exact dC aa)
   (E:YG x:=by decide) (j:YF x:=by decide)
   (I:lL (.Name x p) f X.V (eval (.Name x p) X.V)=eval (.Name x p) X.V:=by rfl):DE X .s (.Attribute (.Name x p) f J) (oK c f (gm i)):=by
 nomatch (
  PE.imp (jkY (zC y B E j) I)<|by
   rintro U H Q ⟨G,Y,L,d,k,N,q⟩;obtain⟨o,e1,e2⟩:=je N;obtain⟨ns,ds,rfl,w⟩:=jgn e2;rcases kg e1 with z|z
   .obtain⟨v,l,O⟩:=k.ai i _ z;obtain⟨a,C,dx,fs,rfl,m,_,e,n,r⟩:=O.objE;subst n;obtain⟨g,u,g2⟩:=uO r w;exact⟨_,l,a,C,dx,fs,g,rfl,m,(h.at e).1,(h.at e).2,u,q g H (aA.refl H) (g2.aS λb z=>z.1) trivial⟩
   .obtain⟨a,C,dx,fs,l,m,e,n,r⟩:=Ph k z;subst n;obtain⟨g,u,g2⟩:=uO r w
    exact⟨_,l,a,C,dx,fs,g,rfl,m,(h.at e).1,(h.at e).2,u,q g H (aA.refl H) g2 trivial⟩)
end
inductive dP where
 |nx (env:Sl)|rt (d:D) (env:Sl)
def FL(h:bK)(G:Wp)(j:Hp)(i:Nat)(a:ar)(env:Sl)(l:L2.St)(H:Hp)(E:Ends):dP->Prop
 |.nx c=>∀e g,aH h G j c e g->At e i a->bN env l H c e g->E.nx e g
 |.rt d c=>∀v e g,aH h G j c e g->At e i a->bN env l H c e g->aV h (Sf G c e) g v d->E.rt v g
def Pj(e:bK)(i:Nat)(g:Sl->aw dP):TS:=λE d H=>∃G h c o a,aH e G h c d H/\At d i a/\g c=.ok o/\FL e G h i a c d H E o
@[irreducible] def K2 (X:Cx) (i:Nat) (st:Stmt) (g:Sl->aw dP):Prop:=PS X st (Pj X.K i g)
@[irreducible] def lz (X:Cx) (i:Nat) (st:List Stmt) (g:Sl->aw dP):Prop:=eh X st (Pj X.K i g)
theorem YV(f:bN env n H d g p)(q:FL r G u i a env n H E o):FL r G u i a d g p E o:=by
 cases o with
 |nx e=>exactλc h j l m=>q c h j l (f.trans m)
 |rt b e=>exactλv c h j l m w=>q v c h j l (f.trans m) w
section
variable{e:Expr}{st:Stmt}{rest:List Stmt}{g2:Sl->aw dP}
def oM(d g2:Sl->aw dP):Sl->aw dP:=λc=>d c>>=λo=>match o with
 |.nx a=>g2 a
 |.rt b e=>.ok (.rt b e)
def jd1(j:K2 X i st l)(m:lz X i rest g2):lz X i (st::rest) (oM l g2):=by
 nomatch (eh.imp (y7 j m)<|by
  rintro E y H ⟨G,g,d,o,a,k,n,p,q⟩;obtain⟨h,e1,e2⟩:=je p;refine⟨G,g,d,h,a,k,n,e1,?_⟩
  cases h with
  |nx c=>exactλr z u v w=>⟨G,g,c,o,a,u,v,e2,YV w q⟩
  |rt b c=>cases e2;exact q)
def Pk(a:K2 X i st c):lz X i [st] c:=by
 nomatch (eh.imp (Wt a) λE d H q=>q)
def K5:Sl->aw dP:=λa=>.ok (.nx a)
def Pl:lz X i [] K5:=by
 nomatch (eh.imp ki<|by
  rintro E c H ⟨G,j,d,o,a,k,g,h,q⟩;cases h
  exact q c H k g (bN.refl (aA.refl H)))
def oN(i:Nat)(c:Str):Sl->aw (List Str×LD):=λa=>match a[i]? with
 |some (.aG (.obj d g h))=>bh (d=c) (.ok (g,h))
 |_=>.am
set_option tactic.hygienic true in
theorem jfn(h:oN i c env=.ok q):env[i]?=ae (.aG (.obj c q.1 q.2)):=by
 delta oN at h
 rcases e:env[i]? with _|_|d|_<;>rw[e]at h<;>(try cases d)<;>try exact dD h
 obtain⟨rfl,a⟩:=jE h;cases a;rfl
def DM(i:Nat)(c n:Str)(f:T3):Sl->aw dP:=λa=>f a>>=λd=>oN i c a>>=λq=>bh (q.1.length<1000) (.ok (.nx (a.set i (.aG (.obj c (BO n q.1) (BP n d q.1 q.2))))))
def KB(B:nq X.K c n)(h:DE X .s e f)(Y:X.N[i]?=ae x:=by rfl)(hv:gj X.V.scope x:=by exact dC aa)
   (hd:YG x:=by decide) (m:YF x:=by decide)
   (hs:kw e (ae (.Attribute (.Name x p) n g)) r.line X.V=pure ag:=by rfl):K2 X i (.Assign [.Attribute (.Name x p) n g] e r) (DM i c n f):=by
 nomatch (
  PS.imp (jkM (zC Y hv hd m) h hs)<|by
   rintro E σ H ⟨G,H0,u,o,a,k,l,j,q⟩;obtain⟨d,e1,j⟩:=je j;obtain⟨ns,e2,j⟩:=je j;obtain⟨I,e3⟩:=jE j;cases e3;have J:=jfn e2;refine⟨G,H0,u,d,k,e1,λy H1 v r1 b=>?_⟩;obtain⟨a',C,dx,fs,L,N,z,O,rs⟩:=Ph (k.aB v) J;rw[l]at L;cases L;refine⟨_,l,a,C,dx,fs,rfl,N,(B.at z).1,(B.at z).2,by rw[<-O,cX]at I;exact I,?_⟩;obtain⟨Q,U⟩:=je6 r1 rs;rw[O]at Q U;have W:=(k.aB v).ls (o':=.ins C dx (dN n y fs)) J l N trivial λA' H' st e w=>.obj e ⟨z,Q⟩ aa (U.bq st w)
   exact q σ _ W.1 l (W.2.aB v))
end
structure gz(P:fW)(w:World)(κ:bK)(mg:YE)(aj:Heap)(k:Nat)(c m:Str)(ps:List Str)(fr:Bool)(F:LD->aw D):Prop where
 ex:∃C f fd,cZ P w κ mg aj mD k f fd ps (nQ κ fr (ao ps) F)/\cH κ ci c=ae (ae (.ref C))/\gI κ C/\Meth κ C m f/\Binds κ fd ps []
def gz.mono(h:gz P w d mg aj j c m e g F)(i:j<=k):gz P w d mg aj k c m e g F:=
 let ⟨C,f,l,a,b⟩:=h.ex
 ⟨C,f,l,a.mono i,b⟩
def wL(c m:Str)(n:Nat)(F:LD->aw D)(i:T3)(g:TY):Sl->aw D:=λa=>i a>>=λo=>match o with
 |.obj d e j=>bh (d=c/\e.contains m=ag) (g a>>=λh=>bh (ao h+1=n) (F (.obj d e j::h)))
 |_=>.am
def VN(h:wL c m n F l g env=.ok d):∃a i e,l env=.ok (.obj c a i)/\a.contains m=ag/\g env=.ok e/\ao e+1=n/\F (.obj c a i::e)=.ok d:=by
 obtain⟨o,p,h⟩:=je h
 cases o with
 |obj z a i=>
  obtain⟨⟨q,r⟩,u⟩:=jE h;subst q;obtain⟨e,v,j⟩:=je u;obtain⟨w,y⟩:=jE j;exact⟨a,i,e,p,r,v,w,y⟩
 |_=>exact dD h
section
variable{X:Cx}{k n:Nat}{c m:Str}{L:List Str}{F:LD->aw D}{o e:Expr}{N:List Expr}{U O:Pos}{J:T3}{g:TY}{pl:Sem Bool}
def gz.aI(A:gz X.P X.w X.K X.mg X.aj k c m L af F)(hr:aX k X.A)(Y:DE X .s o J)(ha:DA X .s (e::N) g)(l:L.length=n:=by rfl)
  (p:Wn X e N:=by exact jq aa) (r:Vl X U N:=by exact jR aa)
  (ht:eval (.Call (.Attribute o m O) (e::N) [] U) X.V=(do
   let ov<-eval o X.V
   rF O.atName
   let (f,first)<-mS [ov] (getMethod ov m pl)
   callWith U f first (fh U (bx (e::N) X.V)) (mz U (mB [] X.V))):=by rfl):DE X .t (.Call (.Attribute o m O) (e::N) [] U) (wL c m n F J g):=by
 subst l;obtain⟨C,f,fd,h1,h2,h3,h4,h5⟩:=A.ex
 nomatch (
 PE.imp (jim Y h3 h4 h1 hr h5 .nil CM ha p r ht)<|by
  rintro σ H Q ⟨u,w,h,d,k,ef,q⟩;obtain⟨ns,vs,y,e1,e2,e3,e4,e5⟩:=VN ef;refine⟨u,w,h,_,k,e1,λv H1 i B x=>?_⟩;obtain⟨a,C',dx,fs,rfl,hx,_,E,l,rs⟩:=B.objE;rw[h2]at E;cases E;refine⟨a,dx,fs,rfl,hx,WO (by rw[l];exact e2),u,w,h,y,k.aB i,e3,λws H2 j I=>?_⟩;show nQ X.K af L.length F (.ref a::(ws++[])) H2 Q (λx x x=>False);rw[rH]
  exact⟨_,_::y,d,by simp[I.length,e4],.cons (B.aB j) I,e5,λv H3 s3 r3 nt=>q v H3 (i.trans (j.trans s3)) (r3.aS λc z=>z.elim (λz=>k.new c (aA.free i (aA.free j z))) λz=>z) (((nt aa).aB j).aB i)⟩)
def mY:Sl->aw (List D):=λx=>.ok []
def gz.ij(A:gz X.P X.w X.K X.mg X.aj k c m L af F)(hr:aX k X.A)(r:DE X .s o J)(h:ao L=n:=by rfl)
  (u:eval (.Call (.Attribute o m O) [] [] U) X.V=(do
   let ov<-eval o X.V
   rF O.atName
   let (f,first)<-mS [ov] (getMethod ov m pl)
   callWith U f first (fh U (bx [] X.V)) (mz U (mB [] X.V))):=by rfl):DE X .t (.Call (.Attribute o m O) [] [] U) (wL c m n F J mY):=by
 subst h;obtain⟨C,f,fd,h1,h2,w,y,B⟩:=A.ex
 nomatch (
 PE.imp (jff r w y h1 hr B .nil CM u)<|by
  rintro σ H Q ⟨E,I,i,d,k,Y,q⟩;obtain⟨ns,vs,ds,e1,e2,e3,e4,e5⟩:=VN Y;cases e3;refine⟨E,I,i,_,k,e1,λv H1 j l x=>?_⟩;obtain⟨a,C',dx,fs,rfl,hx,_,p,h,rs⟩:=l.objE;rw[h2]at p;cases p;refine⟨a,dx,fs,rfl,hx,WO (by rw[h];exact e2),?_⟩
  exact⟨_,[_],d,by simp[<-e4],.cons l .nil,e5,λv H3 s3 r3 nt=>q v H3 (j.trans s3) (r3.aS λc z=>z.elim (λz=>k.new c (aA.free j z)) λz=>z) ((nt aa).aB j)⟩)
end
section
def jml{st}(o)(r:mE i m a st f p)(u:cH i ci c=ae (ae (.ref C)))(v:gI i C)(y:Meth i C m f)(S:aC N q (jj st))(n:Binds i p q [])
  (z:∀(j)(A)(e)(s)(H)(E),aX k (A.deeper (i5 a (jj st) s.heap.objs.size f j))->h9 (cA mD P w i B l N a (jj st) f j A e s H E).rG (zg st) g):
  gz P w i B l (k+1) c m q o (bp o (ao N) g):=
 ⟨C,f,p,Ip r S z λI d x h=>Zf h,u,v,y,n⟩
end
abbrev FO:=D->LD->aw (D×D)
def xw(n:Nat)(c:D)(a:LD):Sl:=.aG c::(a.map .ai++Cy (n-ao a-1) .un)
def JT(h:(xw n g a)[j]?=ae s):(j=0/\s=.aG g)\/(∃c d,j=c+1/\a[c]?=ae d/\s=.ai d)\/s=.un:=by
 delta xw at h
 cases j with
 |zero=>simp at h;exact .inl ⟨rfl,h.symm⟩
 |succ j=>
  rw[FE]at h
  by_cases q:j<ao a
  .rw[mC (by simpa using q),hU]at h
   cases e:a[j]? with
   |none=>rw[e]at h;cases h
   |some x=>rw[e]at h;cases h;exact .inr (.inl ⟨j,x,rfl,e,rfl⟩)
  .rw[mG (by simpa using q),Ap]at h
   split at h
   .cases h;exact .inr (.inr aa)
   .cases h
def jbv{B:Wp}(r:ay I (λc=>B c/\c≠a) H g n)(t:Top I (λc=>B c/\c≠a) H a y)(O:n.length+1<=N.length):
   aH I (λc=>H c=ah\/c=a\/B c) (λc=>if c=a then ah else H c) (xw N.length y n) (start N (V.ref a::g)) H/\At (start N (V.ref a::g)) 0 a:=by
 have J:=r.length
 have l:At (start N (V.ref a::g)) 0 a:=by
   show(L2.start N (V.ref a::g))[0]?=_
   delta L2.start
   simp
 have p:∀(j:Nat)(v:V),g[j]?=ae v->(start N (V.ref a::g))[j+1]?=ae (ae v):=λj v h=>by
   have Q:=(iZ.mp h).1
   delta L2.start
   rw[mC cf,hU,FE,h];rfl
 have q:∀c,qh (xw N.length y n) (start N (V.ref a::g)) c->c=a:=by
   rintro c ⟨j,d,u,m⟩;rcases JT u with⟨rfl,_⟩|⟨_,_,_,_,z⟩|z
   .rw[l]at m;cases m;rfl
   .cases z
   .cases z
 have w:∀c,B c/\c≠a->Sf (λc=>H c=ah\/c=a\/B c) (xw N.length y n) (start N (V.ref a::g)) c:=λc z=>⟨λo=>z.2 (q c o),.inr (.inr z.1)⟩
 refine⟨⟨?_,λc o e=>?_,λc e=>?_,λj d h=>?_,λj d h=>?_,λj E d e b u m U Y=>?_⟩,l⟩
 .simp[L2.start,xw,J];omega
 .split at e
  .cases e
  .exact e
 .split at e
  .rename_i z;exact .inr (.inl z)
  .exact .inl e
 .rcases JT h with⟨_,z⟩|⟨E,L,rfl,e,z⟩|z
  .cases z
  .cases z;obtain⟨v,u,m⟩:=r.get e;exact⟨v,p E v u,m.aS w⟩
  .cases z
 .rcases JT h with⟨rfl,z⟩|⟨E,L,_,e,z⟩|z
  .cases z;exact⟨a,l,if_pos aa,t.bq (λx x e x=>e) w λx e=>e⟩
  .cases z
  .cases z
 .have i:∀(j:Nat)(d:D),(xw N.length y n)[j]?=ae (.aG d)->j=0:=λj d h=>by
    rcases JT h with⟨z,_⟩|⟨_,_,_,_,z⟩|z
    .exact z
    .cases z
    .cases z
  rw[i j d u,i E e m]
def Xu:Sl->aw D
 |.aG d::_=>.ok d
 |_=>.am
def jb8(h:Xu env=.ok d):env[0]?=ae (.aG d):=by
 delta Xu at h
 split at h
 .cases h;rfl
 .cases h
section
structure dI(h:Heap)(a:ar)(es:Array (Int×aJ))(ep:Nat)(t:oO):Prop where
 ex:∃o,h.get? a=ae o/\o.ExactSet/\o.data=.set es ep t
 el:∀e∈es.toList,∃k tk,e.2=.int k tk/\e.1=hashInt k
 bd:es.size<tP
 ft:t.fits es.size=af
def dI.of(j:h.SetOf (nG c w) a S n):∃d g t,dI h a d g t/\d.size=n/\(∀k,S k=af↔ ∃e∈d.toList,(nG c w).is k e.2=af):=by
 obtain⟨o,d,g,t,l,m,hd,i,p,q,r,u⟩:=j;refine⟨d,g,t,⟨⟨o,l,m,hd⟩,λe v=>?_,q,r⟩,u,p⟩;obtain⟨⟨k,h1,h2⟩,_⟩:=i e v;obtain⟨tk,y⟩:=GI h1;exact⟨k,tk,y,h2⟩
def dI.state(h:dI s.heap a d e t)(g:Q (d,e,t) s):wpAny (aN c w) A (setState a) Q E s:=by
 obtain⟨o,i,_,hd⟩:=h.ex;exact AO i hd h.ft g
def Wr{c:Array (Int×aJ)}(d:∀e∈c.toList,∃k tk,e.2=.int k tk/\e.1=hashInt k){a:n}{f}{Q}
   (l:∀h k tk,f (h,.int k tk) a=pure (.yield a)) (o:Q a s):wpAny (aN g w) A (forIn c a f) Q E s:=by
 refine Pn f (λrest b i=>b=a/\i=s/\∀e∈rest,e∈c.toList) Q ?_ ?_ c a ⟨rfl,rfl,λy h=>h⟩
 .rintro⟨h,x⟩ rest b i ⟨rfl,rfl,j⟩;obtain⟨k,tk,e1,e2⟩:=d _ (j _ g8);subst e1;rw[l];exact aP ⟨rfl,rfl,λe m=>j e (g9 _ m)⟩
 .simp_all
def jaV(d:dI s.heap a e1 j l)(e:dI s.heap b e2 m n)(g:dI s.heap c o p q)(i:Q af s):
  wpAny (aN h w) A (setsQuiet [a,b,c]) Q E s:=by
 delta setsQuiet setEntries
 simp;refine ax (d.state ?_);refine ax (Wr d.el (λx x x=>rfl) ?_);simp;refine ax (e.state ?_);refine ax (Wr e.el (λx x x=>rfl) ?_);simp;refine ax (g.state ?_);refine ax (Wr g.el (λx x x=>rfl) ?_);exact aP i
set_option tactic.hygienic true in
theorem Po(next):∀(fuel k)(left)(a)(x:c),x∈(pickOrder.go next fuel k left a).toList->x∈left\/x∈a.toList
 |0,_,_,a,x,h=>.inr h
 |fuel+1,k,left,a,x,h=>by
  unfold pickOrder.go at h
  split at h
  .rename_i y e;rcases Po next fuel (k+1) _ _ x h with z|z
   .exact .inl (List.mem_of_mem_eraseIdx z)
   .rw[K6,fj]at z;rcases z with z|z
    .exact .inr z
    .rw[lQ]at z;subst z;exact .inl (lf e)
  .exact .inr h
def jfb{a}{x:c}(h:x∈(pickOrder next a).toList):x∈a.toList:=by
 rcases Po next _ _ _ _ x h with z|z
 .exact z
 .simp at z
def Vi(m:dI s.heap a d q g)(i:w.params.followText "set-order" =af\/((!g.plain&&aD (d.size>1))=ag/\(!g.led&&aD (d.size>1))=ag))
  (h:∀j,(∀e∈j.toList,e∈d.toList)->Q j s):wpAny (aN c w) A (setWalk a) Q E s:=by
 delta setWalk setsByText
 refine ax (m.state ?_);simp;refine ax (FM ?_)
 cases l:(aN c w).w.params.followText "set-order" with
 |true=>
  refine ax (FM (aP (h _ λe n=>jfb n)))
 |false=>
  rcases i with i|⟨o,p⟩
  .rw[show(aN c w).w.params.followText "set-order" =w.params.followText "set-order" from aa,i]at l;cases l
  .show wpAny _ _ (if(!g.plain&&aD (d.size>1))=af then _ else _) _ _ _;rw[o];show wpAny _ _ ((if(!g.led&&aD (d.size>1))=af then unsupported "set:maker-not-led" else pure ())>>=λx=>pure d) _ _ _;rw[p];exact aP (h _ λx z=>z)
def dI.keep(x:dI h a c d t)(k:∀o,h.get? a=ae o->e.get? a=ae o):dI e a c d t:=
 let ⟨o,h1,h2⟩:=x.ex
 ⟨⟨o,k o h1,h2⟩,x.el,x.bd,x.ft⟩
def Wg(n:dI s.heap a l N ta)(H:dI s.heap o O U I)(g:dI s.heap f #[] Y m)
   (h:∀(c)(p),(∀e∈c.toList,e∈l.toList)->(∀b ob,b≠f->s.heap.get? b=ae ob->p.get? b=ae ob)->(∃q r,dI p f #[] q r)->Q c {s with heap:=p}):
   wpAny (aN d w) A (setWalkUnseen a [o,f] (ae f)) Q E s:=by
 delta setWalkUnseen setsByText
 refine ax (n.state ?_);simp only[bind_assoc,pure_bind];refine ax (FM ?_);have i:∀c:Array (Int×aJ),(∀e∈c.toList,e∈l.toList)->Q c s:=λc z=>h c s.heap z (λx x x e=>e) ⟨_,_,g⟩
 by_cases hc:((aN d w).w.params.followText "set-order" ||ta.led&&ta.plain||decide (l.size<=1))=af
 .rw[if_pos hc];refine Vi n ?_ λc hw=>i c hw
  simp at hc;rcases hc with(hc|⟨h1,h2⟩)|hc
  .exact .inl hc
  all_goals simp_all
 .rw[if_neg hc];refine ax (jaV n H g ?_);refine ax (oF ?_);refine ax (g.state ?_)
  split
  .obtain⟨ob,v,y,B⟩:=g.ex;refine ax (wpAny_storeSet_of v B ?_ aE);refine aP (h l _ (λx z=>z) (λb ob J e=>Heap.get?_update_of_ne _ (gM J) e) ?_)
   have j:({m with led:=m.led&&ta.led,plain:=m.plain&&ta.plain}:oO).fits (#[]:Array (Int×aJ)).size=af:=by
    have:=g.ft;cases m;exact this
   obtain⟨L,_⟩:=SetOf_store (knd:=nG d w) (S':=λx=>ag) v y B (λe u=>by simp at u) (λk=>by simp) au j;exact⟨_,_,⟨⟨_,L,y,rfl⟩,λe u=>by simp at u,by decide,j⟩⟩
  .exact aP (i _ λx z=>z)
def Yg(k)(tk):(nG a w).is k (.int k tk)=af:=by
 nomatch (beq_self_eq_true k)
def K7(d:s.TypeIs (.ref a) "set")(h:Q af s):wpAny (aN c w) A (La (.ref a)) Q E s:=by
 refine ax (Cc d F.sub_set_set ?_);exact aP h
def Xc{id}(I:s.heap.SetOf (nG c w) a N O)(p:s.heap.SetOf (nG c w) o J U)(Y:∀k,N k=af->J k=af)(hn: ¬O/4>U)
   (h:∀(d),(∀b ob,b<s.heap.objs.size->s.heap.get? b=ae ob->d.get? b=ae ob)->(∃g i,dI d s.heap.objs.size #[] g i)->Q (.ref s.heap.objs.size) {s with heap:=d}):
   wpAny (aN c w) A (Lb id a (.ref o)) Q E s:=by
 obtain⟨ea,pa,ta,m,rfl,mA⟩:=dI.of I;obtain⟨eo,po,to_,q,rfl,mO⟩:=dI.of p
 delta Lb Builtin.Frozenset.sizeOf Lc setEntries Builtin.Frozenset.baseOf setEpoch
 refine ax (K7 (p.typeIs) ?_);simp only[Bool.not_true,FN,if_false,pure_bind,bind_assoc,Bool.false_and,if_true];refine ax (q.state ?_);refine ax (m.state ?_);rw[if_neg hn];refine ax (Cc (I.typeIs) F.sub_set_set ?_);refine ax (wpAny_newSet_of (knd:=nG c w) λled hS=>?_);simp only[pure_bind];obtain⟨er,pr,tr,iR,hz,_⟩:=dI.of hS;have u:=Array.eq_empty_of_size_eq_zero hz;subst u;have n:∀b ob,s.heap.get? b=ae ob->(s.heap.push {cls:=.type "set",dict:=ah,data:=.set #[] 0 (.fresh 0 0 led)}).get? b=ae ob:=λb ob e=>cc _ e
 have j:=m.keep (n a);refine ax (j.state ?_);refine ax (gk ?_);refine ax (Wg j (q.keep (n o)) iR ?_);rintro ws d hw v ⟨g,i,iF⟩;have y:=j.keep λob e=>v _ _ (di (let ⟨_,e,_⟩:=m.ex;b7 e)) e
 have z:d.SetOf (nG c w) o J eo.size:=by
   obtain⟨ob,es,ep,t,ho,hx,hd,rest⟩:=p;exact⟨ob,es,ep,t,v _ _ (di (let ⟨_,e,_⟩:=q.ex;b7 e)) (n _ _ ho),hx,hd,rest⟩
 refine ax (Pn _ (λrest b B=>B={s with heap:=d}/\∀e∈rest,e∈ea.toList) _ ?_ ?_ ws _ ⟨rfl,hw⟩)
 .rintro⟨hh,x⟩ rest b B ⟨rfl,L⟩;have l:=L _ g8;obtain⟨k,tk,e1,e2⟩:=m.el _ l;subst e1;subst e2;refine ax (gk ?_);have H:=Y k ((mA k).mpr ⟨_,l,Yg k tk⟩);refine ax (wpAny_setFind_of (knd:=nG c w) (Yg k tk) aa z λr hr=>?_);rw[hr,H];refine aP ?_
  delta Builtin.Frozenset.unchanged setEpoch
  simp only[bind_assoc,pure_bind];refine ax (y.state ?_);simp only[bne_self_eq_false,FN,if_false,pure_bind];exact aP ⟨rfl,λe he=>L e (g9 _ he)⟩
 .rintro b B ⟨rfl,_⟩;exact aP (aP (h d (λb ob hb e=>v b ob (di hb) (n b ob e)) ⟨g,i,iF⟩))
def Ky:entryFor table "set.__sub__" =ae mF.«frozenset.__sub__» :=
 entryFor_alias (id':= "frozenset.__sub__") (by kernel_rfl) aa cu (by kernel_rfl)
def jeQ(g:s.heap.SetOf (nG c w) a n p)(i:s.heap.SetOf (nG c w) o q u)(v:∀k,n k=af->q k=af)(y: ¬p/4>u)
  (h:∀(e),(∀b ob,b<s.heap.objs.size->s.heap.get? b=ae ob->e.get? b=ae ob)->(∃j m,dI e s.heap.objs.size #[] j m)->Q (.ref s.heap.objs.size) {s with heap:=e}):
  wpAny (aN c w) A (iG .Sub (.ref a) (.ref o)) Q E s:=by
 refine wpAny_binaryOp_same g.typeIs i.typeIs F.fills_set_sub F.slot_set_sub (nK F.slot_set_sub g.typeIs Ky ?_ (F.args_set_sub_2 _ _))
 show wpAny _ _ (do
  let (self,d)<-Pp "__sub__" ⟨[.ref a,.ref o],[]⟩
  let (l,r):=(self,d)
  if !(<-La l<&&>La r)then rule s!"frozenset.{"__sub__"}.declined";return<-ret .notImplemented
  ret (<-Lb s!"frozenset.{"__sub__"}" (<-Lc l) r)) _ _ _
 delta Pp slotArgs
 simp
 delta andM
 simp;refine ax (K7 g.typeIs ?_);refine ax (K7 i.typeIs ?_)
 delta Lc
 simp;refine ax (Xc g i v y λe z B=>?_);exact aP ⟨_,rfl,by simp,h e z B⟩
end
def dI.setOf(x:dI h a #[] d g):h.SetOf (nG c w) a (λy=>ag) 0:=by
 obtain⟨o,h1,h2,i⟩:=x.ex;exact⟨o, #[],d,g,h1,h2,i,λe j=>by simp at j,λk=>by simp,by decide,x.ft,rfl⟩
def dd(a:List Int):List Int:=firstMet (λi=>a.getD i 0) (ao a)
def jl4(a)(k):(dd a).any (· ==k)=a.any (· ==k):=by
 delta dd
 rw[firstMet_any];congr 1;apply List.ext_getElem
 .simp
 .intro i d c;simp[cW c]
section
theorem uF:∀{is}{us},aW (is.map V.int) us->IntsAre us is
 |[],_,.nil=>.nil
 |i::is,_,.cons h t=>by
  obtain⟨k,rfl⟩:=h;exact .cons i k (uF t)
def UE(m:X.bU=af):bG X (.type "set") (λd H Q=>∃(p:ar)(a:List Int),d=[.ref p]/\df X.K H p (a.map V.int)/\ao a+1<tP/\∀l,H l=ah->Q (.ref l) (aQ H l (.set (λk=>a.any (· ==k)) (dd a).length))):=by
 rintro g s E H d J Q I r ⟨p,a,n,v,L,q⟩;subst n;obtain⟨u,rfl,w⟩:=Jw r;cases w;obtain⟨y,h,pl,_⟩:=I.list v;obtain⟨i,N⟩:=vI h;refine call_set_list (I.ok.hd m) pl.isList (by simpa using uF h) aZ λj tk z B=>?_
 have c:j.SetOf (nG X.P X.w) s.heap.objs.size (λk=>a.any (· ==k)) (dd a).length:=by
  refine SetOf_congr z (λk=>?_) ?_
  .simp only[eW,i];exact jl4 a k
  .simp only[eW,i];rfl
 exact⟨.ref s.heap.objs.size,_,I.laid (λb o e=>B b o (b7 e) e) (bz _) (show bC X.P X.w _ j _ (.set _ _) from c),rfl,q _ (I.be.fresh (bz _))⟩
def jis:c9 X (iG .Sub) (λx y H Q=>∃a b S n c d,x=.ref a/\y=.ref b/\H a=ae (.set S n)/\H b=ae (.set c d)/\(∀k,S k=af->c k=af)/\ ¬n/4>d/\∀l,H l=ah->Q (.ref l) (aQ H l (.set (λf=>ag) 0))):=by
 rintro g s L H x y v u Q I h i ⟨a,b,S,n,c,d,j,m,p,r,w,z,q⟩;subst j;subst m;cases h;cases i;refine jeQ (I.be a _ p) (I.be b _ r) w z ?_;rintro B E ⟨N,O,J⟩;exact⟨.ref s.heap.objs.size,_,I.laid (λb o e=>E b o (b7 e) e) (bz _) (show bC X.P X.w _ B _ (.set _ _) from J.setOf),rfl,q _ (I.be.fresh (bz _))⟩
def jew:bG X (.builtin "len") (λc H Q=>∃a S n,c=[.ref a]/\H a=ae (.set S n)/\Q (.int n) H):=by
 rintro d s E H c J Q I r ⟨a,S,n,e,g,q⟩;subst e;obtain⟨u,rfl,h⟩:=Jw r;cases h;have i:=I.be a _ g;obtain⟨o,j,L,t,l,m,p,v,N,w,y,z⟩:=i;subst z;have B:tP=4096:=rfl;exact call_len_set l m p y (by rw[B]at w;omega) ⟨.int j.size,H,I.tok _,⟨_,rfl⟩,q⟩
def oP(a b:D):aw D:=match a,b with
 |.al x,.al y=>match WX x,WX y with
  |some u,ae v=>bh (ao u+1<tP/\ao v+1<tP/\(∀i∈u,i∈v)/\ ¬(dd u).length/4>(dd v).length) (.ok (.int 0))
  |_,_=>.am
 |_,_=>.am
set_option tactic.hygienic true in
theorem jeR(h:oP a b=.ok d):∃u v,a=.al (u.map D.int)/\b=.al (v.map D.int)/\(ao u+1<tP/\ao v+1<tP/\(∀i∈u,i∈v)/\ ¬(dd u).length/4>(dd v).length)/\d=.int 0:=by
 unfold oP at h
 split at h
 .rename_i x y
  split at h
  .rename_i u v e1 e2;obtain⟨c,e⟩:=jE h;cases e;exact⟨u,v,by rw[Yi e1],by rw[Yi e2],c,rfl⟩
  .cases h
 .cases h
def jeb(J:X.bU=af)(h1:DE X l1 e1 f1)(h2:DE X L e2 f2)(n:Gl X "len")(r:X.mg "len" =ah)(c:Gl X "set")(e:X.mg "set" =ah)
   (g:bx [.BinOp (.Call (.Name "set" N) [e1] [] O) .Sub (.Call (.Name "set" U) [e2] [] Y) h] X.V=(ag,eval (.BinOp (.Call (.Name "set" N) [e1] [] O) .Sub (.Call (.Name "set" U) [e2] [] Y) h) X.V)::bx [] X.V:=by exact jq aa)
   (i:bx [e1] X.V=(ag,eval e1 X.V)::bx [] X.V:=by exact jq aa) (j:bx [e2] X.V=(ag,eval e2 X.V)::bx [] X.V:=by exact jq aa):
   DE X .b (.Call (.Name "len" p3) [.BinOp (.Call (.Name "set" N) [e1] [] O) .Sub (.Call (.Name "set" U) [e2] [] Y) h] [] q3) (aq f1 f2 oP):=by
 nomatch (
  PE.imp (yd jew n r aa (qc (ET jis (yM (UE J) c e aa (qc h1 zV i) au au i aa) (yM (UE J) c e aa (qc h2 zV j) au au j aa)) zV g) au au g aa)<|by
   rintro σ H Q ⟨G,H0,m,d,k,w,q⟩;obtain⟨a,c1,w⟩:=je w;obtain⟨b,c2,c3⟩:=je w;obtain⟨u,v,rfl,rfl,⟨z1,z2,z3,z4⟩,rfl⟩:=jeR c3;refine⟨G,H0,m,_,k,c1,λx1 H1 s1 r1 x=>?_⟩;obtain⟨p,xs,rfl,hp,_,rs⟩:=(r1.aS Lv.bA).dg;have y:=Vm rs;subst y;refine⟨p,u,rfl,.inl (.inl hp),z1,λl hl=>?_⟩;have S1:=aA.aQ (o:=HO.set (λk=>u.any (· ==k)) (dd u).length) hl;refine⟨G,H0,m,_,(k.aB s1).aB S1,c2,λx2 H2 s2 r2 x=>?_⟩;obtain⟨p',xs,rfl,z,_,B⟩:=(r2.aS Lv.bA).dg;have y:=Vm B;subst y;refine⟨p',v,rfl,.inl (.inl z),z2,λl' E=>?_⟩;have S2:=aA.aQ (o:=HO.set (λk=>v.any (· ==k)) (dd v).length) E;refine⟨l,l',_,_,_,_,rfl,rfl,S2 _ _ (s2 _ _ jv),jv,λk hk=>?_,z4,λL I=>?_⟩
   .simp_all
   .have S3:=aA.aQ (o:=HO.set (λx=>ag) 0) I
    exact⟨L,_,0,rfl,jv,q _ _ (s1.trans (S1.trans (s2.trans (S2.trans S3)))) (.int 0) trivial⟩)
end
open PySem.SeqAt (EqAt RcAt RcNeAt)
section
variable{w:World}{A:hJ}{E:Wo}{s:bT}
def VZ(h:Q 0xFCA86420 {s with toks:=s.toks+1}):wpAny (aN Y w) A (pyHash .none) Q E s:=by
 have a:[lI].any Value.onHeap=ag:=rfl;refine ax ?_;rw[cRoomFor,if_neg aZ];refine aP ?_;refine ax (Bb (typeIs_none s) FP.lookup ?_);refine ax (Bb (typeIs_none s) FP.lookup ?_)
 refine ax (wpAny_callSpecialIfBoundUnlessNone?_slot (typeIs_none s) FP
  (nK FP (typeIs_none s) F.entry_NoneType_hash
   (wpAny_ret_mkInt ?_) (F.args_NoneType_hash_1 _)))
 show wpAny _ _ (if(aD (-(2)^63<=0xFCA86420)&&aD ((0xFCA86420)<2^63))=af then _ else _) Q E _;exact aP h
variable{Y:fW}{w:World}{O:Type}[DecidableEq O]{U:HeapKind Y w O}
def jb0{stored}(c:∀v∈stored,∃a b,v=.ref b/\U.is s.heap a b)(h:Q ag s):wpAny (aN Y w) A (tableMayTell .none stored) Q E s:=by
 delta tableMayTell
 split
 .exact aP h
 .refine ax (aP ?_);refine ax ?_;refine td _ (λrest r d=>d=s/\r=(ah,())/\∀v∈rest,∃a b,v=.ref b/\U.is s.heap a b) _ ?_ ?_ _ _ ⟨rfl,rfl,c⟩
  .rintro x rest r d ⟨rfl,rfl,e⟩;obtain⟨a,b,rfl,g⟩:=e x g8;refine ax (U.quiet g ?_);exact aP ⟨rfl,rfl,λv i=>e v (g9 _ i)⟩
  .rintro r d ⟨rfl,rfl,_⟩;exact aP h
def Um{c J}{y:List (O×ar×aJ)}(z:∀k b,U.is s.heap k b->EqAt A s (.ref b) .none ag)
   (n:s.heap.get? d=ae o) (p:o.data=.dict c J) (he:c.toList=y.map (entryOfKey U)) (q:∀x∈y,U.is s.heap x.1 x.2.1) (H:Q ah s):
   wpAny (aN Y w) A (dictFind d .none u) Q E s:=by
 have h:∀e∈c,∃x∈y,e=entryOfKey U x:=by
   intro e L;have:e∈y.map (entryOfKey U):=by grind
   grind
 have B:∀v∈(placesWithHash c.size (λi=>c[i]?.map (·.hash)) u).filterMap (λi=>c[i]?.map (·.key)),∃N b,v=.ref b/\U.is s.heap N b:=by
   intro v hv;obtain⟨i,_,I⟩:=Bj.mp hv
   cases a:c[i]? with
   |none=>simp_all
   |some e=>
     rw[a]at I;obtain rfl:e.key=v:=by simpa using I
     obtain⟨x,g,rfl⟩:=h e (Array.mem_of_getElem? a);exact⟨x.1,x.2.1,rfl,q x g⟩
 try with_reducible refine gk ?_
 refine ax (tJ n p ?_);dsimp only
 have step:∀(i:Nat) e,c[i]?=ae e->EqAt A s e.key .none ag:=λi e a=>by
   obtain⟨x,g,rfl⟩:=h e (Array.mem_of_getElem? a);exact z _ _ (q x g)
 by_cases j:((lI::(placesWithHash c.size (λi=>c[i]?.map (·.hash)) u).filterMap (λi=>c[i]?.map (·.key))).all AQ)=af
 .rw[if_pos j];refine ax ?_;refine td _ (λrest r m=>m=s/\r=(ah,())) _ ?_ ?_ _ _ ⟨rfl,rfl⟩
  .rintro i rest r m ⟨rfl,rfl⟩
   cases a:c[i]? with
   |none=>exact aP ⟨rfl,rfl⟩
   |some e=>
     dsimp only
     by_cases g:(e.hash==u)=af
     .rw[if_pos g];refine ax (rS n p (ax (step i e a _ _ _ _ (ax (rS n p ?_)))));simp;refine ax (oF ?_);exact aP ⟨rfl,rfl⟩
     .rw[if_neg g];exact aP ⟨rfl,rfl⟩
  .rintro r m ⟨rfl,rfl⟩;exact aP H
 .rw[if_neg j]
  by_cases l:(((placesWithHash c.size (λi=>c[i]?.map (·.hash)) u).filterMap (λi=>c[i]?.map (·.key)))==[lI])=af<;>
  (first|rw[if_pos l]|rw[if_neg l])<;>(first|refine ax (aP ?_)|refine ax (jb0 B ?_))<;>(
    refine ax ?_;refine td _ (λrest r m=>m=s/\r=(ah,ah)) _ ?_ ?_ _ _ ⟨rfl,rfl⟩
    .rintro i rest r m ⟨rfl,rfl⟩
     cases a:c[i]? with
     |none=>exact aP ⟨rfl,rfl⟩
     |some e=>
       dsimp only
       by_cases g:(e.hash==u)=af
       .rw[if_pos g];refine ax (rS n p (ax (step i e a _ _ _ _ (ax (rS n p ?_)))));simp;refine ax (oF ?_)
        first|rw[if_neg aE]|skip
        first
         |exact aP ⟨rfl,rfl⟩
         |exact ax (aP (aP ⟨rfl,rfl⟩))
       .rw[if_neg g];exact aP ⟨rfl,rfl⟩
    .rintro r m ⟨rfl,rfl⟩
     exact aP H)
def ji0(p:A.units+20<cLine)(i:(d==lJ)=ag)(a:s.heap.DictOfH (bH Y w) d q)
   (h:Q (.bool ag) {s with toks:=s.toks+1}):wpAny (aN Y w) A (gp .In .none (.ref d)) Q E s:=by
 refine ax ?_
 delta contains
 try with_reducible refine gk ?_
 refine ax (Bb a.typeIs slot_dict_contains.lookup ?_)
 refine ax (wpAny_callSpecialUnlessNone?_slot a.typeIs slot_dict_contains
   (nK slot_dict_contains a.typeIs entry_dict_contains ?_ (args_dict_contains _ _)))
 show wpAny _ _ (dictGet d .none>>=_) _ _ s;obtain⟨o,r,u,j,_,c,l,g,v⟩:=a;refine ax ?_
 try with_reducible refine gk ?_
 refine ax (VZ (ax (Um (λk b m=>?_) j c l g (aP ?_))))
 .obtain⟨y,n,e,t,_⟩:=cz.mp m.1;cases e;exact EqAt.tuple_none t dX
 .show wpAny _ _ (Builtin.Dict.pendingKey? d .none>>=_) _ _ _;exact ax (wpAny_pendingKey_other i (aP ⟨_,rfl,pz (aP h)⟩))
end
section
def AR:R2:=λx y H Q=>∃a c,y=.ref a/\Rd H a (.dT c)/\((x=.bo/\Q (.bl ag) H)\/∃b k,x=.ref b/\TK H k b/\Q (.bl (cC c k).isSome) H)
def uk(e:X.A.units+20<cLine):c9 X (gp .In) AR:=by
 rintro g s w H x y v u Q I i l ⟨a,c,m,j,h⟩;subst m;obtain rfl:u=cg a:=l;rcases h with⟨d,q⟩|⟨b,k,d,n,q⟩
 .subst d;obtain rfl:v=lI:=i;obtain⟨z,o,B,p,dd⟩:=KA I.be j;exact ji0 e o dd ⟨.bl ag,H,I.tok _,rfl,q⟩
 .subst d;exact HK e I (.inr ⟨c,k,b,j,rfl,n,rfl⟩) i λE r=>⟨.bl _,H,r,rfl,q⟩
def sM(a:List (List NK)):D->aw D
 |.bo=>.ok (.bl ag)
 |kd=>match bW kd with
  |some k=>.ok (.bl (dG a k))
  |none=>.am
def nU:D->D->aw D
 |kd,.bw a _|kd,.bV a _=>sM a kd
 |_,_=>.am
set_option tactic.hygienic true in
theorem um:fR u AR nU:=by
 intro x y H a b d Q i j e q
 have h:∀{p:ar}{c:List (List NK×V)},Rd H p (.dT c)->sM (c.map (·.1)) a=.ok d->AR x (.ref p) H Q:=λg e=>by
   delta sM at e
   split at e
   .cases e;exact⟨_,_,rfl,g,.inl ⟨i.pG,q _ (iz _)⟩⟩
   .split at e
    .rename_i k l;cases e;obtain⟨m,rfl,n⟩:=xj i l;refine⟨_,_,rfl,g,.inr ⟨m,k,rfl,n,?_⟩⟩;rw[<-ZU,KZ];exact q _ (iz _)
    .cases e
 cases b<;>try exact dD e
 .obtain⟨p,c,rfl,g,_,rfl,r⟩:=j.sG;exact h (.inl g) e
 .obtain⟨p,c,rfl,⟨o,g⟩,rfl,r⟩:=j.f;exact h (.inr ⟨o,g⟩) e
def jcZ:Bq X "list.insert" (λx d H Q=>∃l c i y,x=.ref l/\d=[.int i,y]/\H l=ae (.al c)/\0<=i/\i<2^63/\ao c<ba/\Q .bo (aQ H l (.al (c.take i.toNat++y::c.drop i.toNat)))):=by
 rintro g s J H x d v L Q I j m ⟨l,c,i,y,o,p,h,N,u,O,q⟩;subst o p;cases j
 cases m with
 |cons w t=>
  cases t with
  |cons B t=>
   cases t;obtain⟨t,rfl⟩:=w;obtain⟨z,a,n,r,U,e⟩:=I.iH h;refine yE F.slot_list_insert ⟨_,e,rfl⟩ F.entry_list_insert (F.args_list_insert_3 _ _ _) (AutoSeq1.list_insert_list_int_val_1 l a.toArray n i t _ (by rw[fitsIndex_both ak u];simp) (by rw[eW];omega)) ⟨e,?_⟩;refine⟨.bo,_,I.oz h e ?_ ((r.take _).append (.cons B (r.drop _))) ?_,rfl,q⟩
   .show(((a.toArray.extract 0 (if i<0 then(i+(a.toArray.size:Int)).toNat else min i.toNat a.toArray.size)).push _++a.toArray.extract (if i<0 then(i+(a.toArray.size:Int)).toNat else min i.toNat a.toArray.size)))=_;rw[if_neg ak];apply Array.toList_inj.mp;simp
    by_cases E:i.toNat<=ao a
    .rw[Nat.min_eq_left E];simp[DN]
    .rw[Nat.min_eq_right ak];simp[DN,Ld,show ao a<=i.toNat by omega]
   .simp;omega
def W0(i:Nat)(e g:T3):Sl->aw br:=λa=>eH i a>>=λc=>e a>>=λj=>g a>>=λd=>match j with
 |.int k=>bh (0<=k/\k<2^63/\ao c<ba) (.ok (.nx (a.set i (.aG (.al (c.take k.toNat++d::c.drop k.toNat))))))
 |_=>.am
def jd3(i)(h1:DE X l1 e1 f1)(h2:DE X .s e2 f2)(hN:X.N[i]?=ae x:=by rfl)(hv:gj X.V.scope x:=by exact dC aa)
   (hd:YG x:=by decide) (z:YF x:=by decide)
   (h:lL (.Name x p) "insert" X.V (eval (.Name x p) X.V)=eval (.Name x p) X.V:=by rfl)
   (m:((fh c (bx [e1,e2] X.V)).all (λx=>!x.1)&&(mz c (mB [] X.V)).all (λx=>x.1.isSome)
    &&aD ([e1,e2].length+([]:List iy).length+(if([]:List iy).isEmpty then 0 else 1)<30))=af:=by exact xS aa aa)
   (l:(g.endLine==c.line)=af:=by rfl) (N:bx [e1,e2] X.V=(ag,eval e1 X.V)::bx [e2] X.V:=by exact jq aa) (e:(fh c (bx [e2] X.V)).any (·.1)=ag:=by exact jR aa)
   (B:bx [e2] X.V=(ag,eval e2 X.V)::bx [] X.V:=by exact jq aa)
   (I:kw (.Call (.Attribute (.Name x p) "insert" g) [e1,e2] [] c) ah J.line X.V=pure ag:=by rfl):
   DS X (.Expr (.Call (.Attribute (.Name x p) "insert" g) [e1,e2] [] c) J) (W0 i f1 f2):=by
 nomatch (
  PS.imp (Zg (ku CZ PySem.F.slot_list_insert PySem.F.type_list_insert jcZ (zC hN hv hd z) (qc h1 (qc h2 zV B) N) h m l N e) I)<|by
   rintro E σ H ⟨G,O,n,o,k,r,q⟩;obtain⟨Q,c1,r⟩:=je r;obtain⟨j,c2,r⟩:=je r;obtain⟨d,c3,U⟩:=je r
   cases j with
   |int L=>
    obtain⟨⟨z1,z2,z3⟩,c5⟩:=jE U;cases c5;have Y:=yf c1;obtain⟨a,xs,ha,hx,rs⟩:=ye k Y;refine⟨.ref a,ha,.inl ⟨rfl,xs,.of hx⟩,G,O,n,_,k,c2,λv1 H1 u r1 b=>⟨G,O,n,d,k.aB u,c3,λv2 H2 y r2 b=>?_⟩⟩;have v:=y _ _ (u _ _ hx);cases(r1.aS Lv.bA).eG;refine⟨a,xs,L,v2,rfl,rfl,v,z1,z2,by rw[rs.length];exact z3,?_⟩;have w:=(rs.aB u).aB y;have W:=((k.aB u).aB y).write Y ha v (ds':=Q.take L.toNat++d::Q.drop L.toNat) ((w.take _).append (.cons r2 (w.drop _)));exact q σ _ W.1 ((W.2.aB y).aB u)
   |_=>exact dD U)
end
end M
namespace M
open PySem PySem.Spec L2
open PyProof.Rows hiding St
section
variable{Y:fW}{w:World}{A:hJ}
def VP:typeLookup (.type "list") "keys" =pure ah:=by rw[typeLookup_type,builtinLookup_eq_fast];kernel_rfl
def jdg(m:s.heap.get? a=ae o)(p:o.cls=.type "list")(i:o.dict=ah)(q:o.data=.seq r k)(u:A.handled=ah)
  (h:∀c tk,(∀b ob,s.heap.get? b=ae ob->c.get? b=ae ob)->Q ah {s with heap:=c,toks:=tk}):wpAny (aN Y w) A (getAttr? (.ref a) "keys") Q E s:=by
 obtain⟨y,g,d,tk,os⟩:=s;obtain⟨z,B,j,l⟩:=o;subst p i q;have H:=sub_AttributeError;have I:=Le.lookup;have J:=Le.bind (.ref a);have L:=am_list_getattr_none
 repeat (any_goals (first | assumption |((with_reducible show wpAny _ _ (call (Value.builtin "list.__getattribute__") _ _) _ _ _); refine yE Le (⟨_, m, rfl⟩) am_entry_list_getattribute (F.args_list_getattribute_2 _ _) (meets_getattribute_miss_list a r k l "keys" _ VP au) ⟨m, u, λc v e n => ?_⟩) | wp_step))
 obtain⟨N,O,U⟩:=n.there
 delta getattributeRaised
 repeat (any_goals (first|assumption|wp_step))
 exact h c _ n.keeps
def wQ:entryFor table "dict.update.loop" =ae mF.«dict.update.loop» :=entryFor_of_tree (by kernel_rfl)
def wP:plainId "dict.update.loop" =af:=by decide+kernel
def YS(c:s.heap.get? t=ae o)(d:o.cls=.type "tuple")(e:o.data=.seq a n)(h:Q a.toList s):wpAny (aN Y w) A (Builtin.Dict.pairItems (.ref t)) Q E s:=by
 refine ax (xi (⟨o,c,d⟩) ?_);refine ax (vr c e ?_);exact aP h
def UH(a:Nat->List NK×ar×aJ):Nat->List (List NK×ar×aJ)
 |0=>[]
 |i+1=>storedH (UH a i) (a i).1 (a i).2.1 (a i).2.2
def U0(c)(k:List NK)(a)(v):(storedH c k a v).length<=ao c+1:=by
 cases h:atKey c k with
 |none=>rw[storedH_new h];simp
 |some p=>rw[storedH_old h];simp
theorem Xj(a):∀i,(UH a i).length<=i
 |0=>bz _
 |i+1=>cn (U0 _ _ _ _) (Nat.succ_le_succ (Xj a i))
def jaI{F:List NK->ar->Prop}(h:∀x∈d,F x.1 x.2.1)(g:F k a):∀x∈storedH d k a v,F x.1 x.2.1:=by
 intro x c
 cases q:atKey d k with
 |none=>
  rw[storedH_new q]at c;rcases fj.mp c with z|z
  .exact h x z
  .rw[lQ]at z;subst z;exact g
 |some p=>
  rw[storedH_old q]at c;obtain⟨y,e,rfl⟩:=dz.mp c
  delta putAt
  split
  .exact h y e
  .exact h y e
theorem KQ{F:List NK->ar->Prop}(h:∀i,i<n->F (c i).1 (c i).2.1):∀i,i<=n->∀x∈UH c i,F x.1 x.2.1
 |0,_,x,a=>by cases a
 |i+1,d,x,a=>jaI (KQ h i (AC bg)) (h i (Dr bg)) x a
def Pq(x:(bH Y w).is h k a)(d:∀b o,b<h.objs.size->h.get? b=ae o->g.get? b=ae o):(bH Y w).is g k a:=
 ⟨M4 (by rintro b i ⟨o,e,c⟩;exact⟨o,d b o (b7 e) e,c⟩) _ _ x.1,x.2⟩
variable{R:Result->bT->Prop}{I:ar}{O U:List ar}{G:Array GenState->Array GenState->Prop}{n:Nat}{P:Nat->aJ->Prop}{St:Nat->bT->Prop}
def jbd(W:WalksS Y w A.in1 I O U G n P St)(d)(B:d∉O)(r)(g)(j:∀i,i<n->(bH Y w).is g (r i).1 (r i).2.1)
  (E:∀i v,P i v->∃t o m,v=.ref t/\g.get? t=ae o/\o.cls=.type "tuple" /\o.data=.seq #[.ref (r i).2.1,(r i).2.2] m)
  (hdw:g.objs.size<=d) (H:∀b∈U,g.objs.size<=b) (hu:A.in1.units+8<cLine) (hn:n<=ba):
  ∀(k i)(s),n-i=k->i<=n->St i s->s.heap.DictOfH (bH Y w) d (UH r i)->(∀b o,b<g.objs.size->g.get? b=ae o->s.heap.get? b=ae o)->
    (∀c,Moved (d::U) G s c->c.heap.DictOfH (bH Y w) d (UH r n)->R (.ok (.ret .none)) c)->
    lZ (aN Y w) A (.builtin "dict.update.loop" ⟨[.ref d,.ref I,lK i,.none],[]⟩) R s:=by
 have hSw:d∉U:=λh=>B (W.sub _ h)
 have u:∀b∈U,b∈d::U:=by simp_all
 have l:∀{s c:bT}{xs:List (List NK×ar×aJ)},s.heap.DictOfH (bH Y w) d xs->(∀x∈xs,(bH Y w).is g x.1 x.2.1)->(∀b o,b<g.objs.size->g.get? b=ae o->s.heap.get? b=ae o)->Moved U G s c->c.heap.DictOfH (bH Y w) d xs:=λJ hx ho0 q=>by
  obtain⟨o,es,ep,ho,hc,hd,he,his,Lf⟩:=J;exact⟨o,es,ep,q.heap d _ hSw ho,hc,hd,he,λx hxx=>Pq (hx x hxx) λb o p e=>q.heap b o (λz=>absurd (H _ z) (Nat.not_le_of_lt p)) (ho0 b o p e),Lf⟩
 intro k
 induction k with
 |zero=>
  intro i s hk hi y J hold hR;have DP:i=n:=by omega
  subst DP;refine sL wQ ?_;refine ax (W.done s _ _ y λc q=>?_);refine ax (aP ?_);exact aP (hR c (q.mono u) (l J (KQ j _ (bz _)) hold q))
 |succ k ih=>
  intro i s hk hi y J hold hR;have cr:i<n:=by omega
  refine sL wQ ?_;refine ax (W.item i s _ _ cr y λv c hP L q=>?_);obtain⟨t,o,m,rfl,ht,hc,hd⟩:=E i v hP;have a:∀b o,b<g.objs.size->g.get? b=ae o->c.heap.get? b=ae o:=λb o p e=>q.heap b o (λz=>absurd (H _ z) (Nat.not_le_of_lt p)) (hold b o p e)
  refine ax (gk ?_);refine ax (wpAny_tryCatch (YS (a _ _ (b7 ht) ht) hc hd ?_));refine gk ?_;refine wpAny_dictSet_heap hu (Pq (j i cr) a) (l J (KQ j _ hi) hold q) (λh' dd' hs=>?_) (cn (Xj r i) (cn hi hn));refine aP ⟨AS wP _,?_⟩;have N:=ih (i+1) {c with heap:=h',toks:=c.toks+(bH Y w).draws (r i).1} ak cr (W.frame _ c _ _ L (qa _ _) λb p o e=>?_) dd' (λb o p e=>?_) λLg Q Lh=>?_
  .exact N
  .rw[hs.2 b (λh:b=d=>B aZ)];exact e
  .rw[hs.2 b (λh:b=d=>absurd hdw ak)];exact a b o p e
  .refine hR Lg (Moved.trans W.gtrans ((q.mono u).then_heap (qa _ _) λb o p e=>?_) Q) Lh;rw[hs.2 b (λh:b=d=>p aZ)];exact e
def Xi(d)(hh:A.handled=ah)(z:s.heap.get? l=ae J)(L:J.cls=.type "list")(N:J.dict=ah)(hd:J.data=.seq a m)
  (g:∀i,i<a.size->(bH Y w).is s.heap (d i).1 (d i).2.1)
  (j:∀i v,a[i]?=ae v->∃t o m,v=.ref t/\s.heap.get? t=ae o/\o.cls=.type "tuple" /\o.data=.seq #[.ref (d i).2.1,(d i).2.2] m) (hu:A.units+20<cLine) (hn:a.size<=ba)
  (h:∀p tk,(∀b o,s.heap.get? b=ae o->p.get? b=ae o)->p.DictOfH (bH Y w) s.heap.objs.size (UH d a.size)->Q (.ref s.heap.objs.size) {s with heap:=p,toks:=tk}):
  wpAny (aN Y w) A (call (.type "dict") [.ref l]) Q E s:=by
 refine callType_codes (Q₁:=λobj c=>obj=.ref s.heap.objs.size/\c={s with heap:=s.heap.push {cls:=.type "dict",data:=.dict #[]}}) F.kt_called_dict (F.kt_typeCall_dict_1 _) F.entry_dict_init (kt_code_dict_new _ ⟨rfl,rfl⟩) ?_;rintro obj c ⟨rfl,rfl⟩;have q:∀b o,s.heap.get? b=ae o->(s.heap.push {cls:=.type "dict",data:=.dict #[]}).get? b=ae o:=λb o e=>cc _ e
 have hT:FQ {s with heap:=s.heap.push {cls:=.type "dict",data:=.dict #[]}} (.ref s.heap.objs.size) "dict" :=⟨_,dA _ aa,rfl⟩
 refine⟨hT,F.args_dict_init_2 _ _,?_⟩;refine ax ?_;refine ax (Fy hT ?_);refine aP ?_;show wpAny _ _ (Builtin.Dict.updateFrom "dict.__init__" s.heap.objs.size (.ref l) [] .none) _ _ _;refine ax (xi (⟨_,q _ _ z,L⟩) ?_);refine ax (jdg (q _ _ z) L N hd (by simp[hh]) λh1 eq r=>?_);refine ax (oF ?_);have u:h1.IsList l a:=⟨_,r _ _ (q _ _ z),L,m,hd⟩
 refine ax (vH u ?_);have y:=b7 (r _ _ (dA _ aa));have hlS:=b7 z;refine aP ⟨AS wP _,?_⟩;have hh3:A.in1.in1.handled=ah:=by simp[hh]
 refine jbd ((Walks.list hh3 h1.objs.size l (di (sB hlS y)) a).toS) s.heap.objs.size dX d s.heap g (λi v hv=>j i v hv) (bz _) (λb B=>by simp at B;subst B;exact Bf y) dX hn (a.size-0) 0 _ ak (fH _)
  ⟨⟨_,dA _ aa,rfl,rfl⟩,u.push _⟩ ?hd0 (λb o B e=>cc _ (r _ _ (q _ _ e))) ?hR
 case hd0=>
  exact⟨_, #[],0,cc _ (r _ _ (dA _ aa)),⟨rfl,rfl,rfl⟩,rfl,rfl,(λx hx=>by cases hx),pD⟩
 case hR=>
  intro s' H hS';obtain⟨p,g',d',Li,os'⟩:=s';have eg:=H.gens;have ed:=H.drawn;have eo:=H.os;subst eg;subst ed;subst eo;refine⟨rfl,h p Li (λb o e=>?_) hS'⟩;have B:=b7 e;exact H.heap b o dX (cc _ (r _ _ (q _ _ e)))
end
def uH(a:aX k A):A.units+20<cLine:=xt a
section
inductive tQ(H:Hp):List V->List (List NK×V)->Prop where
 |nil:tQ H [] []
 |cons {t b:ar} {k:List NK} {v:V} {r:List V} {ps:List (List NK×V)}:H t=ae (.ap [.ref b,v])->TK H k b->tQ H r ps->tQ H (.ref t::r) ((k,v)::ps)
def ZA(c:List (List NK×V)):List (List NK×V):=c.foldl (λa p=>putK a p.1 p.2) []
set_option tactic.hygienic true in
theorem jig{z:L2.St}(I:aK X j z H s):∀{l}{n}{a},tQ H l n->aW l a->
  ∃c,ao c=ao a/\mR (λ(p) (q:List NK×ar×aJ)=>p.1=q.1/\TK H p.1 q.2.1/\aR p.2 q.2.2) n c/\
   ∀(i:Nat)(v),a[i]?=ae v->∃q,c[i]?=ae q/\∃t o m,v=.ref t/\s.heap.get? t=ae o/\o.cls=.type "tuple" /\o.data=.seq #[.ref q.2.1,q.2.2] m:=by
 intro _ _ a r
 induction r generalizing a with
 |nil=>intro r;cases BH r;exact⟨[],rfl,.nil,λi v h=>by cases h⟩
 | @cons t b k _ _ _ B E hr J=>
  intro g;obtain⟨u,w,rfl,L,g⟩:=tK g;obtain⟨c,N,O,Q⟩:=J g;obtain⟨y,d,⟨o,e1,e2,m,U⟩,_⟩:=I.tuple (.inl (.of B));obtain⟨Y,w,rfl,ra,d⟩:=tK d;obtain⟨ub,w,rfl,rb,d⟩:=tK d;cases BH d;cases(show Y=cg b from ra);cases L;refine⟨(k,b,ub)::c,by simp[N],.cons ⟨rfl,E,rb⟩ O,λi v e=>?_⟩
  cases i with
  |zero=>
   simp at e;subst e;exact⟨_,rfl,t,o,m,rfl,e1,e2,U⟩
  |succ i=>
   simp at e;obtain⟨q,g1,g2⟩:=Q i v e;exact⟨q,by simpa using g1,g2⟩
def X6{F}:∀{a:List e}{c},mR F a c->∀(i:Nat)(y:g),c[i]?=ae y->∃x,a[i]?=ae x/\F x y:=by
 intro _ _ r
 induction r with
 |nil=>intro i y h;cases h
 |cons r _ d=>
  intro i y h
  cases i with
  |zero=>cases h;exact⟨_,rfl,r⟩
  |succ i=>exact d i y h
theorem Pr(r:mR (λ(p) (q)=>p.1=q.1/\TK H p.1 q.2.1/\aR p.2 q.2.2) c a):
  ∀i,i<=ao a->KT H (ZA (c.take i)) (UH (λj=>a.getD j ([],0,.none)) i)
 |0,_=>.nil
 |i+1,n=>by
  obtain⟨q,e⟩:∃q,a[i]?=ae q:=⟨a[i]'(Dr bg),cW _⟩
  obtain⟨p,g,⟨e1,e2,h⟩⟩:=X6 r i q e;have l:a.getD i ([],0,.none)=q:=by simp_all
  have m:c.take (i+1)=c.take i++[p]:=by rw[List.take_add_one,g];rfl
  have d:ZA (c.take (i+1))=putK (ZA (c.take i)) p.1 p.2:=by delta ZA;rw[m,List.foldl_append];rfl
  rw[d];show KT H _ (storedH (UH (λj=>a.getD j ([],0,.none)) i) (a.getD i ([],0,.none)).1 (a.getD i ([],0,.none)).2.1 (a.getD i ([],0,.none)).2.2);rw[l,<-e1];exact(Pr r i (AC bg)).put p.1 e2 h
def J5(hc:X.bU=af)(hu:X.A.units+20<cLine):bG X (.type "dict") (λU H Q=>∃p m w,U=[.ref p]/\df X.K H p m/\tQ H m w/\∀l,H l=ah->Q (.ref l) (aQ H l (.dT (ZA w)))):=by
 rintro Y s σ H U us Q I r ⟨p,m,w,ex,hp,y,q⟩;subst ex;obtain⟨u,rfl,ru⟩:=Jw r;cases ru;obtain⟨z,rv,⟨o,n,ho,B,E,hd⟩,hz⟩:=I.list hp;obtain⟨a,h1,J,h3⟩:=jig I y rv;have d:z.toArray.size=a.length:=by rw[eW,h1]
 have L:a.length<=ba:=by rw[h1,<-rv.length];exact hz
 refine Xi (λj=>a.getD j ([],0,.none)) (I.ok.hd hc) ho B E hd (λi hi=>?_) (λi v hv=>?_) hu (by rw[d];exact L) λh' tk hk dd=>?_
 .obtain⟨e,h⟩:∃q,a[i]?=ae q:=⟨a[i]'(by rw[d]at hi;exact hi),cW _⟩
  obtain⟨pp,Ps,⟨e1,e2,e3⟩⟩:=X6 J i e h;have N:a.getD i ([],0,.none)=e:=by simp[List.getD,h]
  rw[N,<-e1];exact QK I.be e2
 .obtain⟨e,h,g⟩:=h3 i v (by rw[<-hv];simp);have N:a.getD i ([],0,.none)=e:=by simp[List.getD,h]
  rw[N];exact g
 .have hl:=I.be.fresh (bz _);rw[d]at dd;have O:=Pr J a.length (bz _);have E3:=sg J;rw[DN ak]at O;have kl:=sg O;have hbl:=Xj (λj=>a.getD j ([],0,.none)) a.length;obtain⟨e,es,ep,h,g2,g3,g4,_,g5⟩:=dd;refine⟨.ref s.heap.objs.size,_,I.laid hk (bz _) (show bC X.P X.w _ h' _ (.dT (ZA w)) from⟨by omega,beq_eq_false_iff_ne.mpr (gM (di I.big)),_,O.keeps λc m ec=>?_,e,es,ep,h,g2,g3,g4,g5⟩),rfl,q _ hl⟩;rw[jz (qi ec hl)];exact ec
noncomputable def gA:LD->Option (List (List NK×D))
 |[]=>ae []
 |.ap [a,d]::r=>match bW a,gA r with
  |some k,ae q=>ae ((k,d)::q)
  |_,_=>ah
 |_=>ah
set_option tactic.hygienic true in
theorem vZ:∀{j}{c:LD}{a},ay p A H j c->gA c=ae a->∃g,tQ H j g/\g.map (·.1)=a.map (·.1)/\ay p A H (g.map (·.2)) (a.map (·.2))
 |_,[],a,r,h=>by cases r.pF;cases h;exact⟨[],.nil,rfl,.nil⟩
 |_,d::c,a,r,h=>by
  obtain⟨v,j,rfl,r,u⟩:=r.eM
  obtain⟨i,m,e⟩:∃i m,d=.ap [i,m]:=by
    rcases d with _|_|_|_|l|_|_|_|_|_|_|_|_|_|_<;>try exact rO h
    rcases l with _|⟨x,_|⟨y,_|_⟩⟩<;>try exact rO h
    simp_all
  subst e
  .replace h:(match bW i,gA c with|some k,ae q=>ae ((k,m)::q)|_,_=>ah)=ae a:=h
   cases n:bW i with
   |none=>simp_all
   |some k=>
    cases o:gA c with
    |none=>simp_all
    |some q=>
     rw[n,o]at h;cases h;obtain⟨g,w,g2,z⟩:=vZ u o;obtain⟨t,O,rfl,B,E⟩:=r.fK;obtain⟨Q,I,rfl,J,L⟩:=E.aq;obtain⟨b,rfl,N⟩:=xj J n;exact⟨(k,I)::g,.cons B N w,by simp[g2],.cons L z⟩
def Ju(q:List (List NK)×LD)(p:List NK×D):List (List NK)×LD:=(xx q.1 p.1,Ws q.1 q.2 p.1 p.2)
def QS:LD->aw D
 |[.al c]=>match gA c with
  |some a=>.ok (.bw (a.foldl Ju ([],[])).1 (a.foldl Ju ([],[])).2)
  |none=>.am
 |[.dw c]=>match gA c with
  |some a=>.ok (.bw (a.foldl Ju ([],[])).1 (a.foldl Ju ([],[])).2)
  |none=>.am
 |_=>.am
def jaY:∀{g:List (List NK×V)}{c:List (List NK×D)}{kvs}{q},g.map (·.1)=c.map (·.1)->ay l A H (g.map (·.2)) (c.map (·.2))->kvs.map (·.1)=q.1->ay l A H (kvs.map (·.2)) q.2->
  (g.foldl (λkvs p=>putK kvs p.1 p.2) kvs).map (·.1)=(c.foldl Ju q).1/\ay l A H ((g.foldl (λkvs p=>putK kvs p.1 p.2) kvs).map (·.2)) (c.foldl Ju q).2:=by
 intro g
 induction g with
 |nil=>
  intro c _ _ h _ i j
  cases c with
  |nil=>exact⟨i,j⟩
  |cons=>cases h
 |cons a g o=>
  intro c kvs q h u i j
  cases c with
  |nil=>cases h
  |cons b c=>
   obtain⟨k,v⟩:=a;obtain⟨y,d⟩:=b;obtain⟨_,_,e,r,w⟩:=u.cv;cases e;simp at h;obtain⟨rfl,h⟩:=h;obtain⟨m,n⟩:=vS k j r;rw[i]at m n;exact o (kvs:=putK kvs k v) (q:=Ju q (k,d)) h w m n
def Wa:Xo m (λn H Q=>∃p a g,n=[.ref p]/\df m H p a/\tQ H a g/\∀l,H l=ah->Q (.ref l) (aQ H l (.dT (ZA g)))) QS:=by
 intro A n H u d Q r e q
 have h:∀{p:ar}{a:List V}{w:LD},n=[.ref p]->df m H p a->ay m A H a w->(match gA w with
     |some g=>aw.ok (D.bw (g.foldl Ju ([],[])).1 (g.foldl Ju ([],[])).2)
     |none=>.am)=.ok d->∃p a g,n=[.ref p]/\df m H p a/\tQ H a g/\∀l,H l=ah->Q (.ref l) (aQ H l (.dT (ZA g))):=λ{p a w} E i j e=>by
   split at e
   .rename_i g y;cases e;obtain⟨I,J,g2,L⟩:=vZ j y;obtain⟨N,O⟩:=jaY (kvs:=[]) (q:=([],[])) g2 L aa .nil;exact⟨p,a,I,E,i,J,λl o=>q _ _ (aA.aQ o) (.bw jv (.inl o) N aa ((O.laid o).aS λc z=>⟨.inr z.1,z.2⟩)) (qX (aA.refl H) o)⟩
   .cases e
 rcases u with _|⟨c,u⟩
 .cases e
 cases c<;>try exact dD e
 all_goals cases u<;>try exact dD e
 all_goals obtain⟨v,rfl,B⟩:=r.one
 .obtain⟨p,a,rfl,i,_,j⟩:=B.dg;exact h aa (.of i) j.low e
 .obtain⟨p,a,rfl,i,j⟩:=B.lm;exact h aa i.nO j e
end
structure nv(h:Heap)(z TI TO i1 i2 l1 l2:ar)(k1 k2:Nat)(f0:aJ):Prop where
 hz:IsZip h z TI TO f0
 ti:IsPair h TI (.ref i1) (.ref i2)
 to:∃a b,IsPair h TO a b
 h1:h.IsListIter i1 l1 k1
 h2:h.IsListIter i2 l2 k2
noncomputable def Lj(d:bK)(e g:ar)(a c:List V):It:=⟨λi H=>(df d H e a/\df d H g c)/\i<ao a/\i<ao c,λi H v h=>∃p x y,H p=ah/\a[i]?=ae x/\c[i]?=ae y/\v=.ref p/\h=aQ H p (.ap [x,y]),λi H=>(df d H e a/\df d H g c)/\(ao a<=i\/ao c<=i)⟩
def jbT{TI TO}(N O)(D:ZipApart z TI TO J L a1 a2):
  Turn P w κ (.Tuple elts n pos) (Lj κ a1 a2 N O) [z,TI,TO,J,L] z (λi h=>nv h z TI TO J L a1 a2 i i .none) where
 mem:=by simp
 obj:=λi h st b d=>by
  obtain⟨hz,ti,⟨x,y,to⟩,⟨o1,e1,c1,d1⟩,o2,e2,c2,d2⟩:=st
  grind
 keep:=λi h h' st k=>by
  obtain⟨hz,ti,⟨x,y,to⟩,q1,q2⟩:=st;exact⟨k z aE _ hz,k TI aE _ ti,⟨x,y,k TO aE _ to⟩,q1.at λo e=>k J aE o e,q2.at λo e=>k L aE o e⟩
 item:=by
  intro X hP hw hK hc i j s σ H E I hf st hg;subst hP hw hK;obtain⟨⟨l,m⟩,g1,g2⟩:=hg;obtain⟨Q,p,p1,_⟩:=I.list l;obtain⟨U,r,p2,_⟩:=I.list m;have hx:N[i]?=ae N[i]:=by simp_all
  have hy:O[i]?=ae O[i]:=by simp_all
  obtain⟨u,hu,ru⟩:=p.get hx;obtain⟨v,hv,rv⟩:=r.get hy;obtain⟨za,zb,B⟩:=st.to;refine wpAny_pyNext_zip_item D st.hz st.ti B st.h1 st.h2 p1.isList p2.isList (x:=u) (y:=v) aZ aZ λh' a1' a2' a3' a4' hT f hk=>?_
  have Z':nv h' z TI TO J L a1 a2 (i+1) (i+1) (lK s.heap.objs.size):=⟨a1',hk _ _ D.TIz D.TITO D.TIi1 D.TIi2 st.ti,⟨_,_,a2'⟩,a3',a4'⟩
  refine⟨_,rfl,wpAny_letOwnedTupleGo_zip Z'.hz λtz Y a=>?_⟩;have lt:∀{c o},s.heap.get? c=ae o->c<s.heap.objs.size:=λe=>b7 e
  have se:∀c∈[z,TI,TO,J,L],c<s.heap.objs.size:=λc hc=>by
   obtain⟨hz,ti,⟨_,_,to⟩,⟨_,e1,_⟩,_,e2,_⟩:=st
   grind
  have I1:aK X j σ (aQ H s.heap.objs.size (.ap [N[i],O[i]])) {s with heap:=s.heap.push {cls:=.type "tuple",data:=.seq #[u,v]}}:=
   I.laid (λb o e=>cc _ e) (bz _) ⟨cn (show 2<=20 by decide) au,[u,v],.cons ru (.cons rv .nil),⟨_,dA _ aa,rfl,_,rfl⟩⟩
  have f1:∀b∈[z,TI,TO,J,L],eE X j (aQ H s.heap.objs.size (.ap [N[i],O[i]])) b:=λb d=>⟨by rw[jz (di (se b d))];exact(hf b d).1,(hf b d).2⟩
  have I2:=WV (t':=s.toks) I1 (λb o d eo=>by
   have Pt:b≠z:=by simp_all
   refine(a.2 b Pt).trans ?_
   by_cases Pu:b=s.heap.objs.size
   .subst Pu;rw[dA _ aa]at eo
    simp_all
   .have Dy:s.heap.get? b=ae o:=by
     rcases IL eo with⟨q,_⟩|q
     all_goals (first|omega|(simp_all;done)|grind)
    exact hk b o Pt (λe=>d (by simp[e])) (λe=>d (by simp[e])) (λe=>d (by simp[e])) Dy) f1
  obtain⟨_,ti',⟨q1,q2,to'⟩,w1,w2⟩:=Z';exact⟨.ref s.heap.objs.size,_,I2,rfl,⟨_,_,_,(I.be.fresh (bz _)),hx,hy,rfl,rfl⟩,⟨Y,a.extBut _ _ D.TIz ti',⟨q1,q2,a.extBut _ _ D.TOz to'⟩,w1.extBut a.extBut D.i1z,w2.extBut a.extBut D.i2z⟩,λb d=>(f1 b d).1⟩
 done:=by
  intro X hP hw hK hc i j s σ H E I hf st hg;subst hP hw hK;obtain⟨⟨l,m⟩,g⟩:=hg;obtain⟨Q,p,p1,_⟩:=I.list l;obtain⟨U,r,p2,_⟩:=I.list m;have tR:=p.length;have Pd:=r.length;obtain⟨za,zb,B⟩:=st.to;refine wpAny_pyNext_zip_end (I.ok.hd hc) D st.hz st.ti B st.h1 st.h2 p1.isList p2.isList (g.imp (λg=>by simp;omega) λg=>by simp;omega) λh' hk=>⟨rfl,WV I (λb o d eo=>hk b o (λe=>d (by simp[e])) (λe=>d (by simp[e])) (λe=>d (by simp[e])) (λe=>d (by simp[e])) eo) hf⟩
 self:=λf f f f f st h=>wpAny_pyIter_zip st.hz h
section
def FR(c g:T3):Sl->aw (List D):=λa=>c a>>=λd=>g a>>=λe=>match d,e with
 |.al h,.al i=>.ok (yN h i)
 |_,_=>.am
def jjB(hg:Gl X "zip")(hm:X.mg "zip" =ah)(h1:DE X .s e1 f1)(h2:DE X .s e2 f2)(hs:bx [e1,e2] X.V=(ag,eval e1 X.V)::bx [e2] X.V:=by exact jq aa)(Q:bx [e2] X.V=(ag,eval e2 X.V)::bx [] X.V:=by exact jq aa)
  (U:(fh l (bx [e2] X.V)).any (·.1)=ag:=by exact jR aa):DI X (.Tuple elts n pZ) (.Call (.Name "zip" p) [e1,e2] [] l) (FR f1 f2):=by
 have Y:PE X e1 (tE X.K .s f1):=by nomatch h1
 have hE2:PE X e2 (tE X.K .s f2):=by nomatch h2
 nomatch (by
  rintro m s σ H R I ⟨G,H0,c,ds,k,g,q⟩;obtain⟨d1,c1,g⟩:=je g;obtain⟨d2,c2,g⟩:=je g;refine Call_ (ZD I hg hm jez (Bi (bE ((qc Y (qc hE2 zV Q) hs) l m s σ H (λvs r=>∃u v,vs=[u,v]/\aA H r/\aV X.K (Sf G c σ) r u d1/\aV X.K (Sf G c σ) r v d2) I ⟨G,H0,c,d1,k,c1,λu H1 a r1 f=>⟨G,H0,c,d2,k.aB a,c2,λv r s2 r2 f=>⟨u,v,rfl,a.trans s2,r1.aB s2,r2⟩⟩⟩) λus a Cn=>?_) hs U));obtain⟨vs,H1,w,r1,u,v,ev,sm,rp1,rp2⟩:=Cn;subst ev;obtain⟨u1,u2,rfl,ru1,ru2⟩:=Bk r1
  split at g
  .rename_i es1 es2;cases g;obtain⟨B,xs,rfl,h,w1,E⟩:=rp1.dg;obtain⟨J,ys,rfl,j,w2,L⟩:=rp2.dg;cases ru1;cases ru2;obtain⟨afQ,rv1,p1,_⟩:=w.list (.of h);obtain⟨afR,rv2,p2,_⟩:=w.list (.of j);have iB:B<a.heap.objs.size:=by obtain⟨o,_,ho,_⟩:=p1;exact b7 ho
   have lt2:J<a.heap.objs.size:=by obtain⟨o,_,ho,_⟩:=p2;exact b7 ho
   refine call_zip_2 p1.isList p2.isList λh' z1 z2 z3 z4 z5 f hk=>?_
   have Z:nv h' (a.heap.objs.size+4) (a.heap.objs.size+2) (a.heap.objs.size+3) a.heap.objs.size (a.heap.objs.size+1) B J 0 0 .none:=⟨z1,z2,⟨_,_,z3⟩,z4,z5⟩
   refine wpAny_pyIter_zip Z.hz ?_;refine⟨a.heap.objs.size+4,[a.heap.objs.size+4,a.heap.objs.size+2,a.heap.objs.size+3,a.heap.objs.size,a.heap.objs.size+1],_,_,H1,rfl,(w.kept hk),jbT xs ys (PyProof.Rows.zipApart_new iB lt2),Z,λb hb=>?_,?_⟩
   .have N:a.heap.objs.size<=b:=by grind
    exact w.fZ N (w.be.fresh N)
   .refine q _ H1 (λH=>H B=ae (.al xs)/\H J=ae (.al ys)) sm (λi H' pp=>?_) ⟨h,j⟩ λenv' Bt H' fr=>⟨fr.keep B _ h λow=>w1.1 ow,fr.keep J _ j λow=>w2.1 ow⟩
    have tR:=E.length;have Pd:=L.length;have hq:df X.K H' B xs/\df X.K H' J ys:=⟨.of pp.1,.of pp.2⟩
    rw[X4];refine⟨λhi=>⟨hq,by omega,by omega⟩,λd hd x r y=>?_,λhi=>⟨hq,by omega⟩⟩;obtain⟨p,x',y',hp,pO,hy',rfl,rfl⟩:=y;obtain⟨dx,dy,Lk,hdy,rfl⟩:=X5 _ _ _ _ hd;obtain⟨d',O,rd⟩:=E.get' pO;obtain⟨d'',e,Ij⟩:=L.get' hy';rw[Lk]at O;cases O;rw[hdy]at e;cases e;exact .inr ⟨p,_,_,hp,rfl,rfl,rfl,.cons (rd.aS λf z=>z.1) (.cons (Ij.aS λf z=>z.1) .nil)⟩
  .cases g)
end
def c7(c:a.kind=.function:=by rfl)(d:a.isCoroutine=ag:=by rfl)(e:a.isGenerator=ag:=by rfl)(g:N.Nodup:=by decide+kernel)(h:N.take (ao P)=P:=by rfl)(i:∀x∈P,a.names.lookup x=ae .local\/a.names.lookup x=ae .cell:=by decide+kernel)(j:∀y∈a.names,y.2≠ .free:=by decide+kernel):aC N P a:=⟨c,d,e,g,h,i,j⟩
def Dx(a:bK)(d:YE)(x:Str)(st:Stmt)(e:List Str):Prop:=∃f c,mE a x x st f c/\d x=ae (.ref f)/\Binds a c e []
def FS(e:bK)(p:ar)(x q:Str)(st:Stmt):Prop:=∃(g:aJ)(h i:Option ar)(c:Array (Option aJ))(kV d j a l:aJ),
 e.lookup p=ae ⟨g,h,.func (rK x q (Jg st) (zg st) (jj st) .none kV d j i a l),c⟩/\Bp e a q=af
def bL(a:bK)(x:Str)(st:Stmt):Prop:=∃p:ar,cH a ci x=ae (ae (.ref p))/\FS a p x x st/\lc a (.ref p)=af
def Dm(a:bK)(C:ar)(m q:Str)(st:Stmt)(d:List Str):Prop:=∃f c,mE a m q st f c/\Meth a C m f/\Binds a c d []
def iQ(a:bK)(C:ar)(m q:Str)(st:Stmt):Prop:=∃p:ar,ix a (.ref C) m=ae (ae (.ref p))/\EV a (.ref p)=af/\FS a p m q st/\lc a (.ref p)=af
abbrev Tk(x q:Str)(st:Stmt)(d:List aJ)(e:List Str):Prop:=∀(kV a g:aJ)(h:Option ar)(c i:aJ),bindArgs (rK x q (Jg st) (zg st) (jj st) .none kV a g h c i) ⟨d,[]⟩=pure (e.zip d)
section
variable{st:Stmt}
def FS.fn(l:FS h p x q st)(k:lc h (.ref p)=af)(m:∀g,ao g=ao i->Tk x q st g i):∃j,mE h x q st p j/\Binds h j i []:=by
 obtain⟨u,v,w,n,kV,o,y,r,ct,l,c⟩:=l;have F:=NH l c k;exact⟨_,F,F.binds λa b c d e f g hl=>m g hl a b c d e f⟩
def bL.dx(d:bL c x st)(i:c.In h)(G:h.Ns ci mg)(j:∀e,ao e=ao g->Tk x x st e g):Dx c mg x st g:=by
 obtain⟨p,a,l,k⟩:=d;obtain⟨m,F,B⟩:=l.fn k j;exact⟨p,m,F,lR i G a,B⟩
def iQ.dm(d:iQ g C m q st)(h:∀c,ao c=ao e->Tk m q st c e):Dm g C m q st e:=by
 obtain⟨p,a,i,l,k⟩:=d;obtain⟨j,F,B⟩:=l.fn k h;exact⟨p,j,F,⟨a,i,k⟩,B⟩
def XH{P:List aJ->Prop}(h:∀a c,ao c=n->P (a::c)):∀c,ao c=n+1->P c:=by
 intro c e
 cases c with
 |nil=>cases e
 |cons a r=>exact h a r (Nat.succ.inj e)
def FT{P:List aJ->Prop}(h:P []):∀a,ao a=0->P a:=by simp_all
def eq(h:∀a,Tk x q st [a] [p]:=by intro _ _ _ _ _ _ _;rfl):∀c,ao c=[p].length->Tk x q st c [p]:=XH λa=>FT (h a)
def nV(h:∀a b,Tk x q st [a,b] [p,c]:=by intro _ _ _ _ _ _ _ _;rfl):∀d,ao d=[p,c].length->Tk x q st d [p,c]:=XH λa=>XH λb=>FT (h a b)
def BQ(h:∀a b c,Tk x q st [a,b,c] [p,d,e]:=by intro _ _ _ _ _ _ _ _ _;rfl):∀g,ao g=[p,d,e].length->Tk x q st g [p,d,e]:=XH λa=>XH λb=>XH λc=>FT (h a b c)
def tk4(h:∀a b c d,Tk x q st [a,b,c,d] [p,e,g,i]:=by intro _ _ _ _ _ _ _ _ _ _;rfl):∀j,ao j=[p,e,g,i].length->Tk x q st j [p,e,g,i]:=XH λa=>XH λb=>XH λc=>XH λd=>FT (h a b c d)
end
section
def q9{st}(h)(d:Dx i j x st l)(S:aC N l (jj st))
  (n:∀(f)(c)(A)(a)(s)(H)(E),aX k (A.deeper (i5 x (jj st) s.heap.objs.size f c))->h9 (cA mD P w i j e N x (jj st) f c A a s H E).rG (zg st) g):
  Av P w i j e (k+1) x l h (bp h (ao N) g):=by
 obtain⟨f,o,F,m,B⟩:=d;exact jnf h F m S B (n f)
def Pw{st}(h)(d:Dx i j x st l)(S:aC N l (jj st))
  (n:∀(f)(c)(A)(a)(s)(H)(E),aX k (A.deeper (i5 x (jj st) s.heap.objs.size f c))->iO (cA (gQ P w) P w i j e N x (jj st) f c A a s H E) (zg st) g):
  mK P w i j e (k+1) x l h (gR h (ao N) g):=by
 obtain⟨f,o,F,m,B⟩:=d;exact jmk h F m S B (n f)
def Yv{st}(j)(d:Dm i C m q st l)(n:cH i ci c=ae (ae (.ref C))/\gI i C)(S:aC N l (jj st))
  (o:∀(f)(e)(A)(a)(s)(H)(E),aX k (A.deeper (i5 q (jj st) s.heap.objs.size f e))->h9 (cA mD P w i p h N q (jj st) f e A a s H E).rG (zg st) g):
  gz P w i p h (k+1) c m l j (bp j (ao N) g):=by
 obtain⟨f,r,F,m,B⟩:=d;exact jml j F n.1 n.2 m S B (o f)
def Ll{st}(a)(d:Dx e g x st h):Av P w e g c k x h a (λy=>.am):=by
 obtain⟨f,i,F,m,B⟩:=d;exact jjR a F m B
end
section
def vb(i)(c:X.N[i]?=ae x:=by rfl)(d:gj X.V.scope x:=by exact dC aa)(e:YG x:=by decide)(a:YF x:=by decide):DE X .b (.Name x g) (bR i):=DE.b (dv i c d e a)
def ib:DE X .b (.Constant (.int i) j a) (cI i):=NL
def cm:DE X .s (.Constant (.int i) j a) (cI i):=NL
def ob(c:c9 X (iG d) r)(e:fR X.K r g)(h:DE X .b a i)(j:DE X .b b l):DE X .b (.BinOp a d b m) (aq i l g):=vq c e h j
def gL(c:c9 X (iG d) r)(e:fR X.K r g)(h:DE X .b a i)(j:DE X .b b l):DE X .s (.BinOp a d b m) (aq i l g):=vq c e h j
def Qm(c:DE X .b a d)(e:DE X .b b g):DE X .b (.BinOp a .Mod b h) (aq d g bB):=vq yO yP c e
def FU(c:DE X .b a d)(e:DE X .b b g):DE X .b (.BinOp a .Pow b h) (aq d g eI):=vq uj ul c e
def FV(c:DE X .b a d)(e:DE X .b b g):DE X .b (.BinOp a .FloorDiv b h) (aq d g iP):=vq jfo jfw c e
def gi(a:Gl X x)(c:∃t,X.mg x=ae (.int i t))(d:YG x:=by decide):DE X .b (.Name x e) (cI i):=c.elim λy h=>NM a h d
def gis(a:Gl X x)(c:∃t,X.mg x=ae (.int i t))(d:YG x:=by decide):DE X .s (.Name x e) (cI i):=c.elim λy h=>NM a h d
def gst(a:Gl X x)(c:∃t,X.mg x=ae (.str y t))(d:y.length<=ba:=by decide)(e:YG x:=by decide):DE X .b (.Name x g) (cS y):=c.elim λz h=>jjC a h d e
end
def nS.bU(h:nS X l e f):DE X l e (ZS f):=by
 nomatch (PE.imp h<|by rintro i H Q ⟨G,c,a,d,k,g,q⟩;exact⟨G,c,a,k,.inl ⟨d,X9 g,q⟩⟩)
section
def YT(o:qh (env.set i .un) e a):qh env e a:=by
 obtain⟨j,d,c,g⟩:=o
 by_cases z:i=j
 .subst z;obtain⟨q,_⟩:=jy c;cases q
 .rw[ju z]at c;exact⟨j,d,c,g⟩
def aH.drop(k:aH m G p env c H):aH m G p (env.set i .un) c H:=by
 have w:∀a,Sf G env c a->Sf G (env.set i .un) c a:=λa n=>⟨λo=>n.1 (YT o),n.2⟩
 refine⟨by simp[k.len],k.aj,k.g0,λj d h=>?_,λj d h=>?_,λj l d e a h1 h2 g r=>?_⟩
 .have z:i≠j:=by rintro rfl;obtain⟨q,_⟩:=jy h;cases q
  rw[ju z]at h;obtain⟨v,h1,h2⟩:=k.ai j d h;exact⟨v,h1,h2.aS w⟩
 .have z:i≠j:=by rintro rfl;obtain⟨q,_⟩:=jy h;cases q
  rw[ju z]at h;obtain⟨a,h1,h2,g⟩:=k.aG j d h;exact⟨a,h1,h2,g.bq (λx x e x=>e) w λx e=>e⟩
 .have u:i≠j:=by rintro rfl;obtain⟨q,_⟩:=jy h1;cases q
  have y:i≠l:=by rintro rfl;obtain⟨q,_⟩:=jy h2;cases q
  rw[ju u]at h1;rw[ju y]at h2;exact k.mZ j l d e a h1 h2 g r
end
abbrev FJ:=Sl->aw (D×Sl)
end M
noncomputable section
namespace M
open PySem
namespace Tab
open SetTable (Probe runEnd leap bits)
noncomputable def pe(m:Nat)(p:Probe):Probe:=
 if p.more>0 then{p with j:=p.j+1,more:=p.more-1}else
 {p with j:=(leap m p.i p.perturb).1,more:=runEnd m (leap m p.i p.perturb).1-(leap m p.i p.perturb).1,i:=(leap m p.i p.perturb).1,perturb:=(leap m p.i p.perturb).2}
noncomputable def DQ(m:Nat)(i q:Nat):Probe:={j:=i,more:=runEnd m i-i,i:=i,perturb:=q,dummy:=ah}
noncomputable def gB(m:Nat)(h:Int):Nat->Probe
 |0=>DQ m (bits h%(m+1)) (bits h)
 |n+1=>pe m (gB m h n)
def at'(m:Nat)(h:Int)(n:Nat):Nat:=(gB m h n).j
noncomputable def lp(m:Nat)(h:Int):Nat->Nat×Nat
 |0=>(bits h%(m+1),bits h)
 |c+1=>leap m (lp m h c).1 (lp m h c).2
noncomputable def off(m:Nat)(h:Int):Nat->Nat
 |0=>0
 |c+1=>off m h c+(runEnd m (lp m h c).1-(lp m h c).1)+1
theorem kh(e:gB m h n=DQ m i q):∀k,k<=runEnd m i-i->gB m h (n+k)={j:=i+k,more:=runEnd m i-i-k,i:=i,perturb:=q,dummy:=ah}
 |0,_=>by rw[Nat.add_zero,e];rfl
 |k+1,a=>by
  have:=kh e k (AC bg);rw[<-Nat.add_assoc];show pe m (gB m h (n+k))=_;rw[this]
  delta pe
  rw[if_pos (show runEnd m i-i-k>0 by omega)];simp;omega
theorem Px(m)(h):∀c,gB m h (off m h c)=DQ m (lp m h c).1 (lp m h c).2
 |0=>rfl
 |c+1=>by
  have e:=kh (Px m h c) _ (bz _);show pe m (gB m h (off m h c+(runEnd m (lp m h c).1-(lp m h c).1)))=_;rw[e]
  delta pe
  rw[if_neg aE];rfl
def UO(a:k<=runEnd m (lp m h c).1-(lp m h c).1):at' m h (off m h c+k)=(lp m h c).1+k:=by
 delta at';rw[kh (Px m h c) k a]
def jkz(m i):runEnd m i-i<=9:=by delta runEnd;split<;>omega
theorem Py(m)(h):∀c,off m h c<=10*c
 |0=>bz _
 |c+1=>by
  have:=Py m h c;have:=jkz m (lp m h c).1;show off m h c+(runEnd m (lp m h c).1-(lp m h c).1)+1<=_;omega
theorem Pz(m)(h):∀c,(lp m h c).1<=m
 |0|c+1=>Lm (Nat.mod_lt _ (FW _))
def jjP(h):bits h<2^64:=by
 delta bits
 omega
theorem Ya(m)(h):∀c,(lp m h c).2=bits h/32^c
 |0=>by simp[lp]
 |c+1=>by
  show(lp m h c).2/32=_;rw[Ya m h c,Nat.div_div_eq_div_mul,Nat.pow_succ]
def jiF(m)(h)(a:13<=c):(lp m h c).2=0:=by
 rw[Ya];refine Nat.div_eq_of_lt (dZ (jjP h) ?_);exact cn (by decide:2^64<=32^13) (Nat.pow_le_pow_right au a)
noncomputable def fv(m:Nat):Nat->Nat->Nat
 |0,i=>i
 |d+1,i=>(fv m d i*5+1)%(m+1)
theorem PB(m)(h):∀d,(lp m h (13+d)).1=fv m d (lp m h 13).1
 |0=>rfl
 |d+1=>by
  show(leap m (lp m h (13+d)).1 (lp m h (13+d)).2).1=_;rw[jiF m h (qa _ _)];rw[PB m h d];rfl
def nW(m:Nat):Prop:=∀i j,i<=m->j<=m->∃d,d<=m/\fv m d i=j
theorem uR(m)(a i):∀b,fv m (a+b) i=fv m b (fv m a i)
 |0=>rfl
 |b+1=>by show(fv m (a+b) i*5+1)%(m+1)=_;rw[uR m a i b];rfl
def jl7(g:fv m (m+1) 0=0)(h:∀j,j<=m->∃d,d<=m/\fv m d 0=j):nW m:=λi j l n=>by
 obtain⟨a,p,c⟩:=h i l;obtain⟨b,q,e⟩:=h j n
 by_cases o:a<=b
 .exact⟨b-a,by omega,by rw[<-c,<-uR,show a+(b-a)=b by omega,e]⟩
 .refine⟨m+1-a+b,by omega,?_⟩;rw[<-c,<-uR,show a+(m+1-a+b)=m+1+b by omega,uR,g,e]
noncomputable def Ln(m:Nat):Nat->Nat->List Nat
 |0,_=>[]
 |n+1,i=>i::Ln m n ((i*5+1)%(m+1))
theorem PC(m)(i):∀d,fv m (d+1) i=fv m d ((i*5+1)%(m+1))
 |0=>rfl
 |d+1=>by show(fv m (d+1) i*5+1)%(m+1)=_;rw[PC m i d];rfl
theorem PD(m):∀n i j,j∈Ln m n i->∃d,d<n/\fv m d i=j
 |0,_,_,h=>by cases h
 |n+1,i,j,h=>by
  rcases cM.mp h with rfl|h
  .exact⟨0,FW _,rfl⟩
  .obtain⟨d,c,a⟩:=PD m n _ j h;exact⟨d+1,by omega,by rw[PC];exact a⟩
def vw(a:fv m (m+1) 0=0)(h:(gH (m+1)).all (λj=>(Ln m (m+1) 0).contains j)=af):nW m:=
 jl7 a λj g=>by
  have c:=nF.mp h j (iD.mpr ak);obtain⟨d,i,e⟩:=PD m _ _ _ (List.contains_iff_mem.mp c);exact⟨d,by omega,e⟩
def Lo:nW 7:=vw cu cu
def jna:nW 31:=vw cu cu
def jl8:nW 127:=vw cu cu
def Yf(C:nW m)(h)(a:j<=m):∃c,c<=m+13/\(lp m h c).1=j:=by
 obtain⟨d,g,e⟩:=C _ j (Pz m h 13) a;exact⟨13+d,by omega,by rw[PB,e]⟩
def jaU(C:nW m)(h)(a:j<=m):∃n,n<=10*(m+13)/\at' m h n=j:=by
 obtain⟨c,d,e⟩:=Yf C h a;refine⟨off m h c,cn (Py m h c) ak,?_⟩;have:=UO (m:=m) (h:=h) (c:=c) (fH _)
 simp_all
def Lp(h)(n):at' m h n<=m:=by
 suffices c:∀n,(gB m h n).j+(gB m h n).more<=m by exact cn (qa _ _) (c n)
 have a:∀i q,i<=m->(DQ m i q).j+(DQ m i q).more<=m:=λi q d=>by
  show i+(runEnd m i-i)<=m
  delta runEnd;split<;>omega
 intro n
 induction n with
 |zero=>exact a _ _ (Pz m h 0)
 |succ n e=>
  show(pe m (gB m h n)).j+(pe m (gB m h n)).more<=m
  delta pe
  split
  .show(gB m h n).j+1+((gB m h n).more-1)<=m;omega
  .exact a _ 0 (Lm (Nat.mod_lt _ (FW _)))
def Yn(C:nW m)(h)(c)[DecidablePred c]{j}(i:j<=m)(l: ¬c j):∃n,n<=10*(m+13)/\ ¬c (at' m h n)/\∀k,k<n->c (at' m h k):=by
 obtain⟨n,u,o⟩:=jaU C h i
 suffices p:∀N,¬c (at' m h N)->∃n,n<=N/\ ¬c (at' m h n)/\∀k,k<n->c (at' m h k) by
  obtain⟨e,a,b⟩:=p n (by rw[o];exact l);exact⟨e,by omega,b⟩
 intro N
 induction N using Nat.strongRecOn with
 |ind N q=>
  intro r
  by_cases d:∀k,k<N->c (at' m h k)
  .exact⟨N,bz _,r,d⟩
  .simp at d;obtain⟨k,g,d⟩:=d;obtain⟨e,a,b⟩:=q k g d;exact⟨e,by omega,b⟩
end Tab
namespace Tab
variable{L:Bool}
open SetTable (Probe runEnd leap bits below insertAt)
set_option tactic.hygienic true in
theorem KS(d)(j)(up:d.toList.Pairwise (· < ·)):∀(fuel lo c),c-lo<=fuel->lo<=c->c<=d.size->(∀k v,k<lo->d[k]?=ae v->v<j)->(∀k v,c<=k->d[k]?=ae v->j<=v)->
  (∀k v,k<FX d j fuel lo c->d[k]?=ae v->v<j)/\(∀k v,FX d j fuel lo c<=k->d[k]?=ae v->j<=v)/\FX d j fuel lo c<=d.size
 |0,lo,c,E,H,i,l,m=>by
  obtain rfl:lo=c:=by omega
  exact⟨l,m,i⟩
 |fuel+1,lo,c,E,H,i,l,m=>by
  unfold FX
  by_cases y:lo<c
  .rw[if_pos y];have h:(lo+c)/2<d.size:=by omega
   have I:d.getD ((lo+c)/2) j=d[(lo+c)/2]:=by rw[DR,lH h];rfl
   have mono:∀a b o vb,a<b->d[a]?=ae o->d[b]?=ae vb->o<vb:=λa b o vb p z B=>by
     rw[<-hH]at z B;obtain⟨q,r⟩:=iZ.mp z;obtain⟨u,w⟩:=iZ.mp B;rw[<-r,<-w];exact Dp.mp up a b q u p
   dsimp only;rw[I]
   by_cases n:d[(lo+c)/2]<j
   .rw[if_pos n];refine KS d j up fuel _ c ak ak i (λk v J e=>?_) m
    by_cases g:k=(lo+c)/2
    .subst g;rw[lH h]at e;cases e;exact n
    .exact sB (mono k _ v _ ak e (lH h)) n
   .rw[if_neg n];refine KS d j up fuel lo _ ak ak (Bf bg) l (λk v J e=>?_)
    by_cases g:k=(lo+c)/2
    .subst g;rw[lH h]at e;cases e;omega
    .have:=mono _ k _ v ak (lH h) e;omega
  .rw[if_neg y];obtain rfl:lo=c:=by omega
   exact⟨l,m,i⟩
def Yu(up:a.toList.Pairwise (· < ·))(j):(∀k v,k<ik a j->a[k]?=ae v->v<j)/\(∀k v,ik a j<=k->a[k]?=ae v->j<=v)/\ik a j<=a.size:=
 KS a j up a.size 0 a.size (Nat.sub_le _ _) (fH _) (bz _) (λk v h x=>absurd h (DU _)) λk v h e=>by
  simp_all
def Q2(up:a.toList.Pairwise (· < ·))(e:a[i]?=ae j):ik a j=i:=by
 obtain⟨g,l,n⟩:=Yu up j
 have m:ik a j<=i:=by
  refine CK λh=>?_
  exact absurd (g i j h e) (rC _)
 have c:=(DV.mp e).1;refine Nat.le_antisymm m (CK λh=>?_);have d:ik a j<a.size:=by omega
 have:=l _ _ (bz _) (lH d)
 have o:a[ik a j]<a[i]:=by
  have:=Dp.mp up (ik a j) i (by simpa using d) (by simpa using c) h;simpa using this
 rw[lH c]at e;cases e;omega
theorem PF{t:oO}(up:t.place.toList.Pairwise (· < ·))(dm:t.dummies= #[])(j:Nat):t.slot j=match t.place[ik t.place j]? with
  |some v=>if v=j then .live (ik t.place j)else .empty
  |none=>.empty:=by
 delta SetTable.slot
 have a:SetTable.has t.dummies j=ag:=by rw[dm];rfl
 dsimp only;rw[a]
 cases h:t.place[ik t.place j]? with
 |none|some _=>simp
def Wm{t:oO}(up:t.place.toList.Pairwise (· < ·))(dm:t.dummies= #[])(e:t.place[i]?=ae j):t.slot j=.live i:=by
 rw[PF up dm,Q2 up e,e];simp
set_option tactic.hygienic true in
theorem jaL{t:oO}(up:t.place.toList.Pairwise (· < ·))(dm:t.dummies= #[])(e:j∉t.place.toList):t.slot j=.empty:=by
 rw[PF up dm]
 split
 .rename_i v h;rw[if_neg];rintro rfl;rw[<-hH]at h;exact e (lf h)
 .rfl
structure Tb(L:Bool)(m:Nat)(t:oO)(es:Array (Int×aJ)):Prop where
 ld:t.led=L
 mask:t.mask=m
 dm:t.dummies= #[]
 sz:t.place.size=es.size
 up:t.place.toList.Pairwise (· < ·)
 le:∀j∈t.place.toList,j<=m
 road:∀(i j:Nat)(e:Int×aJ),t.place[i]?=ae j->es[i]?=ae e->∃n,at' m e.1 n=j/\∀k,k<n->at' m e.1 k∈t.place.toList
def Tb.fresh(led):Tb led 7 (.fresh 0 0 led) #[]:=⟨rfl,rfl,rfl,rfl,.nil,(λx h=>by cases h),(λi j e h=>by simp[SetTable.fresh]at h)⟩
section
def Tb.el(T:Tb L m t a){i:Nat}(h:t.place[i]?=ae j):∃e,a[i]?=ae e:=by
 have:=(DV.mp h).1;exact⟨_,lH (by rw[<-T.sz];exact this)⟩
def Tb.met(T:Tb L m t g){i:Nat}(d:g[i]?=ae e)(c:at' m e.1 N∉t.place.toList):∃n j,n<N/\at' m e.1 n=j/\t.place[i]?=ae j:=by
 have l:=(DV.mp d).1;have a:t.place[i]?=ae (t.place[i]'(by rw[T.sz];exact l)):=lH _;obtain⟨n,h1,h2⟩:=T.road i _ e a d;refine⟨n,_,Lq (CK λh=>c (h2 N h)) ?_,h1,a⟩;rintro rfl;rw[h1]at c;exact c (by rw[<-hH]at a;exact lf a)
def ZF(a)(x:g)(h:p<=a.size)(i):(insertAt a p x)[i]?=if i<p then a[i]? else if i=p then ae x else a[i-1]?:=by
 rw[<-hH,Lr];rw[show a[i]?=a.toList[i]? from hH.symm,show a[i-1]?=a.toList[i-1]? from hH.symm];have e:(a.toList.take p).length=p:=List.length_take_of_le h
 by_cases c:i<p
 .rw[if_pos c,mC (by rw[e];exact c),Hw c]
 .rw[if_neg c,mG (by rw[e];exact Nat.not_lt.mp c),e]
  by_cases d:i=p
  .subst d;simp
  .obtain⟨k,rfl⟩:=Nat.exists_eq_add_of_lt (Nat.lt_of_le_of_ne (Nat.not_lt.mp c) (Ne.symm d));rw[if_neg d,Nat.add_assoc,Nat.add_sub_cancel_left,FE,Ls];rfl
def Tb.put(T:Tb L m t r)(E:at' m h N=j)(O:j∉t.place.toList)(Q:∀k,k<N->at' m h k∈t.place.toList):Tb L m (t.put j).1 (insertAt r (t.put j).2 (h,x)):=by
 obtain⟨U,H,I⟩:=Yu T.up j
 have l:∀k,k∈(insertAt t.place (ik t.place j) j).toList↔k=j\/k∈t.place.toList:=λk=>by
   rw[Lr];have:t.place.toList=t.place.toList.take (ik t.place j)++t.place.toList.drop (ik t.place j):=(Lu _ _).symm
   constructor
   .intro z;rcases fj.mp z with z|z
    .exact .inr (DX z)
    .rcases cM.mp z with z|z
     .exact .inl z
     .exact .inr (DY z)
   .rintro(rfl|z)
    .exact mU _ g8
    .rw[this]at z;rcases fj.mp z with z|z
     .exact o8 _ z
     .exact mU _ (g9 _ z)
 have hd:(t.put j).1.dummies= #[]:=by
   show(if SetTable.has t.dummies j then _ else t.dummies)= #[];rw[T.dm];rfl
 refine⟨T.ld,T.mask,hd,?_,?_,?_,?_⟩
 .show(insertAt t.place (ik t.place j) j).size=(insertAt r (ik t.place j) (h,x)).size;have:=T.sz;rw[<-gW,<-gW,(Lw _ _ _).length_eq,(Lw _ _ _).length_eq];simp[this]
 .show(insertAt t.place (ik t.place j) j).toList.Pairwise (· < ·);rw[Lr,List.pairwise_append,AE];refine⟨T.up.sublist (List.take_sublist _ _),⟨λv y=>?_,T.up.sublist (List.drop_sublist _ _)⟩,λv y w hw=>?_⟩
  .obtain⟨q,g⟩:=sI.mp y;rw[Ls,hH]at g;have:=H _ _ (qa _ _) g;refine Lq this ?_;rintro rfl;exact O (by rw[<-hH]at g;exact lf g)
  .have p:v<j:=by
     obtain⟨q,g⟩:=sI.mp y;obtain⟨Y,q2⟩:=iZ.mp g;have J:q<ik t.place j:=by simp at Y;omega
     rw[Hw J,hH]at g;exact U q v J g
   rcases cM.mp hw with rfl|hw
   .exact p
   .obtain⟨q,g⟩:=sI.mp hw;rw[Ls,hH]at g;exact dZ p (H _ _ (qa _ _) g)
 .intro k hk;rcases(l k).mp hk with rfl|hk
  .rw[<-E];exact Lp h N
  .exact T.le k hk
 .intro i k e hk o;have B:ik t.place j<=r.size:=by rw[<-T.sz];exact I
  rw[show(t.put j).1.place=insertAt t.place (ik t.place j) j from aa,ZF _ _ I]at hk;rw[show(t.put j).2=ik t.place j from aa,ZF _ _ B]at o
  have old:∀u,t.place[u]?=ae k->r[u]?=ae e->∃n,at' m e.1 n=k/\∀q,q<n->at' m e.1 q∈(t.put j).1.place.toList:=λu a b=>by
    obtain⟨n,c,d⟩:=T.road u k e a b;exact⟨n,c,λq g=>(l _).mpr (.inr (d q g))⟩
  by_cases h1:i<ik t.place j
  .rw[if_pos h1]at hk o;exact old i hk o
  .rw[if_neg h1]at hk o
   by_cases h2:i=ik t.place j
   .rw[if_pos h2]at hk o;cases hk;cases o;exact⟨N,E,λq g=>(l _).mpr (.inr (Q q g))⟩
   .rw[if_neg h2]at hk o;exact old _ hk o
def PH:∀{l l':List Nat},l.Nodup->(∀x∈l,x∈l')->ao l<=ao l':=
 @(
  bv (@(λy y y=>fH _)) λa l d l' nd h=>by
  obtain⟨e,g⟩:=rJ.mp nd;have i:=d g λx c=>(List.mem_erase_of_ne (by rintro rfl;exact e c)).mpr (h x (g9 _ c))
  grind)
def Tb.free(T:Tb L m t c)(d:c.size<=m):∃j,j<=m/\j∉t.place.toList:=by
 refine Lx λh=>?_
 have a:∀j,j∈gH (m+1)->j∈t.place.toList:=by grind
 have h1:=PH (Do) a;rw[BR,gW,T.sz]at h1;omega
end
end Tab
namespace Tab
open SetTable (Probe runEnd leap bits below insertAt)
def qh(a:Array (Option Nat))(j:Nat):Prop:=(a.getD j (ae 0)).isNone=ag
instance(ow:Array (Option Nat)):DecidablePred (qh ow):=λj=>inferInstanceAs (Decidable (_=ag))
def jkA(m i):i<=runEnd m i:=by delta runEnd;split<;>omega
def Y7(m)(h)(c):off m h (c+1)=off m h c+(runEnd m (lp m h c).1-(lp m h c).1)+1:=rfl
def jfv(m)(h)(c:a<b):off m h a<off m h b:=by
 induction b with
 |zero=>omega
 |succ b d=>
  rw[Y7]
  grind
set_option tactic.hygienic true in
theorem jjd(n: ¬qh g (at' m h N))(o:∀k,k<N->qh g (at' m h k)):∀(a c),off m h c<=N->N<off m h (c+a)->
  FY m g a (lp m h c).1 (lp m h c).2=ae (at' m h N):=
 lT (λc q i=>by rw[Nat.add_zero]at i;omega) λa r c q i=>by
  have u:=jkA m (lp m h c).1;unfold FY
  by_cases p:N<off m h (c+1)
  .rw[Y7]at p
   have e:at' m h N=(lp m h c).1+(N-off m h c):=by
    rw[<-UO ak];congr 1;omega
   have j:(gH (runEnd m (lp m h c).1+1-(lp m h c).1)).find? (λk=>(g.getD ((lp m h c).1+k) (ae 0)).isNone)=ae (N-off m h c):=by
    rw[List.find?_range_eq_some];refine⟨?_,by rw[iD];omega,λk l=>?_⟩
    .rw[<-e];unfold qh at n;simpa using n
    .have d:=o (off m h c+k) ak;rw[UO ak]at d;unfold qh at d;simpa using d
   rw[j,e]
  .have j:(gH (runEnd m (lp m h c).1+1-(lp m h c).1)).find? (λk=>(g.getD ((lp m h c).1+k) (ae 0)).isNone)=ah:=by
    rw[List.find?_eq_none];intro k l;have l:=iD.mp l;rw[Y7]at p;have d:=o (off m h c+k) ak;rw[UO ak]at d;rw[Ly];exact d
   rw[j];exact r (c+1) ak (by rw[show c+1+a=c+(a+1) by omega];exact i)
def jjc(C:nW m)(h)(d:j<=m)(l: ¬qh a j):∃N,FY m a (sN m) (bits h%(m+1)) (bits h)=ae (at' m h N)/\ ¬qh a (at' m h N)/\∀k,k<N->qh a (at' m h k):=by
 obtain⟨c,n,o⟩:=Yf C h d;obtain⟨N,_,g,i⟩:=Yn C h (qh a) d l;refine⟨N,?_,g,i⟩
 have p:N<=off m h c:=by
  refine CK λz=>?_
  have e:=UO (m:=m) (h:=h) (c:=c) (fH _)
  grind
 have:=jfv m h (show c<0+sN m by delta sN;omega);exact jjd g i (sN m) 0 (fH _) (EY bg bg)
structure Ow(m:Nat)(hs:List Int)(ow:Array (Option Nat))(k:Nat):Prop where
 sz:ow.size=m+1
 aG:∀(j q:Nat),ow[j]?=ae (ae q)->q<k/\∃hq,hs[q]?=ae hq/\∃n,at' m hq n=j/\∀r,r<n->qh ow (at' m hq r)
 all:∀q,q<k->∃j:Nat,ow[j]?=ae (ae q)
 one:∀(j j' q:Nat),ow[j]?=ae (ae q)->ow[j']?=ae (ae q)->j=j'
def WA(c:j<a.size):qh a j↔ ∃q,a[j]?=ae (ae q):=by
 delta qh
 rw[DR,lH c];cases h:a[j]<;>simp[h]
def Ow.room(O:Ow m y d k)(hk:k<=m):∃j,j<=m/\ ¬qh d j:=by
 refine Lx λh=>?_
 have c:∀j,j<=m->∃q,d[j]?=ae (ae q):=λj g=>by
   have:qh d j:=Lx λz=>h ⟨j,g,z⟩
   exact(WA (by rw[O.sz];omega)).mp this
 have p:=PH (l:=(gH (m+1)).map λj=>((d[j]?).getD ah).getD 0) (l':=gH k) ?_ ?_
 .rw[cX,BR,BR]at p;omega
 .refine AF.mpr ((Do).imp_of_mem λ{a b} r u i e=>?_);obtain⟨v,n⟩:=c a (by have:=iD.mp r;omega);obtain⟨B,o⟩:=c b (by have:=iD.mp u;omega);simp only[n,o,Option.getD_some]at e;subst e;exact i (O.one a b v n o)
 .intro x w;obtain⟨j,g,rfl⟩:=dz.mp w;obtain⟨q,e⟩:=c j (by have:=iD.mp g;omega);simp only[e,Option.getD_some];exact iD.mpr (O.aG j q e).1
def Ow.step(O:Ow m o g k)(u:o[k]?=ae h)(v: ¬qh g (at' m h N))(w:∀r,r<N->qh g (at' m h r)):Ow m o (g.setIfInBounds (at' m h N) (ae k)) (k+1):=by
 have cr:at' m h N<g.size:=by rw[O.sz];have:=Lp (m:=m) h N;omega
 have get:∀j:Nat,(g.setIfInBounds (at' m h N) (ae k))[j]?=if at' m h N=j then ae (ae k)else g[j]?:=λj=>by
   rw[Array.getElem?_setIfInBounds]
   split
   .rename_i e;subst e;simp[cr]
   .rfl
 have mono:∀j,qh g j->qh (g.setIfInBounds (at' m h N) (ae k)) j:=λj l=>by
   delta qh at l ⊢
   rw[DR]at l ⊢;rw[get];split
   .rfl
   .exact l
 refine⟨by rw[Array.size_setIfInBounds];exact O.sz,λj q e=>?_,λq p=>?_,λj y q e i=>?_⟩
 .rw[get]at e
  split at e
  .rename_i z;cases e;exact⟨tq _,h,u,N,z,λr hr=>mono _ (w r hr)⟩
  .obtain⟨a,p,b,n,c,d⟩:=O.aG j q e;exact⟨by omega,p,b,n,c,λr hr=>mono _ (d r hr)⟩
 .by_cases z:q=k
  .subst z;exact⟨_,by rw[get,if_pos aa]⟩
  .obtain⟨j,e⟩:=O.all q ak;refine⟨j,?_⟩;rw[get,if_neg];exact e;intro B;subst B;exact v ((WA cr).mpr ⟨q,e⟩)
 .rw[get]at e i
  split at e
  .rename_i z
   split at i
   .rename_i E;rw[<-z,<-E]
   .cases e;have:=(O.aG _ _ i).1;omega
  .split at i
   .cases i;have:=(O.aG _ _ e).1;omega
   .exact O.one j y q e i
theorem jlq(C:nW m)(w:ao g<=m):∀(l done:List Int)(i:Array (Option Nat)),done++l=g->Ow m g i (ao done)->
  ∃d,l.foldl (λ(n:Option (Array (Option Nat)×Nat)) h=>do
   let (c,k)<-n
   let j<-FY m c (sN m) (bits h%(m+1)) (bits h)
   pure (c.setIfInBounds j (ae k),k+1)) (ae (i,ao done))=ae (d,ao g)/\Ow m g d (ao g):=
 bv (λdone i e O=>by simp_all) λh l o done i e O=>by
  have y:ao done<ao g:=by rw[<-e];simp
  obtain⟨j,p,q⟩:=O.room ak;obtain⟨N,z,r,u⟩:=jjc C h p q;have v:=O.step (by rw[<-e];simp) r u;obtain⟨d,a,b⟩:=o (done++[h]) _ aZ (by rw[lh];exact v)
  simp_all
def kX(C:nW m)(g:hs.size<=m):∃c,SetTable.layClean m hs=ae c/\Ow m hs.toList c hs.size:=by
 have d:Ow m hs.toList (Array.replicate (m+1) ah) 0:=⟨by simp,λj q e=>by rw[Array.getElem?_replicate]at e;split at e<;>simp at e,λq h=>absurd h (DU _),λj i q e=>by rw[Array.getElem?_replicate]at e;split at e<;>simp at e⟩
 obtain⟨c,a,b⟩:=jlq C aZ hs.toList [] _ aa d;refine⟨c,?_,by simpa using b⟩
 delta SetTable.layClean
 simp_all
def Ku{a c:Type}{f}{g:a->c}:∀{l:List a},(∀x∈l,f x=ae (g x))->l.filterMap f=l.map g:=
 @(bv (λz=>rfl) λx l d h=>by rw[EO,h x g8,fI,d λy e=>h y (g9 _ e)])
def jch(T:Tb L m t o)(hw:DZ w-1=z)(C:nW z)(hm:o.size<=z):
   ∃Y order,t.relaid (o.map (·.1)) w=ae (Y,order)/\Tb L z Y (order.filterMap (o[·]?))/\(order.filterMap (o[·]?)).toList.Perm o.toList:=by
 obtain⟨ow,h1,O⟩:=kX C (hs:=o.map (·.1)) (by simpa using hm);rw[Array.size_map]at O
 delta SetTable.relaid SetTable.laid
 rw[hw,h1];generalize B:(gH (z+1)).filterMap (λj=>(ow.getD j ah).map (j, ·))=l
 have mem:∀j q,(j,q)∈l↔ow[j]?=ae (ae q):=λj q=>by
   rw[<-B,Bj]
   constructor
   .rintro⟨a,I,e⟩;rw[CH]at e;obtain⟨b,e1,e2⟩:=e;cases e2;have I:=iD.mp I;rw[DR,lH (by rw[O.sz];exact I)]at e1;rw[lH (by rw[O.sz];exact I)];simpa using e1
   .intro e;have v:=(DV.mp e).1;rw[O.sz]at v;exact⟨j,iD.mpr v,by rw[DR,e];rfl⟩
 have up:l.Pairwise (λa b=>a.1<b.1):=by
   rw[<-B];refine List.pairwise_filterMap.mpr ((List.pairwise_lt_range).imp λ{a b} J x hx y hy=>?_);rw[CH]at hx hy;obtain⟨_,_,rfl⟩:=hx;obtain⟨_,_,rfl⟩:=hy;exact J
 have cr:∀p∈l,p.2<o.size:=λp r=>(O.aG p.1 p.2 ((mem _ _).mp r)).1
 have N:(l.map (·.2)).Perm (gH o.size):=by
   refine(List.perm_ext_iff_of_nodup ?_ Do).mpr λq=>?_
   .refine AF.mpr (up.imp_of_mem λ{a b} I hb J e=>?_);have:=O.one a.1 b.1 a.2 ((mem _ _).mp I) (by rw[e];exact(mem _ _).mp hb);omega
   .rw[iD]
    constructor
    .intro h;obtain⟨p,r,rfl⟩:=dz.mp h;exact cr p r
    .intro h;obtain⟨j,e⟩:=O.all q h;exact dz.mpr ⟨(j,q),(mem _ _).mpr e,rfl⟩
 have E:((l.map (·.2)).toArray.filterMap (o[·]?)).toList=(l.map (·.2)).filterMap (o[·]?):=by simp
 have H:((l.map (·.2)).toArray.filterMap (o[·]?)).toList.Perm o.toList:=by
   rw[E];have:=N.filterMap (o[·]?)
   rwa [filterMap_getElem?_range]at this
 have u:∃g:Nat->Int×aJ,(∀q,q<o.size->o[q]?=ae (g q))/\(l.map (·.2)).filterMap (o[·]?)=(l.map (·.2)).map g:=by
   refine⟨λq=>(o[q]?).getD (0,.none),λq Q=>by show o[q]?=ae ((o[q]?).getD (0,.none));rw[lH Q];rfl,Ku λq Q=>?_⟩;obtain⟨p,r,rfl⟩:=dz.mp Q;show o[p.2]?=ae ((o[p.2]?).getD (0,.none));rw[lH (cr p r)];rfl
 obtain⟨g,hg,u⟩:=u;refine⟨{mask:=z,place:=(l.map (·.1)).toArray,dummies:= #[],finger:=t.finger,led:=t.led,moves:=t.movedTo z,plain:=t.plain},(l.map (·.2)).toArray,by rw[<-B];rfl,⟨T.ld,rfl,rfl,?_,?_,?_,?_⟩,H⟩
 .show(l.map (·.1)).toArray.size=_;rw[<-gW (xs:=Array.filterMap _ _),E,u];simp
 .show((l.map (·.1)).toArray).toList.Pairwise (· < ·);exact AF.mpr up
 .intro j v;obtain⟨p,r,rfl⟩:=dz.mp (v);have:=(DV.mp ((mem p.1 p.2).mp r)).1;rw[O.sz]at this;omega
 .intro i j e v U;have v:(l.map (·.1))[i]?=ae j:=by rw[<-hH]at v;exact v
  rw[<-hH,E,u,dF,hU]at U;rw[hU]at v
  cases r:l[i]? with
  |none=>rw[r]at v;cases v
  |some p=>
    rw[r]at v U;cases v;cases U;have r:=lf r;obtain⟨a,Q,b,n,c,d⟩:=O.aG p.1 p.2 ((mem _ _).mp r)
    have e1:Q=(g p.2).1:=by
      rw[hH,Array.getElem?_map,hg _ (cr p r)]at b;simpa using b.symm
    subst e1;refine⟨n,c,λk hk=>?_⟩;have h3:=d k hk;obtain⟨q,h4⟩:=(WA (by rw[O.sz];have:=Lp (m:=z) (g p.2).1 k;omega)).mp h3;exact dz.mpr ⟨_,(mem _ _).mpr h4,rfl⟩
end Tab
namespace Tab
variable{L:Bool}
open SetTable (Probe runEnd leap bits below insertAt)
theorem Vs(m)(h):∀n,(gB m h n).dummy=ah
 |0=>rfl
 |n+1=>by
  show(pe m (gB m h n)).dummy=ah
  delta pe;split<;>exact Vs m h n
def jmn(t:oO)(p):t.advance p=pe t.mask p:=by delta SetTable.advance pe;split<;>rfl
def jeS(t:oO)(h):t.probeStart h=gB t.mask h 0:=rfl
section
variable{m:Nat}{t:oO}
theorem v3(T:Tb L m t l)(I:∀(i)(e),l[i]?=ae e->hashAt i=e.1)(h)(J:at' m h N∉t.place.toList)(O:∀k,k<N->at' m h k∈t.place.toList):
  ∀(F n),N-n<F->n<=N->
    (tU t hashAt h F (gB m h n)=ae (.empty (at' m h N) ah)/\∀q (i:Nat) (e),n<=q->q<N->t.place[i]?=ae (at' m h q)->l[i]?=ae e->e.1≠h)\/
    (∃(q i:Nat)(e:Int×aJ),n<=q/\q<N/\t.place[i]?=ae (at' m h q)/\l[i]?=ae e/\e.1=h/\tU t hashAt h F (gB m h n)=ae (.candidate (at' m h q) i (gB m h (q+1)))/\∀r (i:Nat) (e),n<=r->r<q->t.place[i]?=ae (at' m h r)->l[i]?=ae e->e.1≠h)
 |0,n,Q,_=>absurd Q (DU _)
 |F+1,n,Q,Y=>by
  by_cases U:n=N
  .subst U;refine .inl ⟨?_,λq i e a b=>by omega⟩;unfold tU;rw[show(gB m h n).j=at' m h n from aa,jaL T.up T.dm J];rw[Vs]
  .obtain⟨i,o⟩:=sI.mp (O n ak);rw[hH]at o;obtain⟨e,z⟩:=T.el o
   have one:∀(p:Nat)(j:Int×aJ),t.place[p]?=ae (at' m h n)->l[p]?=ae j->j=e:=λp j a b=>by
     have:=Q2 T.up o;have y:=Q2 T.up a;rw[this]at y;subst y;rw[z]at b;cases b;rfl
   have B:tU t hashAt h (F+1) (gB m h n)=if hashAt i==h then ae (.candidate (at' m h n) i (gB m h (n+1)))else tU t hashAt h F (gB m h (n+1)):=by
     rw[tU];rw[show(gB m h n).j=at' m h n from aa,Wm T.up T.dm o];simp only[jmn,T.mask];rfl
   rw[B,I i e z]
   by_cases u:e.1=h
   .refine .inr ⟨n,i,e,bz _,by omega,o,z,u,by rw[u];simp,λr i e a b=>by omega⟩
   .rw[show(e.1==h)=ag by simpa using u];simp only[FN,if_false];rcases v3 T I h J O F (n+1) ak ak with⟨a,b⟩|⟨q,p,j,a,b,c,d,f,g,k⟩
    .refine .inl ⟨a,λq i j y E v w=>?_⟩
     by_cases H:q=n
     .subst H;rw[one i j v w];exact u
     .exact b q i j ak E v w
    .refine .inr ⟨q,p,j,by omega,b,c,d,f,g,λr i j y E v w=>?_⟩
     by_cases H:r=n
     .subst H;rw[one i j v w];exact u
     .exact k r i j ak E v w
end
section
variable{Y:fW}{w:World}{O:Type}[DecidableEq O]{U:KeyKind Y w O}{A:hJ}{E:Wo}{s:bT}
def KI(n)(h:AQ v=af):D0 n v=pure ag:=by
 cases v with
 |ref a=>simp[AQ]at h
 |_=>first|rfl|simp[D0]|(delta D0;rfl)
def QY(i:mL U s.heap y a)(h:Q ag s):wpAny (aN Y w) A (D0 8 (.ref a)) Q E s:=by
 have l:=i.typeIs;obtain⟨o,d,n,m,_,p,q⟩:=i;unfold D0;refine ax (xi l ?_);refine ax (aP ?_);refine ax (vr m p ?_);refine ax ?_;rw[<-EK];refine td _ (λrest r e=>r.1=ah/\e=s/\∀v∈rest,AQ v=af) _ ?_ ?_ _ _ ⟨rfl,rfl,q.byValue⟩
 .rintro v rest r e ⟨j,rfl,c⟩;rw[KI _ (c v g8)];refine ax (aP ?_);exact aP ⟨rfl,rfl,λu g=>c u (g9 _ g)⟩
 .rintro⟨z,B⟩ e ⟨j,rfl,_⟩;subst j;exact aP h
def kZ(n)(h:AQ v=af):∃b,hashByValue n v=pure b:=by
 cases v with
 |ref a=>simp[AQ]at h
 |_=>cases n<;>first|exact⟨_,rfl⟩|(delta hashByValue;exact⟨_,rfl⟩)
def k9(i:mL U s.heap z a)(h:∀b,Q b s):wpAny (aN Y w) A (hashByValue 8 (.ref a)) Q E s:=by
 have j:=i.typeIs;obtain⟨o,d,n,l,_,m,p⟩:=i;refine ax (Bb j F.slot_tuple_hash.lookup ?_);refine ax (vr l m ?_);refine ax ?_;rw[<-EK];refine td _ (λrest r e=>e=s/\∀v∈rest,AQ v=af) _ ?_ ?_ _ _ ⟨rfl,p.byValue⟩
 .rintro v rest r e ⟨rfl,c⟩;obtain⟨b,q⟩:=kZ 7 (c v g8);rw[q];refine ax (aP ?_)
  cases b with
  |true=>
   exact aP ⟨rfl,λu g=>c u (g9 _ g)⟩
  |false=>
   exact aP (aP (h _))
 .rintro⟨y,B⟩ e ⟨rfl,_⟩
  cases y with
  |none|some _=>exact aP (h _)
def jaC(g:mL U s.heap n a)(l)(m:∀y∈l,∃b k,y=.ref b/\mL U s.heap k b)(h:Q ag s):wpAny (aN Y w) A (searchCouldBeSeen (.ref a) l) Q E s:=by
 refine ax ?_;refine td _ (λrest r e=>r.1=ah/\e=s/\∀y∈rest,∃b k,y=.ref b/\mL U s.heap k b) _ ?_ ?_ _ _ ⟨rfl,rfl,m⟩
 .rintro y rest r e ⟨i,rfl,c⟩;obtain⟨b,k,rfl,j⟩:=c y g8;have go:∀u d,_:=λu d=>c u (g9 _ d)
  dsimp only
  split
  .exact aP ⟨rfl,rfl,go⟩
  .refine ax (wpAny_eqIsQuiet_tuple g ?_);refine ax (wpAny_eqIsQuiet_tuple j ?_);refine ax (QY g ?_);refine ax (QY j ?_);exact aP ⟨rfl,rfl,go⟩
 .rintro⟨o,p⟩ e ⟨i,rfl,_⟩;subst i;exact aP h
end
end Tab
namespace Tab
variable{L:Bool}
open SetTable (Probe runEnd leap bits below insertAt)
def Sz(m n:Nat):Prop:=(m=7/\n<=4)\/(m=31/\n<=18)\/(m=127/\n<=76)
def Sz.PJ(S:Sz m n):nW m:=by
 rcases S with⟨rfl,_⟩|⟨rfl,_⟩|⟨rfl,_⟩
 .exact Lo
 .exact jna
 .exact jl8
def Sz.le(S:Sz m n):n<=m/\m<=127/\m%2=1/\n<=76:=by rcases S with⟨rfl,h⟩|⟨rfl,h⟩|⟨rfl,h⟩<;>exact⟨cn h au,by decide,by decide,cn h au⟩
def Tb.fits(T:Tb L m t a)(h:a.size<=m):t.fits a.size=af:=by
 delta SetTable.fits SetTable.fill
 rw[T.dm,T.sz,T.mask];simpa using h
section
variable{U:fW}{w:World}{O:Type}[DecidableEq O]{Y:KeyKind U w O}{A:hJ}{E:Wo}{s:bT}
set_option tactic.hygienic true in
theorem jb9(hu:A.units<cLine){B:List (List O×ar)}(ho:s.heap.get? a=ae o)(hd:o.data=.set r ep t)(T:Tb L m t r)(S:Sz m r.size)
  (he:r.toList=B.map λp=>(gC Y p.1,cg p.2)) (hk:∀p∈B,mL Y s.heap p.1 p.2) (hx:mL Y s.heap c xa)
  (h1:c∈B.map (·.1)->Q (.there ah) s) (hN:at' m (gC Y c) N∉t.place.toList) (hb:∀k,k<N->at' m (gC Y c) k∈t.place.toList) (FZ:N<=10*(m+13)) (h2:c∉B.map (·.1)->Q (.free (at' m (gC Y c) N) ag) s):
  ∀(F n)(g),N-n<F->n<=N->g.getD (t.probeStart (gC Y c))=gB m (gC Y c) n->
    (∀q (i:Nat) (p),q<n->t.place[i]?=ae (at' m (gC Y c) q)->B[i]?=ae p->p.1≠c)->
    wpAny (aN U w) A (setSearchFrom a (.ref xa) (gC Y c) af F g) Q E s:=by
 have hf:=T.fits S.le.1
 have get:∀(i:Nat)(e:Int×aJ),r[i]?=ae e->∃p,B[i]?=ae p/\e=(gC Y p.1,cg p.2):=λi e h=>by
  rw[<-hH,he,hU]at h
  cases u:B[i]? with
  |none=>rw[u]at h;cases h
  |some p=>rw[u]at h;cases h;exact⟨p,rfl,rfl⟩
 intro F
 induction F with
 |zero=>intro n _ z;exact absurd z (DU _)
 |succ F ih=>
  intro n g hF hn BL l;refine ax (AO ho hd hf ?_);dsimp only;have hgw:t.gaveWay=ag:=by unfold SetTable.gaveWay;rw[T.mask];have:=S.le.2.2.1;simp[this]
  rw[hgw];simp;rw[BL];unfold SetTable.probe;generalize e0:tU t _ (gC Y c) (10*sN t.mask) (gB m (gC Y c) n)=R;have e0:tU t (λi=>(r[i]?.map (·.1)).getD 0) (gC Y c) (10*sN t.mask) (gB m (gC Y c) n)=R:=e0;rcases v3 T (hashAt:=λi=>(r[i]?.map (·.1)).getD 0) (λi e h=>by simp[h]) _ hN hb (10*sN t.mask) n (by rw[T.mask];unfold sN;omega) hn with⟨e1,e2⟩|⟨q,i,e,a1,a2,a3,a4,a5,a6,a7⟩
  .rw[e0]at e1;subst e1;dsimp only;refine aP (h2 λz=>?_);obtain⟨p,u,e3⟩:=dz.mp z;obtain⟨i,hi⟩:=sI.mp u;have v:r[i]?=ae (gC Y p.1,cg p.2):=by rw[<-hH,he,hU,hi];rfl
   subst e3;obtain⟨n',j,b1,b2,b3⟩:=T.met v hN;subst b2
   by_cases hq:n'<n
   .exact l n' i p hq b3 hi aa
   .exact e2 n' i _ ak b1 b3 v aa
  .rw[e0]at a6;subst a6;dsimp only;obtain⟨p,u,rfl⟩:=get i e a4;have PK:=hk p (lf u);have PL:t.sameMemory t.moves t.mask=ae af:=by unfold SetTable.sameMemory;simp
   have next:p.1≠c->∀J (H:Nat) (I:List O×ar),J<q+1->t.place[H]?=ae (at' m (gC Y c) J)->B[H]?=ae I->I.1≠c:=λtV J H I g1 g2 g3=>by
     by_cases hq:J<n
     .exact l J H I hq g2 g3
     .by_cases hq2:J=q
      .subst hq2;have:=Q2 T.up a3;have h4:=Q2 T.up g2;rw[this]at h4;subst h4;rw[u]at g3;cases g3;exact tV
      .have v:r[H]?=ae (gC Y I.1,cg I.2):=by rw[<-hH,he,hU,g3];rfl
       rintro rfl;exact a7 J H _ ak ak g2 v aa
   split
   .refine ax (jaC hx _ (λy hy=>?_) ?_)
    .obtain⟨e',AH,rfl⟩:=dz.mp hy;have AH:e'∈r/\e'.1=gC Y c:=by simpa using AH
     have:=Hi.mpr AH.1;obtain⟨H,C4⟩:=sI.mp this;rw[hH]at C4;obtain⟨I,Ps,rfl⟩:=get H e' C4;exact⟨_,_,rfl,hk I (lf Ps)⟩
    simp;rw[a4];dsimp only;refine ax (gk (wpAny_eqBool_tuple hu PK hx ?_));refine ax (AO ho hd hf ?_)
    by_cases d:p.1=c
    .rw[decide_eq_true d];simp;exact aP (h1 (dz.mpr ⟨p,lf u,d⟩))
    .rw[decide_eq_false d];simp;rw[PL];simp;rw[Wm T.up T.dm a3];dsimp only;rw[a4];dsimp only;refine ax (wpAny_isSame_ref_self ?_);simp;exact ih (q+1) _ ak ak aa (next d)
   .rw[a4];dsimp only;refine ax (gk (wpAny_eqBool_tuple hu PK hx ?_));refine ax (AO ho hd hf ?_)
    by_cases d:p.1=c
    .rw[decide_eq_true d];simp;exact aP (h1 (dz.mpr ⟨p,lf u,d⟩))
    .rw[decide_eq_false d];simp;rw[PL];simp;rw[Wm T.up T.dm a3];dsimp only;rw[a4];dsimp only;refine ax (wpAny_isSame_ref_self ?_);simp;exact ih (q+1) _ ak ak aa (next d)
end
end Tab
namespace Tab
variable{L:Bool}
open SetTable (Probe runEnd leap bits below insertAt)
def Tb.led(T:Tb L m t a)(b):Tb L m {t with plain:=b} a:=⟨T.ld,T.mask,T.dm,T.sz,T.up,T.le,T.road⟩
def jfd{j n:Type}{f:j->n}{l m}(p:l.Perm m):∀c,m=c.map f->∃k:List j,l=k.map f/\k.Perm c:=by
 induction p with
 |nil=>intro c e;exact⟨c,e,.refl _⟩
 |cons x p o=>
  intro c e
  cases c with
  |nil=>cases e
  |cons a c=>
   simp at e;obtain⟨k,d,g⟩:=o c e.2;exact⟨a::k,by rw[d,e.1];rfl,g.cons a⟩
 |swap x y l=>
  intro c e
  cases c with
  |nil=>cases e
  |cons a c=>
   cases c with
   |nil=>cases e
   |cons b c=>
    simp at e;obtain⟨rfl,rfl,rfl⟩:=e;exact⟨b::a::c,rfl,.swap a b c⟩
 |trans p q h i=>
  intro c e;obtain⟨r,d,g⟩:=i c e;obtain⟨u,v,w⟩:=h r d;exact⟨u,v,w.trans g⟩
section
variable{U:fW}{w:World}{O:Type}[DecidableEq O](Y:KeyKind U w O)
noncomputable def ent(p:List O×ar):Int×aJ:=(gC Y p.1,cg p.2)
def ge(G:Wp)(h:Heap)(a:ar)(e:List (List O)):Prop:=∃(o:Obj)(c:Array (Int×aJ))(g:Nat)(t:oO)(m:Nat)(d:List (List O×ar))(L:Bool),h.get? a=ae o/\o.ExactSet/\o.data=.set c g t/\Tb L m t c/\Sz m c.size/\c.toList=d.map (ent Y)/\(∀p∈d,mL Y h p.1 p.2/\G p.2)/\(d.map (·.1)).Perm e/\e.Nodup/\L=!w.params.followText "set-order"
variable{Y}{G:Wp}{A:hJ}{E:Wo}{s:bT}
def VS(x:mL Y h j a)(u:h.get? d=ae o)(v:o.data=.set y z t)(l:iw d h m):mL Y m j a:=by
 obtain⟨p,c,n,e,q,g,r⟩:=x;have i:a≠d:=by grind
 exact⟨p,c,n,(l.2 a i).trans e,q,g,r⟩
def Vf{h:Heap}(g:h.get? a=ae o)(e:o.data=.set j i t)(c)(d):
  (h.update a (D1 c d)).get? a=ae {o with data:=.set c (i+1) d}:=by
 have:=sy (D1 c d) g (by rw[putSet_of c d e];rfl);rw[putSet_of c d e]at this;exact this
def je2(n:s.heap.get? a=ae o)(p:o.data=.set d y t)(T:Tb L m t d)(r:d.size<=m)(hw:DZ c-1=g)(u:DZ c<=ba)(C:nW g)(i:d.size<=g)(z:d.size<=ba)
  (h:∀e j,Tb L g j e->e.toList.Perm d.toList->Q () {s with heap:=s.heap.update a (D1 e j)}):wpAny (aN U w) A (setRelay a c) Q E s:=by
 obtain⟨j,order,e1,v,q⟩:=jch T hw C i;have l:(order.filterMap (d[·]?)).size=d.size:=by rw[<-gW,q.length_eq,gW]
 refine ax (AO n p (T.fits r) ?_);dsimp only;rw[if_neg (Nat.not_lt.mpr u)];rw[e1];refine ax ?_;show wpAny _ _ (if(order.filterMap (d[·]?)).size !=d.size then _ else _) _ _ _;rw[l];simp;refine aP ?_;exact wpAny_storeSet_of n p (h _ _ v q) aZ
def jj7(hu:A.units<cLine){a}{ks}(hS:ge Y G s.heap a ks)(hx:mL Y s.heap u v)(hg:G v)(hn:ao ks<76)
   (h:∀H b,iw a s.heap H->ge Y G H a (if u∈ks then ks else ks++[u])->Q b {s with heap:=H}):wpAny (aN U w) A (setAddHashed a (.ref v) (gC Y u)) Q E s:=by
 obtain⟨o,r,ep,t,m,kp,L,J,hex,hd,T,S,he,hk,pm,nd,ld⟩:=hS;have hf:=T.fits S.le.1;have hlen:r.size=ao ks:=by rw[<-gW,he,cX,<-pm.length_eq,cX]
 refine gk (ax (AO J hd hf ?_));dsimp only;have Pu:byScan (.ref v) r=ag:=rfl;obtain⟨j0,hj0,hf0⟩:=T.free S.le.1;obtain⟨N,FZ,hN,hb⟩:=Yn S.PJ (gC Y u) (λj=>j∈t.place.toList) hj0 hf0;refine ax (jb9 hu J hd T S he (λp hp=>(hk p hp).1) hx (λDP=>?_) hN hb FZ (λLz=>?_) 100000 0 ah (by have:=S.le;omega) (fH _) (by rw[HC,jeS,T.mask]) (λq i p hq=>absurd hq (DU _)))
 .dsimp only;have D2:=pm.mem_iff.mp DP;have:=h s.heap ag (Heap.SameBut.refl a s.heap) (by rw[if_pos D2];exact⟨o,r,ep,t,m,kp,L,J,hex,hd,T,S,he,hk,pm,nd,ld⟩);exact aP this
 .dsimp only;have D2:u∉ks:=λz=>Lz (pm.mem_iff.mpr z)
  refine ax (AO J hd hf ?_);have B:=T.put (x:=.ref v) aa hN hb;generalize PM:t.put (at' m (gC Y u) N)=tp at B ⊢;obtain⟨t1,p1⟩:=tp;generalize LA:insertAt r p1 (gC Y u,cg v)=d at B ⊢
  have l:d.toList.Perm (r.toList++[(gC Y u,cg v)]):=by
    rw[<-LA];have:=Lw r p1 (gC Y u,cg v)
    rwa [K6]at this
  have D3:d.size=r.size+1:=by rw[<-gW,l.length_eq,lh,gW];rfl
  have hle:d.size<=m:=by
    rcases S with⟨rfl,h⟩|⟨rfl,h⟩|⟨rfl,h⟩<;>omega
  have y:d.size<=ba:=by rw[my];have:=S.le;omega
  have keys:∀(c:Array (Int×aJ)),c.toList.Perm (r.toList++[(gC Y u,cg v)])->∃I:List (List O×ar),c.toList=I.map (ent Y)/\I.Perm (kp++[(u,v)]):=λc p2=>by
    rw[he,show[(gC Y u,cg v)]=[(u,v)].map (ent Y) from aa,<-lP]at p2;exact jfd p2 _ aa
  have fin:∀(H:Heap) c t2 (m2 LB),iw a s.heap H->H.get? a=ae {o with data:=.set c LB t2}->Tb L m2 t2 c->Sz m2 c.size->c.toList.Perm (r.toList++[(gC Y u,cg v)])->Q af {s with heap:=H}:=λH c t2 m2 LB sb g T2 S2 p2=>by
    obtain⟨I,e2,q2⟩:=keys c p2;refine h H af sb ?_;refine⟨_,c,LB,t2,m2,I,L,g,hex,rfl,T2,S2,e2,λp hp=>?_,?_,?_,ld⟩
    .rcases fj.mp (q2.mem_iff.mp hp)with z|z
     .exact⟨VS (hk p z).1 J hd sb,(hk p z).2⟩
     .rw[lQ]at z;subst z;exact⟨VS hx J hd sb,hg⟩
    all_goals grind
  have tail:∀b:Bool,wpAny (aN U w) A (do
      storeSet a d {t1 with plain:=b}
      if(
        !false&&({t1 with plain:=b}:oO).tooFull)=af then do
        setRelay a (F0 (r.size+1))
        pure af
        else pure af) Q E s:=λb=>by
    refine ax (wpAny_storeSet_of J hd ?_ y);have g1:=Vf J hd d {t1 with plain:=b};have PN:=rT s.heap a (D1 d {t1 with plain:=b})
    by_cases e:({t1 with plain:=b}:oO).tooFull=af
    .rw[e]
     have n:∀m',DZ (F0 (r.size+1))-1=m'->DZ (F0 (r.size+1))<=128->Sz m' d.size->wpAny (aN U w) A (do
        setRelay a (F0 (r.size+1))
        pure af) Q E {s with heap:=s.heap.update a (D1 d {t1 with plain:=b})}:=λm' hw hz S'=>by
       refine ax (je2 g1 aa (B.led b) hle hw (by rw[my];omega) S'.PJ S'.le.1 y λc t2 T2 p2=>?_);refine aP ?_;have D4:c.size=d.size:=by rw[<-gW,p2.length_eq,gW]
       exact fin _ c t2 m' _ (PN.trans (rT _ a _)) (Vf g1 aa c t2) T2 (by rw[D4];exact S') (p2.trans l)
     have hq:m*3<=(r.size+1)*5:=by
       unfold SetTable.tooFull SetTable.fill at e;have h1:=(B.led b).dm;have h2:=(B.led b).sz;have h3:=(B.led b).mask
       simp_all
     rcases S with⟨rfl,h4⟩|⟨rfl,h4⟩|⟨rfl,h4⟩
     .have h5:r.size=4:=by omega
      rw[D3,h5]at n;rw[h5];exact n 31 cu cu (.inr (.inl ⟨rfl,by omega⟩))
     .have h5:r.size=18:=by omega
      rw[D3,h5]at n;rw[h5];exact n 127 cu cu (.inr (.inr ⟨rfl,by omega⟩))
     .omega
    .rw[Ly]at e;rw[e];refine aP (fin _ d _ m _ PN g1 (B.led b) ?_ l)
     have hq: ¬m*3<=(r.size+1)*5:=by
       unfold SetTable.tooFull SetTable.fill at e;have h1:=(B.led b).dm;have h2:=(B.led b).sz;have h3:=(B.led b).mask
       simp_all
     rcases S with⟨rfl,h4⟩|⟨rfl,h4⟩|⟨rfl,h4⟩
     .exact .inl ⟨rfl,by omega⟩
     .exact .inr (.inl ⟨rfl,by omega⟩)
     .exact .inr (.inr ⟨rfl,by omega⟩)
  split
  .refine ax (k9 hx λb=>?_)
   cases b with
   |true=>exact tail t1.plain
   |false=>exact tail ag
  .refine ax (aP ?_);exact tail t1.plain
end
end Tab
open PyProof.Rows
namespace Tab
noncomputable def c8{a:Type}[DecidableEq a](val:Nat->a):Nat->List a
 |0=>[]
 |i+1=>if val i∈c8 val i then c8 val i else c8 val i++[val i]
section
variable{U:fW}{w:World}{N:Type}[DecidableEq N]{Y:KeyKind U w N}{Q:Wp}
def ZZ(x:mL Y h k b)(e:∀o,h.get? b=ae o->a.get? b=ae o):mL Y a k b:=
 let ⟨o,i,n,c,d⟩:=x
 ⟨o,i,n,e o c,d⟩
def ge.same(x:ge Y Q h a d)(e:∀b o,(b=a\/Q b)->h.get? b=ae o->g.get? b=ae o):ge Y Q g a d:=by
 obtain⟨o,i,j,t,m,kp,L,l,hex,hd,T,S,n,hk,q⟩:=x;exact⟨o,i,j,t,m,kp,L,e a o (.inl aa) l,hex,hd,T,S,n,λp c=>⟨ZZ (hk p c).1 λo=>e p.2 o (.inr (hk p c).2),(hk p c).2⟩,q⟩
variable{A:hJ}{R:Result->bT->Prop}{I:ar}{J O:List ar}{G:Array GenState->Array GenState->Prop}{n:Nat}{P:Nat->aJ->Prop}{St:Nat->bT->Prop}
def jmP(W:WalksS U w A.in1 I J O G n P St)(S)(p:S∉J)(hu:A.in1.units<cLine)(val)(E:∀b,Q b->b≠S/\b∉O)(hb:∀i,i<n->(c8 val i).length<76):
  ∀(k i)(s),n-i=k->i<=n->St i s->ge Y Q s.heap S (c8 val i)->(∀i v,P i v->∃b,v=.ref b/\Q b/\mL Y s.heap (val i) b)->
    (∀d,Moved (S::O) G s d->ge Y Q d.heap S (c8 val n)->R (.ok (.ret .none)) d)->
    lZ (aN U w) A (.builtin "set.update.loop" ⟨[.ref S,.ref I],[]⟩) R s:=by
 have H:S∉O:=λh=>p (W.sub _ h)
 have up:∀b∈O,b∈S::O:=λb z=>g9 _ z
 have walk:∀{s d:bT}{ks:List (List N)},Moved O G s d->ge Y Q s.heap S ks->ge Y Q d.heap S ks:=λa x=>x.same λb o hb e=>a.heap b o (by rcases hb with rfl|hb;exact H;exact(E b hb).2) e
 intro k
 induction k with
 |zero=>
  intro i s hk hi m L hK hR;obtain rfl:i=n:=by omega
  refine sL PP ?_;refine ax (W.done s _ _ m λd a=>?_);exact aP (hR d (a.mono up) (walk a L))
 |succ k ih=>
  intro i s hk hi m L hK hR;have cr:i<n:=by omega
  refine sL PP ?_;refine ax (W.item i s _ _ cr m λv d hP q a=>?_);obtain⟨b,rfl,r,hkb⟩:=hK i v hP;have l:=ZZ hkb λo e=>a.heap b o (E b r).2 e
  refine ax (gk ?_);refine gk (ax (wpAny_pyHash_tuple hu l ?_));have hS1:=walk a L;refine jj7 hu hS1 l r (hb i cr) λh' bb BB j=>?_
  have mv:∀c o,c≠S->d.heap.get? c=ae o->h'.get? c=ae o:=λc o u e=>by rw[BB.2 c u];exact e
  have hS3:ge Y Q h' S (c8 val (i+1)):=by
    rw[c8]
    by_cases a:val i∈c8 val i
    .rw[if_pos a]at j ⊢;exact j
    .rw[if_neg a]at j ⊢;exact j
  refine aP ⟨AS PyProof.Rows.F.plain_set_update_loop _,ih (i+1) _ ak cr (W.frame _ d _ _ q (qa _ _) λc u o e=>?_) hS3 (λi' v' hP'=>?_) λLg y B=>?_⟩
  .exact mv c o (λz=>p (by rw[<-z];exact u)) e
  .obtain⟨c,e,g,x⟩:=hK i' v' hP';exact⟨c,e,g,ZZ x λo z=>mv c o (E c g).1 (a.heap c o (E c g).2 z)⟩
  .refine hR Lg (Moved.trans W.gtrans ((a.mono up).then_heap (qa _ _) λc o u e=>?_) y) B;exact mv c o (λz=>u (by rw[z];exact g8)) e
end
section
variable{H:fW}{w:World}{B:Type}[DecidableEq B]{L:KeyKind H w B}{A:hJ}{E:Wo}{s:bT}
def U2(a)
  (h:Q₁ (.ref s.heap.objs.size) {s with heap:=s.heap.push {cls:=.type "set",dict:=ah,data:=.set #[] 0 (.fresh 0 0 (!w.params.followText "set-order"))}}):
  lZ (aN H w) A (.call (.builtin "set.__new__") ⟨[.type "set",a],[]⟩) (wants Q₁ E) s:=by
 refine codeAny_of_tree ?_;refine ax (wpAny_of_eq (PySem.F.newCall_set_1 a) (aP ⟨AS PySem.F.plain_set_new _,sL PySem.F.entry_set_new ?_⟩))
 delta mF.«set.__new__» Builtin.Frozenset.newClass
 have c:=PySem.sub_set_self;obtain⟨e,g,d,tk,os⟩:=s
 wp_walk
 refine FM (aP ?_);exact ax (wpAny_alloc (aP (aP h)))
def jlU(c:h.get? a=ae o)(d:o.ExactSet)(e:o.data=.set #[] 0 (.fresh 0 0 led))(g:led=!w.params.followText "set-order"):ge L G h a []:=
 ⟨o, #[],0,_,7,[],led,c,d,e,Tb.fresh led,.inl ⟨rfl,by decide⟩,rfl,(λx z=>by cases z),.refl _,.nil,g⟩
def oQ(hu:A.units+6<cLine)(hh:A.handled=ah)(hl:s.heap.IsList l a)
  (hi:∀(i) v,a[i]?=ae v->∃b,v=.ref b/\mL L s.heap (val i) b) (u:∀i,i<a.size->(c8 val i).length<76)
  (h:∀(j)(tk),ge L (λb=>b<s.heap.objs.size/\cg b∈a.toList) j s.heap.objs.size (c8 val a.size)->(∀b o,b<s.heap.objs.size->s.heap.get? b=ae o->j.get? b=ae o)->Q (.ref s.heap.objs.size) {s with heap:=j,toks:=tk}):
  wpAny (aN H w) A (call (.type "set") [.ref l]) Q E s:=by
 obtain⟨c,tl,afS⟩:=BS.mro;have PQ:=BS.made;have afT:=BS.sub;refine Bm (codeAny_of_tree ?_);refine aP ⟨Code.quiet_builtin _ cu,sL F.entry_type_call ?_⟩;rw[Around.under_plain (weight_type_call_type "set" [.ref l] []) aa]
 repeat (any_goals (first|assumption|wp_step))
 refine tt (U2 (.ref l) (E:=E) (Q₁:=λobj p=>∃led:Bool,(led=!w.params.followText "set-order")/\obj=.ref s.heap.objs.size/\p={s with heap:=s.heap.push {cls:=.type "set",dict:=ah,data:=.set #[] 0 (.fresh 0 0 led)}}) ⟨_,rfl,rfl,rfl⟩) λr p hr=>?_
 cases r with
 |error e=>exact hr
 |ok fl=>
  cases fl with
  |ret obj=>
   obtain⟨led,O,rfl,rfl⟩:=hr;generalize g:({cls:=.type "set",dict:=ah,data:=.set #[] 0 (.fresh 0 0 led)}:Obj)=y;have hS:(s.heap.push y).get? s.heap.objs.size=ae y:=dA _ (by rw[<-g];rfl);have hT:FQ {s with heap:=s.heap.push y} (.ref s.heap.objs.size) "set" :=⟨_,hS,by rw[<-g]⟩
   have hli:=BS.init.lookup;have hbi:=BS.init.bind (.ref s.heap.objs.size)
   repeat (any_goals (first|assumption|wp_step))
   refine tt (IY (R:=wants (λr q=>r=.none/\∃j tk,q={s with heap:=j,toks:=tk}/\
       ge L (λb=>b<s.heap.objs.size/\cg b∈a.toList) j s.heap.objs.size (c8 val a.size)/\(∀b o,b<s.heap.objs.size->s.heap.get? b=ae o->j.get? b=ae o)) E) BS.init.plain F.entry_set_init (check_set_init_1 hT ?_)) λU q d=>?_
   .obtain⟨ol,Y,BU,nl,LC⟩:=hl;obtain⟨afU,I,PR,m⟩:=ol;subst BU;subst LC;have LF:(s.heap.push y).get? l=ae {cls:=.type "list",dict:=I,data:=.seq a nl,slots:=m}:=cc _ Y;have afV:=F.sub_list_set;have afW:=F.sub_list_frozenset;have tR:(s.heap.push y).IsList l a:=⟨_,LF,rfl,nl,rfl⟩
    have cr:=b7 Y;have n:(s.heap.push y).objs.size=s.heap.objs.size+1:=su _ _
    have LG:ge L (λb=>b<s.heap.objs.size/\cg b∈a.toList) ((s.heap.push y).push {cls:=.type "list_iterator",data:=.fields #[.ref l,.int 0 0]}) s.heap.objs.size []:=
      jlU (cc _ hS) (by rw[<-g];exact⟨rfl,rfl,rfl⟩) (by rw[<-g]) O
    subst g
    delta mF.«set.__init__» noKeywords Builtin.Frozenset.updateFrom
    generalize hPI:pyIter=PI
    wp_walk
    subst hPI;refine vH tR ?_;refine ax (wpAny_runValue ?_)
    refine jmP ((Walks.list (by simp[hh]) _ l (by rw[n];exact di (BN cr)) a).toS) s.heap.objs.size (by rw[n];simp only[cM,tW,or_false,not_or];exact⟨di (tq _),oq cr⟩) cf val
      (λb u=>by rw[n];simp;exact⟨di u.1,di (BN u.1)⟩) u (a.size-0) 0 _ aa (fH _) ⟨⟨_,dA _ aa,rfl,rfl⟩,tR.push _⟩ LG (λi v hv=>?_) λs' hm J=>?_
    .obtain⟨b,e,x⟩:=hi i v hv;refine⟨b,e,?_,ZZ x λo z=>cc _ (cc _ z)⟩;obtain⟨o,_,_,ho,_⟩:=x;refine⟨b7 ho,?_⟩;rw[<-e];exact lf (by rw[hH];exact hv)
    .obtain⟨j,g',d',Li,os'⟩:=s';have eg:=hm.gens;have ed:=hm.drawn;have eo:=hm.os;subst eg;subst ed;subst eo;refine aP (aP ⟨rfl,j,Li,rfl,J,λb o u e=>?_⟩);refine hm.heap b o ?_ (cc _ (cc _ e));rw[n];simp;exact⟨di u,di (BN u)⟩
   .cases U with
    |error e=>exact d
    |ok N=>
      cases N with
      |ret r=>
       obtain⟨rfl,j,tk,rfl,J,hk'⟩:=d
       repeat (any_goals (first|assumption|wp_step))
       exact h _ _ J hk'
      |_=>exact d.elim
  |_=>exact hr.elim
end
end Tab
end M
namespace M
open PySem PySem.Spec L2
open PyProof.Rows hiding St
noncomputable def iS:LD->Option (List (List dY))
 |[]=>ae []
 |d::r=>match sF d,iS r with
  |some k,ae a=>ae (k::a)
  |_,_=>ah
def nT(a:List (List dY)):Nat:=(Tab.c8 (λi=>a.getD i []) (ao a)).length
theorem W8[DecidableEq a](val:Nat->a):∀i,(Tab.c8 val i).length<=i
 |0=>bz _
 |i+1=>by
  have:=W8 val i;unfold Tab.c8;split
  all_goals (first|omega|(simp_all;done)|grind)
theorem Kr[DecidableEq a](val:Nat->a):∀i x,x∈Tab.c8 val i↔ ∃j,j<i/\val j=x
 |0,x=>by simp[Tab.c8]
 |i+1,x=>by
  have c:=Kr val i
  have d:x∈Tab.c8 val (i+1)↔x∈Tab.c8 val i\/x=val i:=by
   rw[Tab.c8]
   grind
  grind
def jfH(h:c.Nodup):nT c=ao c:=by
 suffices d:∀i,i<=ao c->(Tab.c8 (λi=>c.getD i []) i).length=i from d _ (bz _)
 intro i
 induction i with
 |zero=>intro _;rfl
 |succ i e=>
  intro l
  have g:c.getD i []∉Tab.c8 (λi=>c.getD i []) i:=λz=>by
   obtain⟨j,a,b⟩:=(Kr _ _ _).mp z;rw[List.getD_eq_getElem?_getD,List.getD_eq_getElem?_getD,cW ak,cW (Dr bg)]at b;have:=(List.getElem_inj h).mp b;omega
  rw[Tab.c8,if_neg g,lh,e (AC bg)];rfl
def jmN(h: ¬a.Nodup):nT a<ao a:=by
 delta nT
 suffices m:∀i,i<=ao a->(Tab.c8 (λi=>a.getD i []) i).length=i->(a.take i).Nodup by
  refine Lq (W8 _ _) λe=>h ?_
  grind
 intro i
 induction i with
 |zero=>simp_all
 |succ i d=>
  intro n e;rw[Tab.c8]at e
  split at e
  .have:=W8 (λi=>a.getD i []) i;omega
  .rename_i g;rw[List.take_succ,cW (Dr bg)];refine oI.mpr ⟨(d (AC bg) aZ),by simp,λx l y o=>?_⟩;rintro rfl;obtain⟨j,p⟩:=sI.mp l;have c:j<i:=by grind
   refine g ((Kr _ _ _).mpr ⟨j,c,?_⟩)
   grind
def F1(H:Hp)(x:V)(k:List dY):Prop:=∃b,x=.ref b/\H b=ae (.ap (k.map kV))
set_option tactic.hygienic true in
theorem PU{g}:∀{a}{c:LD}{e},ay g A H a c->iS c=ae e->F2 (F1 H) a e:=by
 intro a
 induction a with
 |nil=>intro _ _ r h;cases r.fJ;cases h;exact .nil
 |cons _ _ i=>
  intro _ e r h;obtain⟨d,c,rfl,r,t⟩:=r.cv;unfold iS at h
  cases e1:sF d with
  |none=>simp_all
  |some k=>
   cases e2:iS c with
   |none=>simp_all
   |some j=>
    rw[e1,e2]at h;cases h;exact .cons (jfZ r e1) (i t e2)
def D5(o:Obj)(n:Nat):Prop:=o.ExactSet/\∃(a:Array (Int×aJ))(c:Nat)(t:oO),o.data=.set a c t/\t.fits a.size=af/\a.size=n/\n<=76
section
def jiK{g:L2.St}(I:aK X e g H s):∀{c}{a}{d},aW c a->F2 (F1 H) c d->∀(i) v,a[i]?=ae v->∃b,v=.ref b/\mL (wJ X.P X.w) s.heap (d.getD i []) b:=by
 intro c
 induction c with
 |nil=>intro _ _ r _ i v h;cases BH r;cases h
 |cons _ _ j=>
  intro _ _ r x i v h;obtain⟨u,o,rfl,r,l⟩:=tK r;obtain⟨k,d,rfl,x,m⟩:=x.cv
  cases i with
  |zero=>
   obtain⟨b,rfl,n⟩:=x;cases h;cases r;exact⟨b,rfl,jiL I.be n⟩
  |succ i=>exact j l m i v h
def jev(O:X.bU=af)(hu:X.A.units+200<cLine):bG X (.type "set") (λw H Q=>∃p d a,w=[.ref p]/\df X.K H p d/\F2 (F1 H) d a/\a.length<=76/\∀l o,H l=ah->D5 o (nT a)->Q (.ref l) (aQ H l (.bQ o (.aG l)))):=by
 rintro y s σ H w d Q I r ⟨p,vs,a,U,Y,z,hz,q⟩;subst U;obtain⟨u,rfl,ru⟩:=Jw r;cases ru;obtain⟨g,B,pl,_⟩:=I.list Y;have c:g.toArray.size=a.length:=by rw[eW,<-B.length,z.length]
 refine Tab.oQ ak (I.ok.hd O) pl.isList (λi v h=>jiK I B z i v aZ) (λi hi=>EY (W8 _ i) ak) λh' tk E j=>?_
 rw[c]at E;obtain⟨o,J,ep,t,m,kp,L,N,hex,hd,T,S,he,F3,pm,nd,ld⟩:=E
 have n:J.size=nT a:=by
  rw[<-gW,he,cX];have:=pm.length_eq;rw[cX]at this;rw[this];rfl
 exact⟨.ref s.heap.objs.size,_,I.laid (λb o e=>j b o (b7 e) e) (bz _) (show bC X.P X.w _ h' _ (.bQ o (.aG _)) from⟨N,o,N⟩),rfl,q _ o (I.be.fresh (bz _)) ⟨hex,J,ep,t,hd,T.fits S.le.1,n,(cn (W8 _ _) hz)⟩⟩
def jex:bG X (.builtin "len") (λc H Q=>∃a b o n,c=[.ref a]/\H a=ae (.bQ o (.aG b))/\D5 o n/\Q (.int n) H):=by
 rintro d s y H c z Q I r ⟨a,b,o,n,e,g,⟨h,i,B,t,j,l,m,p⟩,q⟩;subst e;obtain⟨u,rfl,v⟩:=Jw r;cases v;obtain⟨w,_⟩:=(I.be a _ g)
 subst m;exact call_len_set w h j l ak ⟨.int i.size,H,I.tok _,⟨_,rfl⟩,q⟩
def ux:D->aw D
 |.al c=>match iS c with
  |some a=>bh (ao a<=76) (.ok (.int (nT a)))
  |none=>.am
 |_=>.am
set_option tactic.hygienic true in
theorem Yc(h:ux a=.ok d):∃g c,a=.al g/\iS g=ae c/\ao c<=76/\d=.int (nT c):=by
 unfold ux at h
 split at h
 .rename_i g
  split at h
  .rename_i c e;obtain⟨i,j⟩:=jE h
   simp_all
  .cases h
 .cases h
end
section
noncomputable def oR:LD->aw D
 |[.al a]=>match ZT a with
  |some bs=>.ok (.bl (bs.any id))
  |none=>.am
 |_=>.am
def UG(y:X.bU=af):bG X (.builtin "any") (λm H Q=>∃(p:ar)(bs:List Bool),m=[.ref p]/\df X.K H p (bs.map V.bl)/\Q (.bl (bs.any id)) H):=by
 rintro w s σ H m us Q I r ⟨p,bs,B,E,q⟩;subst B;obtain⟨u,rfl,J⟩:=Jw r;cases J;obtain⟨L,N,pl,hz⟩:=I.list E;have c:=Q9 N;subst c;refine call_any_walk (vH pl.isList ?_)
 have j:p≠s.heap.objs.size:=by
   obtain⟨o,n,e,_⟩:=pl;exact di (b7 e)
 refine⟨s.heap.objs.size,_,_,_,_,_,λi=>(bs[i]?).getD af,rfl,Walks.list (show X.A.in1.handled=ah from I.ok.hd y) s.heap.objs.size p j (bs.map o7).toArray,⟨⟨_,dA _ aa,rfl,rfl⟩,pl.isList.at λo e=>cc _ e⟩,?_,λh' tk O=>?_⟩
 .intro i v s' Q' E' hP l;have a:(bs.map o7)[i]?=ae v:=by simp_all
  rw[hU]at a
  cases e:bs[i]? with
  |none=>simp_all
  |some b=>
   rw[e]at a;cases a;dsimp only at l;rw[e]at l;exact pz l
 .have U:(bs.map o7).toArray.size=ao bs:=by simp
  have e:((gH (bs.map o7).toArray.size).any λi=>(bs[i]?).getD af)=bs.any id:=by
   rw[U,vk,tM,tM]
   constructor
   .rintro⟨i,g,h⟩;have d:=iD.mp g;rw[cW d]at h;exact⟨_,rB d,h⟩
   .rintro⟨b,Y,h⟩;obtain⟨i,g,rfl⟩:=List.mem_iff_getElem.mp Y;exact⟨i,iD.mpr g,by rw[cW g];exact h⟩
  rw[e];refine⟨.bl _,H,?_,rfl,q⟩
  exact I.kept λb o e=>O b o (by
   intro z
   exact absurd (b7 e) aZ) (cc _ e)
set_option tactic.hygienic true in
theorem PV:CP j (λh H Q=>∃(p:ar)(bs:List Bool),h=[.ref p]/\df j H p (bs.map V.bl)/\Q (.bl (bs.any id)) H) oR:=by
 intro h H a d Q r e q;rcases a with _|⟨c,a⟩
 .cases e
 cases c<;>try cases e
 cases a<;>try cases e
 .delta oR at e
  dsimp only at e
  split at e
  .rename_i bs g;cases e;obtain⟨v,rfl,l⟩:=r.one;obtain⟨p,n,rfl,m,_,i⟩:=l.dg;rw[UJ g]at i;have:=XY i;subst this;exact⟨p,bs,rfl,.of m,q _ (iz _)⟩
  .cases e
def LH:R2:=λx y H Q=>∃a c b k,y=.ref a/\Rd H a (.dT c)/\x=.ref b/\TK H k b/\Q (.bl (!(cC c k).isSome)) H
def Zi(e:X.A.units+20<cLine):c9 X (gp .NotIn) LH:=by
 rintro d s o H x y v u Q I g h ⟨a,c,b,k,i,j,l,m,q⟩;subst i;subst l;obtain rfl:u=cg a:=h;exact jjE e I (.inr ⟨c,k,b,j,rfl,m,rfl⟩) g λp n=>⟨.bl _,H,n,rfl,q⟩
def F4(a:List (List NK))(c:D):aw D:=match bW c with
 |some k=>.ok (.bl (!dG a k))
 |none=>.am
def eT:D->D->aw D
 |kd,.bw a _|kd,.bV a _=>F4 a kd
 |_,_=>.am
set_option tactic.hygienic true in
theorem Zj:fR u LH eT:=by
 intro x y H a b d Q j i e q
 have g:∀{p:ar}{c:List (List NK×V)},Rd H p (.dT c)->F4 (c.map (·.1)) a=.ok d->LH x (.ref p) H Q:=λh e=>by
   delta F4 at e
   split at e
   .rename_i k l;cases e;obtain⟨m,rfl,n⟩:=xj j l;refine⟨_,_,m,k,rfl,h,rfl,n,?_⟩;rw[<-ZU,KZ];exact q _ (iz _)
   .cases e
 cases b<;>try exact dD e
 .obtain⟨p,c,rfl,h,_,rfl,r⟩:=i.sG;exact g (.inl h) e
 .obtain⟨p,c,rfl,⟨o,h⟩,rfl,r⟩:=i.f;exact g (.inr ⟨o,h⟩) e
def cK(a:List (List NK))(c:LD)(k:List NK):Option D:=((a.zip c).find? λp=>aD (p.1=k)).map (·.2)
theorem QG:∀{a}{c:LD}(k){d},ay g A H (a.map (·.2)) c->cK (a.map (·.1)) c k=ae d->∃v,cC a k=ae v/\aV g A H v d
 |[],c,k,d,r,h=>by simp[cK]at h
 |(i,v)::a,c,k,d,r,h=>by
  cases r with
  |cons j l=>
   by_cases e:i=k
   .subst e;simp[cK]at h;subst h;exact⟨v,by simp[cC],j⟩
   .obtain⟨w,m,n⟩:=QG k l (by simpa[cK,e]using h);exact⟨w,by simpa[cC,e]using m,n⟩
def LI:R2:=λx y H Q=>∃a c b k v,x=.ref a/\Rd H a (.dT c)/\y=.ref b/\TK H k b/\cC c k=ae v/\Q v H
def jf3(j:X.A.units+20<cLine):rM X LI:=by
 intro value c i s B H x y v u Q I l m h n;obtain⟨a,d,b,k,z,rfl,o,rfl,p,r,q⟩:=h;obtain rfl:v=cg a:=l;have g:gP H a (.ref b) (ae z):=by rw[<-r];exact .inr ⟨d,k,b,o,rfl,p,rfl⟩
 exact tail_any (Xd I g) PySem.F.slot_dict_getitem.lookup (Uv j I g m λE J w e=>⟨z,H,w,e,q⟩) n
def atT(a:List (List NK))(c:LD)(e:D):aw D:=match bW e with
 |some k=>match cK a c k with
  |some d=>.ok d
  |none=>.am
 |none=>.am
def eU:D->D->aw D
 |.bw a c,d|.bV a c,d=>atT a c d
 |_,_=>.am
def jjV(h:atT a c e=.ok d):∃k,bW e=ae k/\cK a c k=ae d:=by
 delta atT at h
 grind
def jix(m:aV l A H x a)(n:aV l Any H y b)(h:eU a b=.ok d)(q:∀v,aV l A H v d->Q v H):LI x y H Q:=by
 have g:∀{p:ar}{e:List (List NK×V)}{j:LD},Rd H p (.dT e)->ay l (λc=>A c/\c≠p) H (e.map (·.2)) j->atT (e.map (·.1)) j b=.ok d->LI (.ref p) y H Q:=λi r h=>by
  obtain⟨k,u,w⟩:=jjV h;obtain⟨v,z,B⟩:=QG k r.low w;obtain⟨E,rfl,I⟩:=xj n u;exact⟨_,_,E,k,v,rfl,i,rfl,I,z,q v B⟩
 cases a with
 |bw J j=>
  obtain⟨a,e,rfl,i,_,rfl,r⟩:=m.f;exact g (.inl i) r h
 |bV J j=>
  obtain⟨a,e,rfl,⟨o,i⟩,rfl,r⟩:=m.f;exact g (.inr ⟨o,i⟩) r h
 |_=>exact dD h
def Xe(j:X.A.units+20<cLine)(l:DE X .s a m)(n:DE X L b o)(p:K1 b:=by intro _ _;rfl):DE X .s (.Subscript a b r) (aq m o eU):=by
 nomatch (
  PE.imp (HB (jf3 j) l n p)<|by
   rintro N H Q ⟨G,g,c,d,k,e,q⟩;obtain⟨u,e1,e⟩:=je e;obtain⟨w,e2,z⟩:=je e;refine⟨G,g,c,u,k,e1,λx O h B f=>⟨G,g,c,w,k.aB h,e2,λy E i I f=>?_⟩⟩
   exact jix (B.aB i) (I.aS Lv.bA) z λv J=>q v E (h.trans i) J trivial)
end
def D6(X:Cx)(i:Nat)(g:Sl->aw dP):TS:=λE e H=>∃G h d a,aH X.K G h d e H/\At e i a/\((∃o,g d=.ok o/\FL X.K G h i a d e H E o)\/∃c,g d=.exc c/\BK X c H)
@[irreducible] def sP (X:Cx) (i:Nat) (st:Stmt) (g:Sl->aw dP):Prop:=PS X st (D6 X i g)
@[irreducible] def vD (X:Cx) (i:Nat) (st:List Stmt) (g:Sl->aw dP):Prop:=eh X st (D6 X i g)
theorem BK.aB(s:aA H j)(i:BK X c H):BK X c j:=⟨λa d g l h e C m sm=>i.a a d g l h e C m (s.trans sm),λd g sm=>i.b d g (s.trans sm)⟩
noncomputable def UC(g:Sl->aw dP):Sl->aw dP:=λa=>p6 (g a)
section
variable{st:Stmt}{rest:List Stmt}{g2:Sl->aw dP}
def lz.x(h:lz X i d g):vD X i d (UC g):=by
 nomatch (eh.imp h<|by
  rintro E m H ⟨G,j,e,a,k,l,q⟩;rcases q with⟨o,e1,q⟩|⟨c,e1,_⟩
  .exact⟨G,j,e,o,a,k,l,X9 e1,q⟩
  .exact(Y8 e1).elim)
def Yq(m:sP X i st n)(p:lz X i rest g2):vD X i (st::rest) (oM n (UC g2)):=by
 nomatch (eh.imp (y7 m p)<|by
  rintro E z H ⟨G,h,e,a,k,l,q⟩;rcases q with⟨o,j,q⟩|⟨c,j,r⟩
  .obtain⟨g,e1,e2⟩:=je j;refine⟨G,h,e,a,k,l,.inl ⟨g,e1,?_⟩⟩
   cases g with
   |nx d=>exactλu B v w y=>⟨G,h,d,o,a,v,w,X9 e2,YV y q⟩
   |rt b d=>cases e2;exact q
  .rcases Wc j with e1|⟨g,e1,e2⟩
   .exact⟨G,h,e,a,k,l,.inr ⟨c,e1,r⟩⟩
   .cases g with
    |nx d=>exact(Y8 e2).elim
    |rt b d=>cases e2)
def Us(a:sP X i st c):vD X i [st] c:=by
 nomatch (eh.imp (Wt a) λE d H q=>q)
noncomputable def gS(t:T0)(c g2:Sl->aw dP):Sl->aw dP:=λa=>match t a with
 |.ok b=>if b=af then c a else g2 a
 |_=>.am
def PX(r:DT X u t)(v:vD X i h l)(w:vD X i e g2):sP X i (.If u h e y) (gS t l g2):=by
 nomatch (PS.imp (GX r v w)<|by
  rintro E B H ⟨G,j,d,a,k,m,q⟩
  have n:∃b,t d=.ok b/\gS t l g2 d=if b=af then l d else g2 d:=by
   cases e1:t d with
   |ok b=>exact⟨b,rfl,by delta gS;rw[e1]⟩
   |_=>
     have z:gS t l g2 d=.am:=by delta gS;rw[e1]
     simp_all
  obtain⟨b,e1,e2⟩:=n;rw[e2]at q;refine⟨G,j,d,b,k,e1,λI s=>?_⟩
  cases b with
  |true=>
   rcases q with⟨o,g,q⟩|⟨c,g,p⟩
   .exact⟨G,j,d,a,k.aB s,m,.inl ⟨o,g,YV (bN.refl s) q⟩⟩
   .exact⟨G,j,d,a,k.aB s,m,.inr ⟨c,g,p.aB s⟩⟩
  |false=>
   rcases q with⟨o,g,q⟩|⟨c,g,p⟩
   .exact⟨G,j,d,a,k.aB s,m,.inl ⟨o,g,YV (bN.refl s) q⟩⟩
   .exact⟨G,j,d,a,k.aB s,m,.inr ⟨c,g,p.aB s⟩⟩)
noncomputable def LJ(c:Str):Sl->aw dP:=λx=>.exc c
def Yr(v:i8 X.K c C)(w:X.mg c=ae (.ref C))(y:rW X.K C z g=af)(FB:ExcBaseFacts B g j z)
    (J:DE X l e f) (m:∀env,∃d,f env=.ok d) (h:X.bU=af:=by rfl) (L:Gl X c:=by rfl) (n:YG c:=by decide)
    (N:bx [e] X.V=(ag,eval e X.V)::bx [] X.V:=by exact jq aa):
    sP X i (.Raise (ae (.Call (.Name c U) [e] [] r)) ah O) (LJ c):=by
 nomatch (by
  rintro u s Y H E I ⟨G,H0,env,a,k,_,q⟩;rcases q with⟨o,p,_⟩|⟨c',p,Q⟩
  .cases p
  cases p
  exact XZ v w y FB J m h L n N I k Q.a)
end
def D7(e:bK)(n:Nat)(F:FO):Sp:=λl H Q E=>∃(B:Wp)(g:LD)(h:List V)(a:ar)(i:D),l=V.ref a::h/\ao h=n/\ay e (λc=>B c/\c≠a) H h g/\Top e (λc=>B c/\c≠a) H a i/\
 ((
  ∃r j,F i g=.ok (r,j)/\∀v d,(∀c o,c≠a->H c=ae o->d c=ae o)->Top e (λc=>(H c=ah\/B c)/\c≠a) d a j->aV e (λc=>(H c=ah\/B c)/\c≠a) d v r->Q v d)\/
  ∃c,F i g=.exc c/\∀C d,i8 e c C->aA H d->E (.ref C) ah d)
noncomputable def YJ(N n:Nat)(g:Sl->aw dP):FO:=λh e=>if ao e=n then(match g (xw N h e)with
 |.ok (.nx a)=>(match Xu a with|.ok d=>.ok (.bo,d)|_=>.am)
 |.ok (.rt r a)=>(match Xu a with|.ok d=>.ok (r,d)|_=>.am)
 |.exc c=>.exc c
 |.am=>.am)else .am
section
def jjg{st}(Fu:mE κ m y st f fd)(S:aC N ps (jj st))(hn:ps.length=n+1)(hN:n+1<=N.length)
   (hb:∀(u)(A)(l)(s)(H)(E),aX k (A.deeper (i5 y (jj st) s.heap.objs.size f u))->vD (cA (gQ P w) P w κ mg aj N y (jj st) f u A l s H E) 0 (zg st) g):
   cZ P w κ mg aj (gQ P w) (k+1) f fd ps (D7 κ n (YJ N.length n g)):=by
 nomatch (by
 obtain⟨oc,od,kV,doc,pm,an,u,ct,E4,rfl,lk,pc⟩:=Fu.ex;refine Hx lk pc S (by rintro vs H Q E ⟨B,O,us,a,d0,ev,hl,_⟩;rw[ev,gG,hl,hn]) λA l s H vs Q E hr h=>?_
 obtain⟨B,O,us,a,d0,ev,hl,rs,t,q⟩:=h;refine⟨_,hb u A l s H E hr,?_⟩;subst ev;have hlen:O.length=n:=by rw[<-rs.length];exact hl
 obtain⟨kk,PY⟩:=jbv (N:=N) rs t ak
 have ne:YJ N.length n g d0 O=(match g (xw N.length d0 O)with
   |.ok (.nx L)=>(match Xu L with|.ok d=>.ok (.bo,d)|_=>.am)
   |.ok (.rt r L)=>(match Xu L with|.ok d=>.ok (r,d)|_=>.am)
   |.exc c=>.exc c
   |.am=>.am):=if_pos hlen
 rcases q with⟨r,d1,J,q⟩|⟨c,J,q⟩
 .have fin:∀(i:Sl) (j) p v,aH κ (λc=>H c=ah\/c=a\/B c) (λc=>if c=a then ah else H c) i j p->At j 0 a->Xu i=.ok d1->aV κ (Sf (λc=>H c=ah\/c=a\/B c) i j) p v r->Q v p:=λi j p v U Y e2 rv=>by
   have hi:=jb8 e2;obtain⟨a2,h1,_,t2⟩:=U.aG 0 _ hi;rw[Y]at h1;cases h1
   have ww:∀c,Sf (λc=>H c=ah\/c=a\/B c) i j c->(H c=ah\/B c)/\c≠a:=λc z=>by
    have LK:c≠a:=by
     rintro rfl;exact z.1 ⟨0,_,hi,Y⟩
    grind
   exact q v p (λc o hc e=>U.aj c o aZ) (t2.bq (λx x e x=>e) ww λx e=>e) (rv.aS ww)
  rw[ne]at J
  cases e1:g (xw N.length d0 O)with
  |exc _|am=>simp_all
  |ok o=>
   rw[e1]at J;refine⟨_,_,_,a,kk,PY,.inl ⟨o,e1,?_⟩⟩
   cases o with
   |nx i=>
    cases e2:Xu i with
    |ok d=>simp only[e2]at J;cases J;exactλj p U Y f'=>fin i j p .bo U Y e2 .bo
    |exc _|am=>simp_all
   |rt r' i=>
    cases e2:Xu i with
    |ok d=>simp only[e2]at J;cases J;exactλv j p U Y f' rv=>fin i j p v U Y e2 rv
    |exc _|am=>simp_all
 .rw[ne]at J;have e1:g (xw N.length d0 O)=.exc c:=by grind
  refine⟨_,_,_,a,kk,PY,.inr ⟨c,e1,λpins σ H1 s1 h e C vs sm hC I hx=>Ye I hx (q C H1 hC sm),λσ H1 sm pins H2 s1 e s' BM I cx=>uz I cx λC p z=>?_⟩⟩;obtain⟨C',e',hC,s3⟩:=z;cases e'
  exact q C p hC (sm.trans (BM.trans s3)))
end
structure lA(P:fW)(w:World)(κ:bK)(mg:YE)(aj:Heap)(k:Nat)(c:Str)(n:Nat)(F:FO):Prop where
 ex:∃C f fd ps,cZ P w κ mg aj (gQ P w) k f fd ps (D7 κ n F)/\cH κ ci c=ae (ae (.ref C))/\mg c=ae (.ref C)/\Mk κ C f/\Binds κ fd ps []
noncomputable def yw(c:Str)(n:Nat)(F:FO)(g:TY):Sl->aw D:=λa=>match g a with
 |.ok e=>if ao e=n then(match F (.obj c [] []) e with
  |.ok (.bo,d)=>.ok d
  |.exc c=>.exc c
  |_=>.am)else .am
 |_=>.am
section
def jcd{l:L2.St}(M:Mk X.K C f)(F:cZ X.P X.w X.K X.mg X.aj w k f y m z)(B:aX (k+1) X.A)(J:Binds X.K y m [])
  (I:aK X c l H s) (r:aW n d)
  (h:∀x dx,H x=ah->H dx=ah->dx≠x->∃E,z (.ref x::n) (aQ (aQ H dx (.aG x)) x (.ins C dx [])) (λv L=>v=.bo/\Q (.ref x) L) E/\∀o e i,aK X c l (aQ (aQ H dx (.aG x)) x (.ins C dx [])) o->w X.stack (aQ (aQ H dx (.aG x)) x (.ins C dx [])) o E e i->X.xe e i):
  wpAny (bj X) X.A (call (.ref C) d) (EP X c l Q) X.xe s:=by
 obtain⟨E,p,N⟩:=h (s.heap.objs.size+1) s.heap.objs.size (I.be.fresh (pd _)) (I.be.fresh (bz _)) (di (tq _));have j:=aK.made (C:=C) I;have q:aW (V.ref (s.heap.objs.size+1)::n) (cg (s.heap.objs.size+1)::d):=.cons aa r
 have O:(cg (s.heap.objs.size+1)::d++[]).length=m.length:=by
  have e:=q.length;rw[F.len _ _ _ _ p]at e
  simp_all
 have g:=J _ (cg (s.heap.objs.size+1)::d) j.fP O;rw[rH]at g
 refine Bm (jfR I.fP M.makes M.init (beq_iff_eq.mp M.fn) (tt (F.run _ X.stack _ _ ⟨cg (s.heap.objs.size+1)::d,[]⟩ (cg (s.heap.objs.size+1)::d) _ _ E (B.make C d [])
  (j.l5.make C d []) g q p) λr i a=>?_))
 cases r with
 |error e=>exact N _ e i j a
 |ok U=>
  cases U with
  |ret u=>
   obtain⟨v,Y,I3,rv,ev,q3⟩:=j.after a;subst ev;exact⟨rv,⟨V.ref (s.heap.objs.size+1),Y,I3,rfl,q3⟩⟩
  |next|brk|cont=>exact mT a
def lA.make(A:lA X.P X.w X.K X.mg X.aj k c n F)(hr:aX (k+1) X.A)(ha:DA X .s (e::O) g)(hg:Gl X c:=by rfl)(U:YG c:=by decide)
   (he:Wn X e O:=by exact jq aa) (Y:Vl X L O:=by exact jR aa):
   nS X .t (.Call (.Name c p) (e::O) [] L) (yw c n F g):=by
 obtain⟨C,f,fd,ps,h1,h2,h3,h4,h5⟩:=A.ex
 nomatch (by
 rintro l s B H Q I ⟨G,H0,a,k,q⟩;have ns:yw c n F g a≠ .am:=by grind
 have key:∃h,g a=.ok h/\h.length=n/\yw c n F g a=(match F (.obj c [] []) h with
   |.ok (.bo,d)=>.ok d
   |.exc c=>.exc c
   |_=>.am):=by
   cases e1:g a with
   |ok h=>
     by_cases hl:h.length=n
     .exact⟨h,rfl,hl,by delta yw;rw[e1];exact if_pos hl⟩
     .exact absurd (by delta yw;rw[e1];exact if_neg hl) ns
   |_=>exact absurd (by delta yw;rw[e1]) ns
 obtain⟨h,e1,hl,e2⟩:=key;refine Bn (Zk I hg h3 ?_ U);refine E2 I.ok.mod.vE h4.kp (bE ((ha) L l s B H (λy u=>aA H u/\ay X.K (Sf G a B) u y h) I ⟨G,H0,a,h,k,e1,λy N E r'=>⟨E,r'⟩⟩) λus s1 ⟨y,u,I1,r,i,r1⟩=>⟨I1.fP,?_⟩) he Y;refine jcd h4 h1 hr h5 I1 r λx dx J Lk ne=>?_
 have S:aA u (aQ (aQ u dx (.aG x)) x (.ins C dx [])):=λb o w=>by
   rw[jz (qi w J),jz (qi w Lk)];exact w
 have rr:=r1.dL.aB S
 have aj:∀j,j->(y.length=n/\ay X.K (λb=>Sf G a B b/\b≠x) (aQ (aQ u dx (.aG x)) x (.ins C dx [])) y h/\Top X.K (λb=>Sf G a B b/\b≠x) (aQ (aQ u dx (.aG x)) x (.ins C dx [])) x (.obj c [] [])/\j):=λj hR=>
   ⟨by rw[r1.length];exact hl,rr.aS λb z=>⟨z.1,by rintro rfl;exact z.2 J⟩,.obj jv ⟨h2,rfl⟩ aa .nil,hR⟩
 rcases q with⟨d,ef,q⟩|⟨c',ef,th⟩
 .have eF:F (.obj c [] []) h=.ok (.bo,d):=by grind
  refine⟨λD D D=>False,⟨Sf G a B,h,y,x,.obj c [] [],rfl,aj _ (.inl ⟨.bo,d,eF,λv N hs t rv=>⟨rv.pG,?_⟩⟩)⟩,λs2 e E D cx=>?_⟩
  .have sH:aA H N:=λb o w=>hs b o (qi (i b o w) J) (S b o (i b o w))
   refine q _ N sH (t.rep (λb z=>⟨z.1.elim (λz=>k.new b (aA.free i (aA.free S z))) λz=>z,z.2⟩) (k.new x (aA.free i J))) λb w o qb m=>?_
   cases w;rw[i _ _ qb]at J;cases J
  .obtain⟨_,_,_,_,_,_,_,_,_,_,_,_,_,z⟩:=cx
   simp_all
 .have eF:F (.obj c [] []) h=.exc c':=by grind
  refine⟨XE X.K c' (aQ (aQ u dx (.aG x)) x (.ins C dx [])),⟨Sf G a B,h,y,x,.obj c [] [],rfl,aj _ (.inr ⟨c',eF,λC2 N hC E=>⟨C2,rfl,hC,E⟩⟩)⟩,λs2 e E I2 cx=>th l _ s2 e E (i.trans S) I2 cx⟩)
end
section
def PZ{st}(d:Dm e C "__init__" q st j)(p:cH e ci c=ae (ae (.ref C))/\gI e C)(l:o c=ae (.ref C))(mk:wr e C=af/\lc e (.ref C)=af)(S:aC N j (jj st))(r:ao j=n+1)(u:n+1<=ao N)
  (v:∀(f)(h)(A)(a)(s)(H)(E),aX k (A.deeper (i5 q (jj st) s.heap.objs.size f h))->vD (cA (gQ P w) P w e o i N q (jj st) f h A a s H E) 0 (zg st) g):
  lA P w e o i (k+1) c n (YJ (ao N) n g):=by
 obtain⟨f,y,F,m,B⟩:=d;exact⟨C,f,y,j,jjg F S r u (v f),p.1,l,⟨mk.1,m.at_,m.fn,mk.2⟩,B⟩
end
mutual
noncomputable def tX:D->Bool
 |.dw _=>ag
 |.ap a|.al a|.cG _ a|.bw _ a|.gK _ a=>iT a
 |.bV _ _=>ag
 |.obj _ _ a=>iT a
 |_=>af
noncomputable def iT:LD->Bool
 |[]=>af
 |d::r=>tX d&&iT r
end
section
variable{U:bK}{o:Obj}{Y:List V}{p:ar}
def ay.AT{H}{q}{m:LD}(r:ay U A H q m):H p=ae (.bQ o (.al Y))->iT m=af->ay U (λc=>A c/\c≠p) (aQ H p (.al Y)) q m:=by
 have E:∀{A:Wp}{a:ar}{H:Hp}{q:List V}{m:LD},ay U (λc=>(A c/\c≠a)/\c≠p) H q m->ay U (λc=>(A c/\c≠p)/\c≠a) H q m:=by grind
 have ne:∀{a:ar}{H:Hp}{u:HO},H p=ae (.bQ o (.al Y))->H a=ae u->(∀I,u≠ .bQ I (.al Y))->a≠p:=by grind
 have at_:∀{a:ar}{H:Hp}{u:HO},H a=ae u->a≠p->aQ H p (.al Y) a=ae u:=λe n=>by rw[jz n];exact e
 refine ay.rec (motive_1:=λA H v d f=>H p=ae (.bQ o (.al Y))->tX d=af->aV U (λc=>A c/\c≠p) (aQ H p (.al Y)) v d)
   ?_ ?_ ?_ ?_ ?_ ?_ ?_ ?_ ?_ ?_ ?_ ?_ ?_ ?_ ?_ r
 .exactλf f=>.bo
 .exactλb f f=>.bl b
 .exactλi f f=>.int i
 .exactλx h f f=>.str x h
 .exactλe f j g n=>.ap (at_ e (ne g e λf z=>by cases z)) (j g n)
 .exactλe w f j g n=>have h:=ne g e λf z=>by cases z
   .al (at_ e h) ⟨w,h⟩ (E (j g n))
 .exactλf f f f n=>by cases n
 .exactλe w y B f j g n=>have h:=ne g e λf z=>by cases z
   .cG (at_ e h) ⟨w,h⟩ y B (E (j g n))
 .exactλe w y B f j g n=>have h:=ne g e λf z=>by cases z
   .bw (at_ e h) ⟨w,h⟩ y B (E (j g n))
 .exactλe k l g f=>.eX (at_ e (ne g e λf z=>by cases z)) k l
 .intro A H a J q O m e y B _ j g n;refine .gK ?_ y B (E (j g n))
  grind
 .exactλf f f f f f n=>by cases n
 .exactλe w y B f j g n=>have h:=ne g e λf z=>by cases z
   .obj (at_ e h) ⟨w,h⟩ y B (E (j g n))
 .exactλf f=>.nil
 .intro A H v d q m _ _ L N g n;have n:=og.mp n;exact .cons (L g n.1) (N g n.2)
def aV.AT(r:aV U A H v d)(h:H p=ae (.bQ o (.al Y)))(n:tX d=af):aV U (λc=>A c/\c≠p) (aQ H p (.al Y)) v d:=by
 cases ay.AT (.cons r .nil) h (by show(tX d&&af)=af;rw[n];rfl);assumption
end
section
variable{Q:LD}
def aH.D8(k:aH B G E env g H)(l:env[i]?=ae (.aG (.al Q)))(n:g[i]?=ae (ae (.ref a)))(L:H a=ae (.al p))(N:E a=ah)(O:ay B (Sf G env g) H p Q):aH B G E (env.set i (.ai (.dw Q))) g (aQ H a (.bQ o (.al p))):=by
 have aG:∀{c:ar},qh (env.set i (.ai (.dw Q))) g c->qh env g c:=λ⟨j,d,h1,h2⟩=>by
   by_cases e:i=j
   .subst e;rw[oj (by exact(iZ.mp l).1)]at h1;cases h1
   .rw[rE e]at h1;exact⟨j,d,h1,h2⟩
 have U:qh env g a:=⟨i,_,l,n⟩
 have st:fQ (Sf G env g) H (aQ H a (.bQ o (.al p))):=λc u e m=>by
   by_cases I:c=a
   .subst I;rw[L]at e;cases e;exact((m trivial).1 U).elim
   .rw[jz I];exact e
 have up:∀c,Sf G env g c->Sf G (env.set i (.ai (.dw Q))) g c:=λc z=>⟨λw=>z.1 (aG w),z.2⟩
 refine⟨by rw[CF];exact k.len,λb u q=>?_,k.g0,λj d h=>?_,λj d h=>?_,λj J d e c h1 h2 r Y=>?_⟩
 .have y:b≠a:=λz=>by subst z;rw[N]at q;cases q
  rw[jz y];exact k.aj b u q
 .by_cases e:i=j
  .subst e;rw[oj (by exact(iZ.mp l).1)]at h;cases h;exact⟨_,n,.CO (.inl ⟨o,jv⟩) (O.bq st up)⟩
  .rw[rE e]at h;obtain⟨v,h1,h2⟩:=k.ai j d h;exact⟨v,h1,h2.bq st up⟩
 .by_cases e:i=j
  .subst e;rw[oj (by exact(iZ.mp l).1)]at h;cases h
  .rw[rE e]at h;obtain⟨b,h1,h2,r⟩:=k.aG j d h;have y:b≠a:=λz=>by subst z;exact e (k.mZ i j _ _ _ l h n h1)
   exact⟨b,h1,h2,r.bq st up λu q=>by rw[jz y];exact q⟩
 .by_cases e1:i=j
  .subst e1;rw[oj (by exact(iZ.mp l).1)]at h1;cases h1
  .by_cases e2:i=J
   .subst e2;rw[oj (by exact(iZ.mp l).1)]at h2;cases h2
   .rw[rE e1]at h1;rw[rE e2]at h2;exact k.mZ j J _ _ _ h1 h2 r Y
end
def aV.D9(r:aV c A H (.ref a) d)(h:H a=ae (.bQ o (.al g)))(n:tX d=af):False:=by
 cases r with
 |ap _ _|al _ _ _=>simp_all
 |CO e _=>cases n
 |cG _ _ _ _ _|bw _ _ _ _ _|eX _ _ _|gK _ _ _ _|bV _ _ _ _|obj _ _ _ _ _=>simp_all
def aK.AU{d:L2.St}(I:aK X c d H s)(e:H a=ae (.al g)):FK X a:=by
 refine⟨λg z=>?_,λo u z=>?_,λh z=>?_⟩
 .rw[I.aj.ee _ _ z]at e;cases e
 .rw[I.aj.eQ _ _ _ z]at e;cases e
 .obtain⟨m,q⟩:=I.aj.fg _ _ z
  simp_all
def Ea(i:Nat)(f:T3):Sl->aw D:=λa=>match a[i]? with
 |some (.aG (.al c))=>f (a.set i (.ai (.dw c)))>>=λd=>bh (tX d=af) (.ok d)
 |_=>.am
section
set_option tactic.hygienic true in
theorem jdb(i)(U:l=.s\/l=.t)(h:DE X l e f):DE X l e (Ea i f):=by
 nomatch (by
  rintro y s B H Q I ⟨G,H0,g,d,k,E,q⟩
  delta Ea at E
  rcases L:g[i]? with _|_|d|_<;>rw[L]at E<;>(try cases d)<;>try cases E
  .rename_i Y;obtain⟨d',e1,e2⟩:=je E;obtain⟨n,e3⟩:=jE e2;cases e3;obtain⟨a,ha,h0,tp⟩:=k.aG i _ L
   cases tp with
   | @al xs _ m rs=>
   obtain⟨z,N,nn,rv,hlen,ho⟩:=I.iH m;generalize({cls:=.type "list",data:=.seq N.toArray nn}:Obj)=oL at ho;have lo:=aK.AU I m;refine bE (h y s B _ (λv O=>aA _ O/\aV X.K (l.A G (g.set i (.ai (.dw Y))) B) O v d/\l.T _ v) (aK.swap I m lo (λA z=>by cases z) (λA z=>by cases z) (show bC X.P X.w H s.heap a (.bQ oL (.al xs)) from⟨ho,I.be a _ m⟩)) ⟨G,H0,_,d,(k.D8 (o:=oL) L ha m h0 rs),e1,λv H' s r t=>⟨s,r,t⟩⟩) ?_;rintro v s1 ⟨x,O,I2,r1,sm,rep,nt⟩;have J:=sm _ _ jv;refine⟨x,_,(aK.swap I2 J lo (λA z=>by cases z) (λA z=>by cases z) ((I2.be a _ J).2)),r1,q x _ (λb u w=>?_) ?_ ?_⟩
   .by_cases p:b=a
    .subst p;rw[m]at w;cases w;exact jv
    .rw[jz p];exact sm b u (by rw[jz p];exact w)
   .have rr:=rep.AT J n
    have up:∀c,Sf G (g.set i (.ai (.dw Y))) B c/\c≠a->Sf G g B c:=λc w=>⟨by
      rintro⟨j,d',h1,h2⟩
      by_cases e:i=j
      .simp_all
      .exact w.1.1 ⟨j,d',by rw[rE e];exact h1,h2⟩,w.1.2⟩
    rcases U with rfl|rfl<;>exact rr.aS up
   .rcases U with rfl|rfl
    .trivial
    .intro b eb u w
     by_cases p:b=a
     .subst p;subst eb;exact(rep.D9 J n).elim
     .exact nt b eb u (by rw[jz p];exact w))
def DE.Eb(i)(h:DE X .t e f):DE X .t e (Ea i f):=jdb i (.inr aa) h
end
def oS(T:String):D->aw D
 |.dw _=>.ok (.bl (ig T "list"))
 |d=>iL T d
def WR(T:String)(f:T3):Sl->aw D:=λa=>f a>>=oS T
section
def jiU(h:oS T a=.ok d):∃b,d=.bl b:=by
 delta oS at h
 split at h
 .grind
 .delta iL at h
  grind
def jey(T)(h:iK T):bG X (.builtin "isinstance") (λi H Q=>∃x d,i=[x,.ty T]/\aV X.K Any H x d/\∃b,oS T d=.ok (.bl b)/\Q (.bl b) H):=by
 rintro c s p H i v Q I r ⟨x,d,j,l,b,e,q⟩
 by_cases w:∃m,d=.dw m
 .obtain⟨m,rfl⟩:=w;cases e;subst j;obtain⟨u,L,rfl,y,z⟩:=Bk r;cases(z);obtain⟨a,N,rfl,B,_⟩:=l.lm;cases(y);obtain⟨E,O,⟨o,n,g,J,_⟩,_⟩:=I.list B.nO;exact ot Ho I.fP ⟨o,g,J⟩ (h X.K "list" au) bF λtk=>⟨.bl _,H,I.tok tk,rfl,q⟩
 .refine Oe T h c s p H i v Q I r ⟨x,d,j,l,b,?_,q⟩
  delta oS at e
  simp_all
def Zs(T)(Ty)(u:iK T)(w:DE X l e f)(y:Gl X "isinstance")(z:X.mg "isinstance" =ah)(g:Gl X Ty)(h:X.mg Ty=ah)(B:lW Ty=ae (.type T))
   (E:Ty≠ "__name__" :=by decide) (I:YG Ty:=by decide) (o:bx [e,.Name Ty c] X.V=(ag,eval e X.V)::bx [.Name Ty c] X.V:=by exact jq aa)
   (i:bx [.Name Ty c] X.V=(ag,eval (.Name Ty c) X.V)::bx [] X.V:=by exact jq aa) (j:(fh m (bx [.Name Ty c] X.V)).any (·.1)=ag:=by exact jR aa):
   DE X l' (.Call (.Name "isinstance" p) [e,.Name Ty c] [] m) (WR T f):=by
 nomatch (
  PE.imp (yd (jey T u) y z Fl (qc w (qc (Na (v:=.ty T) g h B aa E I) zV i) o) au au o j)<|by
   rintro O H Q ⟨G,J,n,d,k,L,q⟩;obtain⟨a,e1,e2⟩:=je L;refine⟨G,J,n,a,k,e1,λv N s r x=>?_⟩;obtain⟨b,rfl⟩:=jiU e2
   exact⟨v,a,rfl,r.aS Lv.bA,b,e2,q _ N s (.bl b) (iz (κ:=X.K) b).T⟩)
end
section
def jgT(d:List Str)(l:∀u,aR cV u->u=m)(n:∀c,d.contains c=af->∀C,i8 X.K c C->gJ X.K (.ref C) m=ae af):
  bG X (.builtin "isinstance") (λe H Q=>∃x c g i,e=[x,cV]/\aV X.K Any H x (.obj c g i)/\d.contains c=af/\Q (.bl af) H):=by
 rintro j s N H e O Q I r ⟨x,c,g,i,o,v,w,q⟩;subst o;obtain⟨u,y,rfl,z,B⟩:=Bk r;cases l y B
 cases v with
 | @obj _ _ a C dx fs U _ _ _ E _ J _ _=>
  cases(z);obtain⟨_,_,_,L,_⟩:=(I.be a _ E)
  exact jiS (λM h b p=>(AK p).andThen .now) I.fP L (n c w C J.1) bF λtk=>⟨.bl af,H,I.tok tk,rfl,q⟩
def AV(a:List Str):D->aw D
 |.obj c _ _=>if a.contains c=af then .ok (.bl af)else .am
 |_=>.am
def AW(c:List Str)(f:T3):Sl->aw D:=λa=>f a>>=AV c
def jf8(h:AV e a=.ok d):∃c g i,a=.obj c g i/\e.contains c=af/\d=.bl af:=by
 delta AV at h
 grind
def jl2(h)(Ty)(B:∀c,h.contains c=af->∀C,i8 X.K c C->gJ X.K (.ref C) (.ref i)=ae af)(E:DE X l e f)
   (I:Gl X "isinstance") (J:X.mg "isinstance" =ah) (j:Gl X Ty) (m:X.mg Ty=ae (.ref i))
   (L:YG Ty:=by decide) (z:bx [e,.Name Ty g] X.V=(ag,eval e X.V)::bx [.Name Ty g] X.V:=by exact jq aa)
   (n:bx [.Name Ty g] X.V=(ag,eval (.Name Ty g) X.V)::bx [] X.V:=by exact jq aa) (o:(fh w (bx [.Name Ty g] X.V)).any (·.1)=ag:=by exact jR aa):
   DE X l' (.Call (.Name "isinstance" p) [e,.Name Ty g] [] w) (AW h f):=by
 nomatch (
  PE.imp (yd (jgT h (cV:=.ref i) (λu r=>r) B) I J Fl (qc E (qc (YR (v:=.ref i) j m aa L) zV n) z) au au z o)<|by
   rintro σ H Q ⟨G,N,y,d,k,O,q⟩;obtain⟨a,e1,e2⟩:=je O;refine⟨G,N,y,a,k,e1,λv U s r x=>?_⟩;obtain⟨c,Y,ds,rfl,hc,rfl⟩:=jf8 e2
   exact⟨v,c,Y,ds,rfl,r.aS Lv.bA,hc,q _ U s (.bl af) (iz (κ:=X.K) af).T⟩)
end
section
def Ke:D->aw D
 |.dw a=>ux (.al a)
 |d=>ux d
def kW(h:Ke a=.ok d):∃c g,(a=.al c\/a=.dw c)/\iS c=ae g/\ao g<=76/\d=.int (nT g):=by
 delta Ke at h
 split at h
 .obtain⟨c,g,e,i,j,l⟩:=Yc h
  simp_all
 .obtain⟨c,g,e,i,j,l⟩:=Yc h
  simp_all
def uy(f:T3):Sl->aw D:=λa=>f a>>=Ke
def jbx(J:X.bU=af)(L:X.A.units+200<cLine)(N:DE X l1 e1 O)(i:Gl X "len")(j:X.mg "len" =ah)(m:Gl X "set")(n:X.mg "set" =ah)
   (e:bx [.Call (.Name "set" y) [e1] [] z] X.V=(ag,eval (.Call (.Name "set" y) [e1] [] z) X.V)::bx [] X.V:=by exact jq aa)
   (g:bx [e1] X.V=(ag,eval e1 X.V)::bx [] X.V:=by exact jq aa):
   DE X .b (.Call (.Name "len" p3) [.Call (.Name "set" y) [e1] [] z] [] q3) (uy O):=by
 nomatch (
  PE.imp (yd jex i j aa (qc (yM (jev J L) m n aa (qc N zV g) au au g aa) zV e) au au e aa)<|by
   rintro σ H Q ⟨G,U,r,d,k,u,q⟩;obtain⟨a,Y,u⟩:=je u;obtain⟨ds,B,ea,e1,e2,rfl⟩:=kW u;refine⟨G,U,r,_,k,Y,λx1 E s1 I x=>?_⟩
   have v:∃p c,x1=.ref p/\df X.K E p c/\F2 (F1 E) c B:=by
    rcases ea with rfl|rfl
    .obtain⟨p,c,rfl,h,_,w⟩:=(I.aS Lv.bA).dg;exact⟨p,c,rfl,.inl (.inl h),PU w e1⟩
    .obtain⟨p,c,rfl,h,w⟩:=(I.aS Lv.bA).lm;exact⟨p,c,rfl,h.nO,PU w e1⟩
   obtain⟨p,c,rfl,h,hF⟩:=v;refine⟨p,c,B,rfl,h,hF,e2,λl o hl hO=>?_⟩
   exact⟨l,l,o,_,rfl,jv,hO,q _ _ (s1.trans (aA.aQ hl)) (.int _) trivial⟩)
end
end M
namespace M
open PySem PySem.Spec L2
section
noncomputable def iB(i:Int):Str:=⟨#[97+i.toNat]⟩
def jj2(a b:Str):(a++b).cps.toList=a.cps.toList++b.cps.toList:=by
 show(a.cps++b.cps).toList=_;simp
end
open PyProof.Rows hiding St
section
noncomputable def qs(i:Nat)(env:Sl):aw (List (List NK)×LD):=match env[i]? with
 |some (.aG (.bw a c))|some (.ai (.bw a c))|some (.ai (.bV a c))=>.ok (a,c)
 |_=>.am
set_option tactic.hygienic true in
theorem LL(k:aH n G z env m H)(h:qs i env=.ok q):∃a c,m[i]?=ae (ae (V.ref a))/\Rd H a (.dT c)/\c.map (·.1)=q.1/\ay n (Sf G env m) H (c.map (·.2)) q.2:=by
 delta qs at h
 rcases e:env[i]? with _|_|d|d<;>rw[e]at h<;>(try exact dD h)<;>cases d<;>cases h
 .obtain⟨a,c,g,o,p,u⟩:=WB k e;exact⟨a,c,g,.inl o,p,u⟩
 .obtain⟨v,g,r⟩:=k.ai i _ e;obtain⟨a,c,rfl,w,_,j,l⟩:=r.sG;exact⟨a,c,g,.inl w,j,l.low⟩
 .obtain⟨v,g,r⟩:=k.ai i _ e;obtain⟨a,c,rfl,y,j,l⟩:=r.f;exact⟨a,c,g,.inr y,j,l.low⟩
theorem Yy{A}{H}(k):∀{a}{c:LD},ay j A H (a.map (·.2)) c->cK (a.map (·.1)) c k=ah->cC a k=ah
 |[],c,r,h=>rfl
 |(g,v)::a,c,r,h=>by
  obtain⟨d,c,rfl,_,t⟩:=r.cv
  by_cases e:g=k
  .simp[cK,e]at h
  .have i:cK (a.map (·.1)) c k=ah:=by simpa[cK,e]using h
   have:=Yy k t i;simpa[cC,e]using this
def jkD:V->List V->Hp->VK->Prop:=λx d H Q=>∃a b c k z,x=.ref a/\d=[.ref b,z]/\Rd H a (.dT c)/\TK H k b/\Q ((cC c k).getD z) H
def ut(j:X.A.units+20<cLine):pC X "dict.get" jkD:=by
 intro i s E H x J v l Q I m n h;obtain⟨a,b,c,k,z,rfl,rfl,o,p,q⟩:=h;obtain rfl:v=cg a:=m
 obtain⟨d,e,rfl,r,u⟩:∃d e,l=[d,e]/\aR (.ref b) d/\aR z e:=by
  cases n with
  |cons w t=>cases t with|cons y t=>cases t;exact⟨_,_,rfl,w,y⟩
 exact jl5 j I (.inr ⟨c,k,b,o,rfl,p,rfl⟩) r u λL N B g=>⟨_,H,B,g,q⟩
def uP(i:Nat)(c d:T3):Sl->aw D:=λa=>qs i a>>=λq=>c a>>=λe=>d a>>=λz=>match bW e with
 |some k=>.ok ((cK q.1 q.2 k).getD z)
 |none=>.am
def jgI(hu:X.A.units+20<cLine)(i)(L:DE X l1 e1 fk)(N:DE X .s e2 fz)(hN:X.N[i]?=ae x:=by rfl)(O:gj X.V.scope x:=by exact dC aa)
   (hd:YG x:=by decide) (U:YF x:=by decide)
   (l:lL (.Name x p) "get" X.V (eval (.Name x p) X.V)=eval (.Name x p) X.V:=by rfl)
   (o:((fh g (bx [e1,e2] X.V)).all (λx=>!x.1)&&(mz g (mB [] X.V)).all (λx=>x.1.isSome)
    &&aD ([e1,e2].length+([]:List iy).length+(if([]:List iy).isEmpty then 0 else 1)<30))=af:=by exact xS aa aa)
   (m:(r.endLine==g.line)=af:=by rfl) (hs:bx [e1,e2] X.V=(ag,eval e1 X.V)::bx [e2] X.V:=by exact jq aa) (h:(fh g (bx [e2] X.V)).any (·.1)=ag:=by exact jR aa)
   (Y:bx [e2] X.V=(ag,eval e2 X.V)::bx [] X.V:=by exact jq aa):
   DE X .s (.Call (.Attribute (.Name x p) "get" r) [e1,e2] [] g) (uP i fk fz):=by
 nomatch (
  PE.imp (ku Ec tv LM (ut hu) (zC hN O hd U) (qc L (qc N zV Y) hs) l o m hs h)<|by
   rintro σ H Q ⟨G,H0,u,d,k,B,q⟩;obtain⟨ks,e1,B⟩:=je B;obtain⟨kd,e2,B⟩:=je B;obtain⟨z,e3,e4⟩:=je B;obtain⟨a,n,ha,hx,F3,rs⟩:=LL k e1
   cases j:bW kd with
   |none=>simp_all
   |some J=>
    rw[j]at e4;cases e4;refine⟨.ref a,ha,.inr (.inr (.inl ⟨rfl,.inr ⟨n,hx⟩⟩)),G,H0,u,kd,k,e2,λy H1 E r1 f=>⟨G,H0,u,z,k.aB E,e3,λw H2 I r2 f=>?_⟩⟩;obtain⟨b,rfl,hb⟩:=xj (r1.aS Lv.bA) j;refine⟨a,b,n,J,w,rfl,rfl,(hx.aB E).aB I,hb.keep λc ys z=>I _ _ z,?_⟩;rw[<-F3]at q
    cases e:cK (n.map (·.1)) ks.2 J with
    |some d0=>
     rw[e]at q;obtain⟨v,L,N⟩:=QG J ((rs.aB E).aB I) e;rw[L];exact q v H2 (E.trans I) N trivial
    |none=>
     rw[e]at q;rw[Yy J rs e]
     exact q w H2 (E.trans I) r2 trivial)
end
section
variable{Y:L2.St}
noncomputable def tY:HO->Bool
 |.al _|.dT _=>af
 |_=>ag
def lk:HO->Prop
 |.bQ _ u|u=>tY u=af
def aK.re(I:aK X d Y H s)(e:∀b,g b=H b\/(FK X b/\∃u i,H b=ae u/\g b=ae i/\lk u/\bC X.P X.w H s.heap b i)):aK X d Y g s:=by
 have j:∀b,H b=ah->g b=ah:=by grind
 have r:∀c b,H c=ae (.aG b)->g c=ae (.aG b):=λc b q=>by
   rcases e c with h|⟨_,u,_,h,_,k,_⟩
   .simp_all
   .rw[q]at h;cases h;cases k
 have m:∀c a,H c=ae (.ap a)->g c=ae (.ap a):=λc a q=>by
   rcases e c with h|⟨_,u,_,h,_,k,_⟩
   .simp_all
   .rw[q]at h;cases h;cases k
 refine⟨I.ok,I.os,I.bare,⟨I.aj.keep,I.aj.slot,λb o q n x=>j b (I.aj.free b o q n x),I.aj.there,λb a q=>m b a (I.aj.ee b a q),λb o v q=>?_,λb w q=>?_⟩,I.loc,I.cell,j _ I.free,λx c q=>j _ (I.cO x c q),λp y=>?_,λb v q=>?_,I.len⟩
 .rcases e b with h|⟨l,_⟩
  .rw[h];exact I.aj.eQ b o v q
  .exact(l.2.1 _ _ q).elim
 .rcases e b with h|⟨l,_⟩
  .rw[h];exact I.aj.fg b w q
  .exact(l.2.2 _ q).elim
 .obtain⟨B,E,J⟩:=I.pin p y
  simp_all
 .rcases e b with h|⟨_,u,i,_,h,_,ok⟩
  .rw[h]at q;exact(I.be b v q).bq (λf f f z=>z) (λc z=>r c _ z) m
  .rw[h]at q;cases q;exact ok.bq (λf f f z=>z) (λc z=>r c _ z) m
def ny(h:Heap)(c:ar)(u:HO):HO:=match tY u,h.get? c with
 |true,ae o=>.bQ o u
 |_,_=>u
def iU(a H:Hp)(h:Heap):Hp:=λc=>match a c with
 |some u=>ae u
 |none=>(H c).map (ny h c)
def Uk:aA a (iU a H h):=λb u e=>by delta iU;rw[e]
def jlJ(e:a b=ah)(q:H b=ae u)(n:tY u=ag):iU a H h b=ae u:=by
 delta iU;rw[e,q]
 show ae (ny h b u)=ae u
 delta ny;rw[n]
def uw(I:aK X a Y H s)(q:H b=ae u)(n:tY u=af):∃o,s.heap.get? b=ae o:=by
 have ok:=I.be b u q
 cases u with
 |al d=>obtain⟨_,_,_,_,e⟩:=ok;exact⟨_,e⟩
 |dT c=>obtain⟨_,_,_,_,_,_,_,e,_⟩:=ok;exact⟨_,e⟩
 |_=>exact CN n
def Kc(I:aK X a Y H s)(q:H b=ae u)(n:tY u=af):FK X b:=by
 refine⟨λc z=>?_,λo v z=>?_,λd z=>?_⟩
 .rw[I.aj.ee _ _ z]at q;cases q;cases n
 .rw[I.aj.eQ _ _ _ z]at q;cases q;cases n
 .obtain⟨m,e⟩:=I.aj.fg _ _ z;rw[e]at q;cases q;cases n
def jlK(I:aK X a Y H s)(e:c b=ah)(q:H b=ae u)(n:tY u=af:=by rfl):∃o,iU c H s.heap b=ae (.bQ o u):=by
 obtain⟨o,d⟩:=uw I q n;exact⟨o,by delta iU;rw[e,q];show ae (ny _ b u)=_;delta ny;rw[n,d]⟩
end
def tRe(X:Cx)(t:TS):TS:=λE c H=>∀a s,aK X a c H s->∃d,aK X a c d s/\t E c d
def eh.re{st}(h:eh X st t):eh X st (tRe X t):=λa s c H D I q=>let ⟨d,e,g⟩:=q a s I;h a s c d D e g
section
noncomputable def F5:Sl->aw D:=λx=>.ok (.bV [] [])
def uh:PE X (.Dict [] [] c) (λx H Q=>∀p o,H p=ah->Q (.ref p) (aQ H p (.bQ o (.dT [])))):=λa s d H Q I h=>
 wpAny_Dict_empty ⟨.ref s.heap.objs.size,_,I.laid (o:=.bQ {cls:=.type "dict",data:=.dict #[]} (.dT [])) (λx x q=>cc _ q) (bz _) ⟨dA _ aa,uY s.heap I.big⟩,rfl,h _ _ (I.be.fresh (bz _))⟩
def jeh:DE X .s (.Dict [] [] a) F5:=by
 nomatch (PE.imp uh<|by
  rintro h H Q ⟨G,i,c,d,k,e,q⟩;cases e
  exactλp o g=>q _ _ (aA.aQ g) (.bV ⟨o,jv⟩ aa aa .nil) trivial)
def Vy(h:qh (env.set i (.ai d)) g c):qh env g c:=by
 obtain⟨j,e,a,l⟩:=h
 by_cases z:i=j
 .subst z;obtain⟨q,_⟩:=jy a;cases q
 .rw[ju z]at a;exact⟨j,e,a,l⟩
def aH.hold(k:aH E G L env g H)(u:env[i]?=ae (.aG d0))(r:g[i]?=ae (ae (.ref a)))(N:H a=ae O)(Q:oh (ae O))
   (rep:∀(I)(y),fQ (Sf G env g) H y->y a=ae o'->(∀b,Sf G env g b->I b)->aV E I y (.ref a) d'):aH E G L (env.set i (.ai d')) g (aQ H a o')/\bN env g H (env.set i (.ai d')) g (aQ H a o'):=by
 have J:qh env g a:=⟨i,_,u,r⟩
 have st:fQ (Sf G env g) H (aQ H a o'):=λc o e m=>by
   rw[jz ?_]
   .exact e
   .rintro rfl;rw[N]at e;cases e;exact(m Q).1 J
 have w:∀c,Sf G env g c->Sf G (env.set i (.ai d')) g c:=λc n=>⟨λo=>n.1 (Vy o),n.2⟩
 have d:∀{j:Nat}{l:D},(env.set i (.ai d'))[j]?=ae (.aG l)->i≠j/\env[j]?=ae (.aG l):=λ{j l} q=>by
   by_cases z:i=j
   .subst z;obtain⟨q,_⟩:=jy q;cases q
   .rw[ju z]at q;exact⟨z,q⟩
 refine⟨⟨by simp[k.len],λc o e=>?_,k.g0,λj l h=>?_,λj l h=>?_,λj U l d2 b Y q2 q3 q4=>k.mZ j U _ _ b (d Y).2 (d q2).2 q3 q4⟩,⟨λc o e n=>?_,λc o=>.inl (Vy o),λc e=>?_⟩⟩
 .have p:c≠a:=by
    rintro rfl;obtain⟨b,h1,B,_⟩:=k.aG i _ u;rw[r]at h1;cases h1;rw[B]at e;cases e
  rw[jz p];exact k.aj c o e
 .by_cases z:i=j
  .subst z;obtain⟨q,_⟩:=jy h;cases q;exact⟨_,r,rep _ _ st jv w⟩
  .rw[ju z]at h;obtain⟨v,h1,h2⟩:=k.ai j l h;exact⟨v,h1,h2.bq st w⟩
 .obtain⟨z,h⟩:=d h;obtain⟨b,h1,B,h2⟩:=k.aG j l h
  have hb:b≠a:=by
    rintro rfl;exact z (k.mZ i j _ _ b u h r h1)
  exact⟨b,h1,B,h2.bq st w λo e=>by rw[jz hb];exact e⟩
 .have p:c≠a:=by
    rintro rfl;exact n J
  rw[jz p];exact e
 .by_cases p:c=a
  .subst p;rw[jv]at e;cases e
  .rw[jz p]at e;exact e
noncomputable def BV(i:Nat)(g:TZ):Sl->aw br:=λa=>match a[i]? with
 |some (.aG (.bw c d))=>g (a.set i (.ai (.bV c d)))
 |_=>.am
set_option tactic.hygienic true in
theorem Z6{st}(i)(h:h9 X st g):h9 X st (BV i g):=by
 nomatch (eh.imp (eh.re h) λE L H ⟨G,v,n,o,k,l,q⟩=>λr s I=>by
  delta BV at l
  rcases m:n[i]? with _|_|d|_<;>rw[m]at l<;>(try cases d)<;>try exact dD l
  .obtain⟨a,y,u,j,p,B⟩:=WB k m;obtain⟨ob,J⟩:=uw I j aa;have W:=k.hold m u j trivial λN O st e w=>.bV ⟨ob,e⟩ p aa ((B.bq st λc z=>z).aS λc z=>⟨w c z,X8 k m u c z⟩)
   refine⟨_,aK.re I λb=>?_,G,v,_,o,W.1,l,Js W.2 q⟩
   by_cases z:b=a
   .subst z;exact .inr ⟨Kc I j aa,_,_,j,jv,rfl,J,I.be b _ j⟩
   .exact .inl (jz z))
end
def tIX(h:bK)(f:Sl->aw (List D×Sl)):TI:=λd H R=>∃G j c l a,aH h G j c d H/\f c=.ok (l,a)/\
 ∀J e P,aH h G j a d e->bN c d H a d e->Fd h (Sf G a d) e J l P->P e->(∀g i m,bN a d e g i m->P m)->R J e
@[irreducible] def P0 (X:Cx) (a e:Expr) (f:Sl->aw (List D×Sl)):Prop:=PI X a e (tIX X.K f)
def LN(f:Sl->aw (List D×Sl))(t:TW)(g:TZ):Sl->aw br:=λa=>f a>>=λp=>bu (qu t g) p.1 p.2
section
def jgz(Q:vF (bj X) X.A X.V X.xe)(hc:X.bU=af)(hi:P0 X tg e fi)(hg:DG X tg t)(hb:h9 X B g)
   (hs:∀x,so e X.V x=pure x:=by intro _;rfl):DS X (.For tg e B [] pos) (LN fi t g):=by
 nomatch (
  PS.imp (vW Q hc hi hg hb hs)<|by
   rintro E σ H ⟨G,I,env,o,k,ef,q⟩;obtain⟨⟨h,l5⟩,e1,e2⟩:=je ef;refine⟨G,I,env,h,l5,k,e1,λJ H1 P k1 fr0 wk p0 sD=>?_⟩;have q1:=Js fr0 q;refine⟨λi m j u=>m=ao h-i/\i<=ao h/\∃c,aH X.K G I c j u/\bN l5 σ H1 c j u/\bu (qu t g) (h.drop i) c=.ok o,⟨ao h,by simp,fH _,l5,k1,bN.refl (aA.refl H1),by simpa using e2⟩,?_⟩;rintro i m j u ⟨rfl,hi,c,k',L,U⟩;obtain⟨w1,w2,w3⟩:=wk i u (sD c j u L)
   by_cases N:i<ao h
   .refine .inr ⟨w1 N,?_⟩;rw[CS N]at U;obtain⟨o1,e3,Y⟩:=je U;obtain⟨r,e5,e6⟩:=je e3;refine⟨λd v=>ao h-(i+1)=ao h-(i+1)/\i+1<=ao h/\∃a,aH X.K G I a d v/\bN l5 σ H1 a d v/\bu (qu t g) (h.drop (i+1)) a=.ok o,λd v z=>⟨ao h-(i+1),by omega,z⟩,λx v y=>?_⟩
    obtain⟨O,rd⟩:aA u v/\aV X.K (Sf G c j) v x h[i]:=by
     rcases w2 _ (cW N) x v y with⟨rfl,rd⟩|⟨p,vs,es,Q,rfl,rfl,ed,rQ⟩
     .exact⟨aA.refl _,L.rep k1 rd⟩
     .refine⟨aA.aQ Q,?_⟩;rw[ed];exact .ap jv ((L.Ah k1 rQ).aB (aA.aQ Q))
    refine⟨G,I,c,h[i],r,k'.aB O,rd,e5,λBy CU CV=>⟨G,I,r,o1,CU,e6,?_⟩⟩;have w:=(L.trans (bN.refl O)).trans CV
    cases o1 with
    |nx a|ct a=>exactλd H3 l n=>⟨rfl,N,a,l,w.trans n,Y⟩
    |bk a=>cases Y;exactλd H3 l n=>q1 d H3 l (w.trans n)
    |rt fr dd=>cases Y;exact q1
   .have he:i=ao h:=by omega
    refine .inl ⟨w3 ak,?_⟩;rw[CW ak]at U;cases U
    exact q1 j u k' L)
end
def Ym(i j:Nat):Sl->aw (List D×Sl):=λa=>eH j a>>=λc=>match c.getLast? with
 |some e=>qs i (a.set j (.aG (.al c.dropLast)))>>=λq=>match bW e with
  |some k=>match(cK q.1 q.2 k).getD (.bV [] [])with
   |.bV d _=>bh (d.all NK.bD=af) (.ok (d.map λk=>.ap (dn k),a.set j (.aG (.al c.dropLast))))
   |_=>.am
  |none=>.am
 |none=>.am
section
def jd8(i j)(hu:X.A.units+20<cLine)(hN:X.N[i]?=ae x:=by rfl)(hvs:gj X.V.scope x:=by exact dC aa)(FZ:X.N[j]?=ae y:=by rfl)(LO:gj X.V.scope y:=by exact dC aa)
   (hd:YG x:=by decide) (pc:YF x:=by decide) (hd2:YG y:=by decide) (LP:YF y:=by decide)
   (L:lL (.Name x p) "get" X.V (eval (.Name x p) X.V)=eval (.Name x p) X.V:=by rfl) (u:lL (.Name y N) "pop" X.V (eval (.Name y N) X.V)=eval (.Name y N) X.V:=by rfl)
   (AX:((fh n (bx [.Call (.Attribute (.Name y N) "pop" g) [] [] h,.Dict [] [] l] X.V)).all (λx=>!x.1)&&(mz n (mB [] X.V)).all (λx=>x.1.isSome)
    &&aD (([.Call (.Attribute (.Name y N) "pop" g) [] [] h,.Dict [] [] l]:List Expr).length+([]:List iy).length+(if([]:List iy).isEmpty then 0 else 1)<30))=af:=by exact xS aa aa)
   (O:(apos.endLine==n.line)=af:=by rfl) (w:(g.endLine==h.line)=af:=by rfl) (hs:bx [.Call (.Attribute (.Name y N) "pop" g) [] [] h,.Dict [] [] l] X.V=(ag,eval (.Call (.Attribute (.Name y N) "pop" g) [] [] h) X.V)::bx [.Dict [] [] l] X.V:=by exact jq aa)
   (B:(fh n (bx [.Dict [] [] l] X.V)).any (·.1)=ag:=by exact jR aa) (D4:bx [.Dict [] [] l] X.V=(ag,eval (.Dict [] [] l) X.V)::bx [] X.V:=by exact jq aa):
   P0 X tg (.Call (.Attribute (.Name x p) "get" apos) [.Call (.Attribute (.Name y N) "pop" g) [] [] h,.Dict [] [] l] [] n) (Ym i j):=by
 nomatch (
  PI.imp (Pf (ku Ec tv LM (ut hu) (zC hN hvs hd pc) (qc (Nz CZ PySem.F.slot_list_pop PySem.F.type_list_pop jlk (zC FZ LO hd2 LP) u w) (qc uh zV D4) hs) L AX O hs B))<|by
   rintro σ H R ⟨G,H0,env,ds,Ee,k,r,q⟩;obtain⟨es,e1,r⟩:=je r;have hj:=yf e1
   cases eg:es.getLast? with
   |none=>simp_all
   |some kd=>
    rw[eg]at r;obtain⟨qq,e2,r⟩:=je r
    cases hk:bW kd with
    |none=>simp_all
    |some kk=>
     rw[hk]at r;dsimp only at r;obtain⟨a,I,ha,hx,rs⟩:=ye k hj;have W:=k.write hj ha hx rs.dropLast;obtain⟨c,E,hc,Q,F3,rv⟩:=LL W.1 e2
     have LK:c≠a:=by
      rintro rfl;rcases Q with z|⟨_,z⟩<;>(rw[jv]at z;cases z)
     have LQ:Rd H c (.dT E):=by
      rcases Q with z|⟨o,z⟩
      .rw[jz LK]at z;exact .inl z
      .rw[jz LK]at z;exact .inr ⟨o,z⟩
     rw[List.getLast?_eq_getElem?]at eg;obtain⟨v,hv',rvk⟩:=rs.get eg;obtain⟨b,rfl,hb⟩:=xj (W.2.rep k rvk) hk;refine⟨.ref c,hc,.inr (.inr (.inl ⟨rfl,.inr ⟨E,LQ⟩⟩)),.ref a,ha,.inl ⟨rfl,I,.of hx⟩,a,I,.ref b,rfl,rfl,hx,by rw[rs.length];exact hv',λp ob hp=>?_⟩;have sm:aA (aQ H a (.al I.dropLast)) (aQ (aQ H a (.al I.dropLast)) p (.bQ ob (.dT []))):=aA.aQ hp;have k2:=W.1.aB sm;refine⟨c,b,E,kk,.ref p,rfl,rfl,Q.aB sm,hb.keep λf f z=>sm _ _ z,?_⟩
     have fin:∀{J:ar}{o:Obj}{d:List (List NK×V)},aQ (aQ H a (.al I.dropLast)) p (.bQ ob (.dT [])) J=ae (.bQ o (.dT d))->bh ((d.map (·.1)).all NK.bD=af) (.ok ((d.map (·.1)).map λk=>D.ap (dn k),env.set j (.aG (.al es.dropLast))))=.ok (ds,Ee)->
        ∃U P1 m,V.ref J=.ref U/\aQ (aQ H a (.al I.dropLast)) p (.bQ ob (.dT [])) U=ae (.bQ P1 (.dT m))/\∀Y:List ar,F2 (λp' k=>TK (aQ (aQ H a (.al I.dropLast)) p (.bQ ob (.dT []))) k p') Y (m.map (·.1))->R (DL U P1 (.dT m) Y) (aQ (aQ H a (.al I.dropLast)) p (.bQ ob (.dT []))):=λ{J o d} ho e3=>by
      obtain⟨LR,e4⟩:=jE e3;cases e4;refine⟨J,o,d,rfl,ho,λY hps=>q (DL J o (.dT d) Y) _ (λH'=>H' J=ae (.bQ o (.dT d))) k2 (W.2.trans (bN.refl sm)) (Walk.toD (Zl hps LR) ?_) ho λenv' Bt H' fr=>fr.keep J _ ho λow=>?_⟩
      .intro i H' hp;have hl:(Y.map V.ref).length=Y.length:=by simp_all
       refine⟨λhi=>⟨hp,by rw[hl]at hi;exact hi⟩,λhi x H2 y=>?_,λhi=>⟨hp,by rw[hl]at hi;exact hi⟩⟩;obtain⟨y1,p,y2,y3⟩:=y
       simp_all
      .exact k2.m3 ow ho
     rw[<-F3]at r
     cases e:cK (E.map (·.1)) qq.2 kk with
     |none=>
      rw[e]at r;rw[Yy kk rv e];exact fin jv r
     |some d0=>
      rw[e]at r;obtain⟨v0,h1,h2⟩:=QG kk rv e;rw[h1]
      cases d0 with
      |bV ks0 vs0=>
        obtain⟨J,d,rfl,⟨o,ho⟩,rfl,_⟩:=h2.f;exact fin (sm _ _ ho) r
      |_=>exact dD r)
end
section
variable{O:fW}{w:World}{A:hJ}{E:Wo}{s:bT}{N:Type}[DecidableEq N]{U:HeapKind O w N}
def jeX{d a}{i}{k}{z}{Q}(u:U.room A)(o:U.is s.heap k a)(J:s.heap.DictOfH U d i)(hz:ao i<=ba)
   (L:∀v,(atKey i k).map (·.2)=ae v->Q v {s with toks:=s.toks+U.draws k})
   (Y:atKey i k=ah->∀q,q.DictOfH U d (storedH i k a z)->iw d s.heap q->Q z {s with heap:=q,toks:=s.toks+U.draws k}):wpAny (aN O w) A (dictSetDefault d (.ref a) z) Q E s:=by
 obtain⟨ob,tb,ep,h,b2,c,n,B,r⟩:=J
 delta dictSetDefault
 try with_reducible refine gk ?_
 refine ax (U.pyHash u o (ax (wpAny_dictFind_heap u o h c n B r (λg=>?_) λj p g=>?_)))
 .have l:=atKey_none_of_get g;have H:=Y l;rw[storedH_new l]at H;refine ax (oF (ax (wpAny_updateDictKeys (hz:=by have e:=size_of_entries n;omega) h c (aP (H _ ⟨_,_,ep+1,sy _ h (Obj.isFreed_of_dict (Obj.data_mapDictKeys c _)),b2.mapDictKeys _,Obj.data_mapDictKeys c _,?_,λx hx=>?_,?_⟩ (rT ..))))))
  .simp[n,entryOfKey]
  .rcases fj.mp hx with hx|hx
   .exact U.keeps (B x hx) h c (rT ..)
   .rw[lQ.mp hx];exact U.keeps o h c (rT ..)
  .have m:=not_mem_keys_of_get g;rw[lP,oI];refine⟨r,by simp,λx hx y I e=>?_⟩;rw[fI,List.map_nil,lQ]at I;subst I;exact m (e▸hx)
 .refine ax (tJ h c ?_);rw[entry_at n j,g];exact ax (oF (aP (L _ (by rw[atKey_of_get r g];rfl))))
def jc2(U:HeapKind O w N)(d a)(z)(r:(d==lJ)=ag):
  MeetsIn O w (mF.«dict.setdefault» ⟨[.ref d,.ref a,z],[]⟩) (λA R s=>U.room A.in1/\∃k c,U.is s.heap k a/\s.heap.DictOfH U d c/\ao c<=ba/\
   (∀v,(atKey c k).map (·.2)=ae v->R (.ok (.ret v)) {s with toks:=s.toks+U.draws k})/\
   (atKey c k=ah->∀g,g.DictOfH U d (storedH c k a z)->iw d s.heap g->R (.ok (.ret z)) {s with heap:=g,toks:=s.toks+U.draws k})):=
 .of_wp<|by
  rintro A R s ⟨i,k,c,j,h,l,o,p⟩;refine ax ?_;refine ax (Fy h.typeIs ?_);refine aP ?_;show wpAny _ _ (if(d==lJ)=af then _ else(dictSetDefault d (.ref a) z>>=_)) _ _ s;rw[if_neg aZ];exact ax (jeX i j h l (λv e=>aP ⟨v,rfl,o v e⟩) λn g m q=>aP ⟨z,rfl,p n g m q⟩)
end
def LS:V->List V->Hp->VK->Prop:=λx d H Q=>∃a b c k z,x=.ref a/\d=[.ref b,z]/\H a=ae (.dT c)/\TK H k b/\ao c<ba/\(∀v,cC c k=ae v->Q v H)/\(cC c k=ah->Q z (aQ H a (.dT (putK c k z))))
def jlj(U:X.A.units+20<cLine):pC X "dict.setdefault" LS:=by
 intro B s σ H x xs v Y Q I rx rs h;obtain⟨a,b,d,k,z,rfl,rfl,l,E,hl,q1,q2⟩:=h;obtain rfl:v=cg a:=rx
 obtain⟨m,j,rfl,r1,J⟩:∃m j,Y=[m,j]/\aR (.ref b) m/\aR z j:=by
   cases rs with
   |cons h1 t=>cases t with|cons o t=>cases t;exact⟨_,_,rfl,h1,o⟩
 cases(r1);obtain⟨hz,L,p,g,dd⟩:=NC I.be l;have r:p.length<=ba:=by rw[<-sg g];exact hz
 refine Ab P2 dd.typeIs PySem.F.entry_dict_setdefault (PySem.F.args_dict_setdefault_3 _ _ _) (jc2 (bH X.P X.w) a b j L) ⟨Wl U,k,p,QK I.be E,dd,r,λw e=>?_,λn h' u hs=>?_⟩
 .obtain⟨y,hy,ry⟩:∃y,cC d k=ae y/\aR y w:=by
   have:=g.val k;rw[e]at this
   cases i:cC d k with
   |none=>rw[i]at this;cases this
   |some y=>rw[i]at this;exact⟨y,rfl,this⟩
  exact⟨y,H,I.tok _,ry,q1 y hy⟩
 .have i:cC d k=ah:=by
   have:=g.val k;rw[n]at this
   cases i:cC d k with
   |none=>rfl
   |some y=>rw[i]at this;cases this
  obtain⟨q,es,ep,N,o,h3,h4,_,h5⟩:=u;have hp:(putK d k z).length<=ba:=by have:=Qo d k z;omega
  have new:bC X.P X.w (aQ H a (.dT (putK d k z))) h' a (.dT (putK d k z)):=⟨hp,L,_,(g.put k E J).keeps λc p O=>(jz (M6 O l bF)).trans O,q,es,ep,N,o,h3,h4,h5⟩
  exact⟨z,_,vv I (by rw[l];exact o9) hs ⟨q,N⟩ new,J,q2 i⟩
abbrev Ks:=List NK
abbrev Row:=Ks×ar×List Ks
noncomputable def nX(l:List Ks):List (Ks×V):=l.map λk=>(k,V.bl af)
noncomputable def dh(R:List Row):List (Ks×V):=R.map λr=>(r.1,V.ref r.2.1)
def gf(s t:Ks)(r:Row):Row:=if r.1=s then(r.1,r.2.1,xx r.2.2 t)else r
structure Bd(H:Hp)(a:ar)(n:Nat)(R:List Row)(H':Hp):Prop where
 old:∀b,H b≠ah->b≠a->H' b=H b
 top:H' a=ae (.dT (dh R))
 row:∀r∈R,H r.2.1=ah/\H' r.2.1=ae (.dT (nX r.2.2))
 nk:(R.map (·.1)).Nodup
 na:(R.map (·.2.1)).Nodup
 len:ao R<=n
 lr:∀r∈R,r.2.2.length<=n
 here:H a≠ah
section
def jic(l)(k):putK (nX l) k (.bl af)=nX (xx l k):=by
 have e:((nX l).any λa=>aD (a.1=k))=dG l k:=by delta nX dG;rw[Ay];rfl
 delta putK xx
 rw[e]
 by_cases h:dG l k=af
 .rw[if_pos h,if_pos h]
  delta nX
  simp_all
 .rw[if_neg h,if_neg h]
  delta nX
  simp_all
theorem P4:∀{R}{v},cC (dh R) s=ae v->∃r∈R,r.1=s/\v=.ref r.2.1
 |r::R,v,h=>by
  by_cases e:r.1=s
  .rw[show dh (r::R)=(r.1,V.ref r.2.1)::dh R from aa,JR e]at h;cases h;exact⟨r,g8,e,rfl⟩
  .rw[show dh (r::R)=(r.1,V.ref r.2.1)::dh R from aa,JS e]at h;obtain⟨q,a,c⟩:=P4 h;exact⟨q,g9 _ a,c⟩
theorem vK:∀{R},cC (dh R) s=ah->∀r∈R,r.1≠s
 |r::R,h,q,a=>by
  by_cases e:r.1=s
  .rw[show dh (r::R)=(r.1,V.ref r.2.1)::dh R from aa,JR e]at h;cases h
  .rw[show dh (r::R)=(r.1,V.ref r.2.1)::dh R from aa,JS e]at h;rcases cM.mp a with z|z
   .subst z;exact e
   .exact vK h q z
def Bd.free(b:Bd H a n R d)(h:d p=ah):H p=ah/\p≠a:=by
 have c:p≠a:=by rintro rfl;rw[b.top]at h;cases h
 refine⟨?_,c⟩
 cases e:H p with
 |none=>rfl
 |some u=>rw[b.old p aZ c,e]at h;cases h
def Bd.lay(b:Bd H a n R d)(h:d p=ah):Bd H a n R (aQ d p (.dT [])):=by
 have ne:∀{c:ar}{u:HO},d c=ae u->c≠p:=by grind
 refine⟨λc g i=>?_,by rw[jz (ne b.top)];exact b.top,λr hr=>⟨(b.row r hr).1,by rw[jz (ne (b.row r hr).2)];exact(b.row r hr).2⟩,b.nk,b.na,b.len,b.lr,b.here⟩
 have e:c≠p:=by
  rintro rfl;exact g (b.free h).1
 rw[jz e];exact b.old c g i
def Bd.new(b:Bd H a n R i)(h:i p=ah)(m:∀r∈R,r.1≠s):Bd H a (n+1) (R++[(s,p,[])]) (aQ (aQ i p (.dT [])) a (.dT (putK (dh R) s (.ref p)))):=by
 have j:=b.lay h;have o:=(b.free h).2
 have q:putK (dh R) s (.ref p)=dh (R++[(s,p,[])]):=by
   have e:((dh R).any λu=>aD (u.1=s))=ag:=Hh.mpr λx g=>by
     obtain⟨r,hr,rfl⟩:=dz.mp g;simpa using m r hr
   delta putK
   rw[e,if_neg Af]
   delta dh
   simp_all
 have d:∀r∈R,r.2.1≠p/\r.2.1≠a:=λr hr=>by
   refine⟨λz=>?_,λz=>?_⟩
   .have:=(b.row r hr).2
    simp_all
   .exact b.here (z▸(b.row r hr).1)
 rw[q];refine⟨λc v l=>by rw[jz l];exact j.old c v l,jv,λr hr=>?_,?_,?_,by rw[lh];have:=b.len;simp;omega,λr hr=>?_,b.here⟩
 .rcases fj.mp hr with z|z
  .rw[jz (d r z).2];exact j.row r z
  .rw[lQ.mp z];exact⟨(b.free h).1,by rw[jz o];exact jv⟩
 .rw[lP,oI];refine⟨b.nk,by simp,λx g y w e=>?_⟩
  grind
 .rw[lP,oI];refine⟨b.na,by simp,λx g y w e=>?_⟩
  grind
 .rcases fj.mp hr with z|z
  .have:=b.lr r z;omega
  .simp_all
def Bd.mono(b:Bd H a n R c)(h:n<=m):Bd H a m R c:=⟨b.old,b.top,b.row,b.nk,b.na,cn b.len h,λr hr=>cn (b.lr r hr) h,b.here⟩
def jcn(l:List Ks)(k:Ks):(xx l k).length<=ao l+1:=by
 delta xx
 grind
def Bd.put(b : Bd H a n R v)(h1 : n <= m)(h2 :∀ r ∈ R, r.2.2.length < m)(hr : r ∈ R)(w : r.1 = s): Bd H a m (R.map (gf s t)) (aQ v r.2.1 (.dT (nX (xx r.2.2 t)))) := by
  have y : a ≠ r.2.1 := λz => b.here (z ▸ (b.row r hr).1)
  have B :∀ q : Row, (gf s t q).1 = q.1 /\ (gf s t q).2.1 = q.2.1 := λq => by delta gf; split <;> exact⟨rfl, rfl⟩
  have same :∀ q ∈ R, q.2.1 = r.2.1 -> q = r := λq g e => by
    obtain⟨i, l, rfl⟩ := F6 g
    obtain⟨j, o, rfl⟩ := F6 hr
    have := (List.getElem?_inj aZ b.na).mp (show(R.map (·.2.1))[i]? = (R.map (·.2.1))[j]? by
      rw[hU, hU, cW l, cW o]
      exact congrArg ae e)
    simp_all
  have p :∀ q ∈ R, q.1 = s -> q = r := λq g e => by
    obtain⟨i, l, rfl⟩ := F6 g
    obtain⟨j, o, rfl⟩ := F6 hr
    have := (List.getElem?_inj aZ b.nk).mp (show(R.map (·.1))[i]? = (R.map (·.1))[j]? by
      rw[hU, hU, cW l, cW o]
      exact congrArg ae (e.trans w.symm))
    simp_all
  have mk : (R.map (gf s t)).map (·.1) = R.map (·.1) := by simp_all
  have E : (R.map (gf s t)).map (·.2.1) = R.map (·.2.1) := by simp_all
  refine⟨λc u I => ?_, ?_, λq g => ?_, by rw[mk]; exact b.nk, by rw[E]; exact b.na, by rw[cX]; have := b.len; omega, λq g => ?_, b.here⟩
  .have : c ≠ r.2.1 := λz => u (z ▸ (b.row r hr).1)
   rw[jz this]
   exact b.old c u I
  .rw[jz y, b.top]
   refine congrArg (λz => ae (HO.dT z)) ?_
   delta dh
   simp_all
  .obtain⟨d, h, rfl⟩ := dz.mp g
   rw[(B d).2]
   refine⟨(b.row d h).1, ?_⟩
   by_cases e : d.2.1 = r.2.1
   .have := same d h e
    subst this
    rw[jv]
    delta gf
    simp_all
   .rw[jz e, (b.row d h).2]
    delta gf
    grind
  .obtain⟨d, h, rfl⟩ := dz.mp g
   have := h2 d h
   delta gf
   split
   .have := jcn d.2.2 t
    grind
   .omega
end
abbrev Rw:=Ks×List Ks
def mf(a:List Rw)(s t:Ks):List Rw:=(if a.any (λr=>aD (r.1=s))=af then a else a++[(s,[])]).map λr=>if r.1=s then(r.1,xx r.2 t)else r
noncomputable def fM:LD->List Rw->Option (List Rw)
 |[],a=>ae a
 |.ap [x,y]::c,a=>match bW x,bW y with
  |some s,ae t=>fM c (mf a s t)
  |_,_=>ah
 |_,_=>ah
noncomputable def fw(R:List Row):List Rw:=R.map λr=>(r.1,r.2.2)
def jfD(R:List Row):fw (R.map (gf s t))=(fw R).map λr=>if r.1=s then(r.1,xx r.2 t)else r:=by
 delta fw
 rw[dF,dF];refine AA λq x=>?_
 show((gf s t q).1,(gf s t q).2.2)=if q.1=s then(q.1,xx q.2.2 t)else(q.1,q.2.2)
 delta gf
 split<;>rfl
def aH.sig{i g:L2.St}(k:aH p G r env i H)(hl:ao g=ao i)(hg:∀(q:Nat)(w),env[q]?=ae w->w≠ .un->g[q]?=i[q]?):aH p G r env g H/\bN env i H env g H:=by
 have l:∀c,qh env g c->qh env i c:=by rintro c ⟨q,d,h1,h2⟩;exact⟨q,d,h1,by rw[<-hg q _ h1 bF];exact h2⟩
 have w:∀c,Sf G env i c->Sf G env g c:=λc z=>⟨λo=>z.1 (l c o),z.2⟩
 refine⟨⟨by rw[hl];exact k.len,k.aj,k.g0,λq d h=>?_,λq d h=>?_,λq m d u a h1 h2 j n=>?_⟩,λb o e x=>e,λb o=>.inl (l b o),λb e=>e⟩
 .obtain⟨v,h1,h2⟩:=k.ai q d h;exact⟨v,by rw[hg q _ h bF];exact h1,h2.aS w⟩
 .obtain⟨a,h1,h2,j⟩:=k.aG q d h;exact⟨a,by rw[hg q _ h bF];exact h1,h2,j.bq (λx x e x=>e) w λx e=>e⟩
 .rw[hg q _ h1 bF]at j;rw[hg m _ h2 bF]at n;exact k.mZ q m d u a h1 h2 j n
noncomputable def BW(t:List Ks):D:=.bV t (t.map λx=>.bl af)
def mh(a:List Rw):D:=.bV (a.map (·.1)) (a.map λr=>BW r.2)
def qt(i l e h:Nat)(g:TZ):Sl->aw br:=λa=>match a[i]? with
 |some (.aG (.bw [] []))=>bR l a>>=λd=>match d with
  |.al j=>match fM j []with
   |some c=>bh (ao j<=10000/\h<ao a/\e<ao a) (g (((a.set i (.ai (mh c))).set e .un).set h .un))
   |none=>.am
  |_=>.am
 |_=>.am
def jgW(h:qt i l j m g env=.ok o):env[i]?=ae (.aG (.bw [] []))/\∃c a,env[l]?=ae (.ai (.al c))/\fM c []=ae a/\(ao c<=10000/\m<ao env/\j<ao env)/\g (((env.set i (.ai (mh a))).set j .un).set m .un)=.ok o:=by
 delta qt at h
 split at h
 .rename_i e;obtain⟨d,e1,h⟩:=je h
  cases d with
  |al c=>
   dsimp only at h
   cases e2:fM c []with
   |none=>simp_all
   |some a=>
    rw[e2]at h;obtain⟨n,p⟩:=jE h;exact⟨e,c,a,ke e1,e2,n,p⟩
  |_=>exact dD h
 .cases h
theorem je0:∀{R},(∀r∈R,∃o,H r.2.1=ae (.bQ o (.dT (nX r.2.2))))->ay d A H (R.map λr=>V.ref r.2.1) ((fw R).map λr=>BW r.2):=
 @(
  bv (λx=>.nil) λr R c h=>by
  obtain⟨o,e⟩:=h r g8;refine .cons (.bV ⟨o,e⟩ (by delta nX;rw[dF];exact List.map_id _) aa ?_) (c λq g=>h q (g9 _ g))
  have:∀(A:Wp) l,ay d A H ((nX l).map (·.2)) (l.map λx=>D.bl af):=λA l=>by
   induction l with
   |nil=>exact .nil
   |cons a l i=>exact .cons (.bl af) i
  simp_all)
section
variable{Q:L2.St}{a:Nat}
def Bd.close(b:Bd H a n R v)(I:aK X j Q v s)(k:aH X.K G N env g H)(J:env[i]?=ae (.aG (.bw [] [])))(L:g[i]?=ae (ae (.ref a)))(hl:ao Q=ao g)(hg:∀q,q≠y->q≠m->Q[q]?=g[q]?):
   ∃d,aK X j Q d s/\aH X.K G N (((env.set i (.ai (mh (fw R)))).set y .un).set m .un) Q d/\bN env g H (((env.set i (.ai (mh (fw R)))).set y .un).set m .un) Q d:=by
 obtain⟨ob,B⟩:=uw I b.top aa;obtain⟨a',O,e1,U,_,_⟩:=WB k J;rw[L]at e1;cases e1;have sm:aA H (iU H v s.heap):=Uk;have p:∀r∈R,∃o,iU H v s.heap r.2.1=ae (.bQ o (.dT (nX r.2.2))):=λr hr=>jlK I (b.row r hr).1 (b.row r hr).2
 have W:=(k.aB sm).hold (o':=.bQ ob (.dT (dh R))) (d':=mh (fw R)) J L (sm _ _ U) trivial λA' d st e w=>by
   refine .bV ⟨ob,e⟩ (by delta dh fw;rw[dF,dF];rfl) (by delta dh;rw[dF];rfl) (je0 λr hr=>?_);obtain⟨o,h⟩:=p r hr;exact⟨o,st _ _ h λz=>z.elim⟩
 have Y:=(W.1.drop (i:=y)).drop (i:=m);have E:∀{l:Sl}{c:ar},qh ((l.set y .un).set m .un) g c->qh l g c:=λh=>YT (YT h)
 obtain⟨k4,f4⟩:=Y.sig hl λq w hw nw=>by
   refine hg q ?_ ?_
   .rintro rfl
    by_cases z:m=q
    .subst z;obtain⟨e,_⟩:=jy hw;exact nw e
    .rw[ju z]at hw;obtain⟨e,_⟩:=jy hw;exact nw e
   .rintro rfl;obtain⟨e,_⟩:=jy hw;exact nw e
 refine⟨_,aK.re I λc=>?_,k4,((bN.refl sm).trans W.2).trans (bN.trans ⟨λx x e x=>e,λc z=>.inl (E z),λx e=>e⟩ f4)⟩
 by_cases z:c=a
 .subst z;exact .inr ⟨Kc I b.top aa,_,_,b.top,jv,rfl,B,I.be c _ b.top⟩
 .rw[jz z]
  cases e:H c with
  |some u=>exact .inl (by rw[Uk c u e,b.old c (by rw[e];exactλz=>nomatch z) z,e])
  |none=>
    cases q:v c with
    |none=>exact .inl (by delta M.iU;rw[e,q];rfl)
    |some u=>
      cases n:tY u with
      |true=>
       obtain⟨o,B⟩:=uw I q n;exact .inr ⟨Kc I q n,_,.bQ o u,rfl,by delta M.iU;rw[e,q];show ae (ny _ c u)=_;delta ny;rw[n,B],(by cases u<;>first|exact n|cases n),B,I.be c _ q⟩
      |false=>exact .inl (jlJ e q n)
end
set_option tactic.hygienic true in
theorem jeA{c:LD}(h:fM (d::c) a=ae r):∃x y s t,d=.ap [x,y]/\bW x=ae s/\bW y=ae t/\fM c (mf a s t)=ae r:=by
 rcases d with _|_|_|_|l|_|_|_|_|_|_|_|_|_|_<;>try exact rO h
 rcases l with _|⟨x,l⟩<;>try exact rO h
 rcases l with _|⟨y,l⟩<;>try exact rO h
 rcases l with _|⟨z,l⟩<;>try exact rO h
 have h:(match bW x,bW y with
   |some s,ae t=>fM c (mf a s t)
   |_,_=>ah)=ae r:=h
 split at h
 .rename_i s t e g;exact⟨x,y,s,t,rfl,e,g,h⟩
 .cases h
def uq(R)(s):(fw R).any (λr=>aD (r.1=s))=R.any λr=>aD (r.1=s):=by
 delta fw;rw[Ay];rfl
theorem vJ:∀{R}{r},(R.map (·.1)).Nodup->r∈R->cC (dh R) r.1=ae (.ref r.2.1)
 |q::R,r,nd,h=>by
  rw[fI,rJ]at nd;show cC ((q.1,V.ref q.2.1)::dh R) r.1=_;rcases cM.mp h with rfl|z
  .exact JR aa
  .rw[JS (λe=>nd.1 (by show q.1∈_;rw[show q.1=r.1 from e];exact List.mem_map_of_mem z))];exact vJ nd.2 z
section
variable{g2:TZ}{rest:List Stmt}
def jjz(i l O Q)(hu:X.A.units+20<cLine)(hp:vF (bj X) X.A X.V X.xe)(BU:X.bU=af)(hN:X.N.Nodup)(h2:h9 X rest g2)(n1:O≠i:=by decide)(n2:Q≠i:=by decide)(n3:O≠Q:=by decide)
   (P5:X.N[i]?=ae x:=by rfl) (P6:gj X.V.scope x:=by exact dC aa) (hNl:X.N[l]?=ae y:=by rfl) (hvl:gj X.V.scope y:=by exact dC aa)
   (hi:X.N[O]?=ae g:=by rfl) (hx:Loc X.V.scope g:=by exact l6 aa) (P7:gj X.V.scope g:=by exact dC aa)
   (hf:Vk X g:=by first|exact .inl aa|exact .inr aa|assumption)
   (hj:X.N[Q]?=ae U:=by rfl) (hxb:Loc X.V.scope U:=by exact l6 aa) (hvb:gj X.V.scope U:=by exact dC aa)
   (hfb:Vk X U:=by first|exact .inl aa|exact .inr aa|assumption)
   (hs:(i4 [.Name g pa,.Name U pb] X.V).map (·.2)=oo (.Name g pa) X.V::(i4 [.Name U pb] X.V).map (·.2):=by rfl)
   (D4:(i4 [.Name U pb] X.V).map (·.2)=oo (.Name U pb) X.V::(i4 [] X.V).map (·.2):=by rfl)
   (hn2:(i4 [.Name g pa,.Name U pb] X.V).length=2:=by rfl) (BL:(i4 [.Name g pa,.Name U pb] X.V).findIdx? (·.1)=ah:=by rfl)
   (hd:YG x:=by decide) (pc:YF x:=by decide) (LC:YG y:=by decide) (LU:YF y:=by decide)
   (P8:YG g:=by decide) (Ef:YF g:=by decide) (IR:YG U:=by decide) (LV:YF U:=by decide)
   (Eg:∀z,so (.Name y p) X.V z=pure z:=by intro _;rfl)
   (Eh:lL (.Name x p1) "setdefault" X.V (eval (.Name x p1) X.V)=eval (.Name x p1) X.V:=by rfl)
   (AX:((fh n (bx [.Name g p2,.Dict [] [] dp] X.V)).all (λx=>!x.1)&&(mz n (mB [] X.V)).all (λx=>x.1.isSome)
     &&aD (([.Name g p2,.Dict [] [] dp]:List Expr).length+([]:List iy).length+(if([]:List iy).isEmpty then 0 else 1)<30))=af:=by exact xS aa aa)
   (Ei:(apos.endLine==n.line)=af:=by rfl)
   (Ej:bx [.Name g p2,.Dict [] [] dp] X.V=(ag,eval (.Name g p2) X.V)::bx [.Dict [] [] dp] X.V:=by exact jq aa) (E3:(fh n (bx [.Dict [] [] dp] X.V)).any (·.1)=ag:=by exact jR aa)
   (LW:bx [.Dict [] [] dp] X.V=(ag,eval (.Dict [] [] dp) X.V)::bx [] X.V:=by exact jq aa)
   (C7:kw (.Call (.Attribute (.Name x p1) "setdefault" apos) [.Name g p2,.Dict [] [] dp] [] n) ah LX.line X.V=pure ag:=by rfl)
   (hsl:Aa (.Name g p4):=by intro _ _;rfl)
   (LY:kw (.Constant (.bool af) kc tp) (ae (.Subscript (.Subscript (.Name x p3) (.Name g p4) sp) (.Name U p5) sp2)) LZ.line X.V=pure ag:=by rfl):
   h9 X (.For (.Tuple [.Name g pa,.Name U pb] kx pZ) (.Name y p) [.Expr (.Call (.Attribute (.Name x p1) "setdefault" apos) [.Name g p2,.Dict [] [] dp] [] n) LX,
     .Assign [.Subscript (.Subscript (.Name x p3) (.Name g p4) sp) (.Name U p5) sp2] (.Constant (.bool af) kc tp) LZ] [] pos::rest) (qt i l O Q g2):=by
 have hz:20000<ba:=by rw[my];decide
 nomatch (
  eh.imp (y7 (vW hp BU (Xr (zC hNl hvl LC LU)) (Nd BU (ZX (kq hN hi hx hf) (ZX (kq hN hj hxb hfb) Nc D4) hs) hn2 BL)
   (y7 (Zg (ku Ec P2 PySem.F.type_dict_setdefault (jlj hu) (zC P5 P6 hd pc) (qc (zC hi P7 P8 Ef) (qc ug zV LW) Ej) Eh AX Ei Ej E3) C7)
     (y7 (kj hu (jio hu (zC P5 P6 hd pc) (zC hi P7 P8 Ef) hsl) (zC hj hvb IR LV) M9 LY) ki)) Eg) (eh.re h2))<|by
   rintro E σ H ⟨G,H0,env,o,k,ef,qp⟩;obtain⟨P9,ds,Y,Qb,hb0,⟨hlen,L0,L1⟩,e2⟩:=jgW ef;obtain⟨a,L3,ha,u,F7,rs0⟩:=WB k P9;obtain⟨vl,L4,rl⟩:=k.ai l _ Qb;obtain⟨la,d,rfl,F8,_,rQ⟩:=rl.dg;have hxl:=rQ.length;have hkn:L3=[]:=by simpa using F7
   subst hkn
   have lna:la≠a:=by
     rintro rfl;rw[F8]at u;cases u
   refine⟨.ref la,L4,la,rfl,⟨d,.of F8⟩,λq m J H'=>m=d.length-q/\q<=d.length/\J.length=σ.length/\(∀z,z≠O->z≠Q->J[z]?=σ[z]?)/\∃R,Bd H a q R H'/\fM (ds.drop q) (fw R)=ae Y,⟨d.length,rfl,fH _,rfl,λb b b=>rfl,[],⟨λb b b=>rfl,u,(λb h=>nomatch h),pD,pD,bz _,(λb h=>nomatch h),by rw[u];exactλz=>nomatch z⟩,hb0⟩,?_⟩;rintro q m J H' ⟨rfl,hq,F9,BX,R,bd,hb⟩
   have L5:∀{c:ar}{ys:List V},H c=ae (.ap ys)->H' c=ae (.ap ys):=λ{c ys} e=>by
     rw[bd.old c (by rw[e];exactλz=>nomatch z) (by rintro rfl;rw[e]at u;cases u)];exact e
   have sq:df X.K H' la d:=.of (by rw[bd.old la (by rw[F8];exactλz=>nomatch z) lna];exact F8)
   by_cases hd:q<d.length
   .have Qg:q<ds.length:=by omega
    rw[CS Qg]at hb;obtain⟨dx,dy,s,t,ed,ks,kt,L⟩:=jeA hb;refine .inr ⟨⟨d,d[q],sq,by simp[hd]⟩,λj H2=>d.length-(q+1)=d.length-(q+1)/\q+1<=d.length/\j.length=σ.length/\(∀z,z≠O->z≠Q->j[z]?=σ[z]?)/\∃R,Bd H a (q+1) R H2/\fM (ds.drop (q+1)) (fw R)=ae Y,λj H2 z=>⟨d.length-(q+1),by omega,z⟩,?_⟩;rintro w H2 ⟨rfl,hw⟩;have hwx:=hw d sq;obtain⟨d',BJ,rw'⟩:=rQ.get' hwx;rw[cW Qg,ed]at BJ;cases BJ;obtain⟨tp,vs,rfl,PM,rvs⟩:=rw'.fK;obtain⟨v1,v2,rfl,r1,r2⟩:=rvs.aq;obtain⟨b1,rfl,eq⟩:=xj r1 ks;obtain⟨b2,rfl,nV⟩:=xj r2 kt;refine⟨tp,_,rfl,.of (L5 PM),rfl,.ref b1,[.ref b2],rfl,.ref b2,[],rfl,rfl,?_⟩
    have gi:((J.set O (ae (.ref b1))).set Q (ae (.ref b2)))[i]?=ae (ae (.ref a)):=by
      rw[ju n2,ju n1,BX i n1.symm n2.symm];exact ha
    have Qh:((J.set O (ae (.ref b1))).set Q (ae (.ref b2)))[O]?=ae (ae (.ref b1)):=by
      rw[ju (gM n3)];exact oj (by rw[F9,k.len];exact L1)
    have gj2:((J.set O (ae (.ref b1))).set Q (ae (.ref b2)))[Q]?=ae (ae (.ref b2)):=oj (by rw[CF,F9,k.len];exact L0);refine⟨.ref a,gi,.inr (.inr (.inl ⟨rfl,.inr ⟨_,.inl bd.top⟩⟩)),.ref b1,Qh,λp QC=>?_⟩;have bl:=bd.lay QC
    have N:∀{H3:Hp}{R3:List Row}{n3:Nat},Bd H a n3 R3 H3->∀{c:ar}{ys:List V},H c=ae (.ap ys)->H3 c=ae (.ap ys):=λ{H3 R3 n3} B {c ys} e=>by
      rw[B.old c (by rw[e];exactλz=>nomatch z) (by rintro rfl;rw[e]at u;cases u)];exact e
    have fin:∀{H3:Hp}{R3:List Row}{r:Row},Bd H a (q+1) R3 H3->r∈R3->r.1=s->(∀r∈R3,r.2.2.length<=q)->fM (ds.drop (q+1)) ((fw R3).map λr=>if r.1=s then(r.1,xx r.2 t)else r)=ae Y->
        NE (ND (sk i) (sk O)) (sk Q) (tC (.bl af)) {E with nx:=λj H2=>d.length-(q+1)=d.length-(q+1)/\q+1<=d.length/\j.length=σ.length/\(∀z,z≠O->z≠Q->j[z]?=σ[z]?)/\∃R,Bd H a (q+1) R H2/\fM (ds.drop (q+1)) (fw R)=ae Y,ct:=λj H2=>d.length-(q+1)=d.length-(q+1)/\q+1<=d.length/\j.length=σ.length/\(∀z,z≠O->z≠Q->j[z]?=σ[z]?)/\∃R,Bd H a (q+1) R H2/\fM (ds.drop (q+1)) (fw R)=ae Y,bk:=E.nx} ((J.set O (ae (.ref b1))).set Q (ae (.ref b2))) H3:=by
      intro H3 R3 r B hr Ek Q5 hb3;have hv:=vJ B.nk hr;rw[Ek]at hv;have g1:gP H3 a (.ref b1) (ae (.ref r.2.1)):=hv▸gP.t B.top (eq.keep λc ys e=>N B e)
      have g2:iI H3 r.2.1 (.ref b2) (.bl af) (aQ H3 r.2.1 (.dT (nX (xx r.2.2 t)))):=by
        rw[<-jic];exact iI.t (B.row r hr).2 (nV.keep λc ys e=>N B e) (by delta nX;rw[cX];have:=Q5 r hr;omega)
      exact⟨.ref a,gi,.ref b1,Qh,a,.ref r.2.1,rfl,g1,.ref b2,gj2,r.2.1,_,rfl,g2,rfl,hd,by rw[CF,CF];exact F9,λz z1 z2=>by rw[ju (gM z2),ju (gM z1)];exact BX z z1 z2,R3.map (gf s t),B.put (bz _) (λr hr=>by have:=Q5 r hr;omega) hr Ek,by rw[jfD];exact hb3⟩
    refine⟨a,b1,dh R,s,.ref p,rfl,rfl,bl.top,eq.keep λc ys e=>N bl e,by delta dh;rw[cX];have:=bd.len;omega,λv hv=>?_,λhv=>?_⟩
    .obtain⟨r,hr,Ek,_⟩:=P4 hv;refine fin (bl.mono (pd q)) hr Ek bl.lr ?_
     delta mf at L
     rw[uq,if_pos (tM.mpr ⟨r,hr,decide_eq_true Ek⟩)]at L;exact L
    .have Q6:=vK hv;refine fin (bd.new QC Q6) (mU _ (lQ.mpr aa)) aa (λr hr=>?_) ?_
     .rcases fj.mp hr with z|z
      .exact bd.lr r z
      .rw[lQ.mp z];exact fH _
     .delta mf at L
      rw[uq,if_neg (by
        rw[Ly,Hh];intro r hr
        simpa using Q6 r hr)]at L
      delta fw at L ⊢
      rw[lP];exact L
   .refine .inl ⟨⟨d,sq,by omega⟩,λpins s I=>?_⟩;rw[CW ak]at hb;have hb:ae (fw R)=ae Y:=hb;cases hb;obtain⟨H'',I'',k'',f''⟩:=bd.close I k P9 ha F9 BX
    exact⟨H'',I'',G,H0,_,o,k'',e2,Js f'' qp⟩)
end
open PySem.SeqAt (EqAt RcAt RcNeAt)
section
def jbB(z:X.bU=af):bG X (.type "list") (λm H Q=>∃a c,m=[.ref a]/\Rd H a (.dT c)/\c.length<=10000/\∀l n,H l=ah->F2 (λp k=>TK H k p) n (c.map (·.1))->Q (.ref l) (aQ H l (.al (n.map V.ref)))):=by
 rintro v s σ H m us Q I r ⟨a,c,B,E,hn,q⟩;subst B;obtain⟨u,rfl,J⟩:=Jw r;cases J;obtain⟨hz,lo,d,w,o,L,N,O,U,Y,he,_⟩:=(Rd.ok E I.be)
 have y:d.length=c.length:=(sg w).symm
 have hV:aW (d.map λq=>V.ref q.2.1) (d.map λq=>cg q.2.1):=by
  have:=Wq (d.map λq=>q.2.1);simpa[dF,tL]using this
 have hD:mI s.heap a (d.map λq=>cg q.2.1) N:=⟨o,L,O,U,Y,by rw[he,dF];rfl⟩
 refine PySem.W.kdl_call (OF lo) (I.ok.hd z) hD aZ λh' tk e c' j hS g=>?_
 have h:e.toList=d.map λq=>cg q.2.1:=by
  apply Ca;intro i;have hl:e.toList.length=(d.map λq=>cg q.2.1).length:=by rw[gW];exact g.1
  by_cases hi:i<e.toList.length
  .rw[cW hi];exact(g.2 i _ aZ).symm
  .simp_all
 have hm:(d.map (·.2.1)).map V.ref=d.map λq=>V.ref q.2.1:=by simp_all
 refine⟨.ref s.heap.objs.size,_,I.laid j (bz _) (show bC X.P X.w _ h' _ (.al ((d.map (·.2.1)).map V.ref)) from⟨by rw[cX,cX,my];omega,e.toList,c',by rw[h,hm];exact hV,by rw[IA];exact hS⟩),rfl,q _ (d.map (·.2.1)) (I.be.fresh (bz _)) (Vx w)⟩
end
section
def XG(d)(j:(d==lJ)=ag):
  MeetsIn a w (mF.«dict.get» ⟨[.ref d,.none],[]⟩) (λA R s=>A.units+1<cLine/\∃i,s.heap.DictOfH (bH a w) d i/\R (.ok (.ret .none)) {s with toks:=s.toks+1}):=
 .of_wp<|by
  rintro A R s ⟨r,i,l,h⟩;show wpAny _ _ (dictGet d .none>>=_) _ _ s;obtain⟨o,u,v,m,_,c,n,g,y⟩:=l;refine ax ?_
  try with_reducible refine gk ?_
  refine ax (VZ (ax (Um (λk b p=>?_) m c n g (aP ?_))))
  .obtain⟨z,q,e,t,_⟩:=cz.mp p.1;cases e;exact EqAt.tuple_none t bg
  .show wpAny _ _ (Builtin.Dict.missed d .none>>=_) _ _ _;exact ax (wpAny_missed_other j (aP ⟨.none,rfl,h⟩))
end
def L6:V->List V->Hp->VK->Prop:=λx d H Q=>∃a c y,x=.ref a/\d=[y]/\Rd H a (.dT c)/\((y=.bo/\Q .bo H)\/∃b k,y=.ref b/\TK H k b/\Q ((cC c k).getD .bo) H)
def jfI(l:X.A.units+20<cLine):pC X "dict.get" L6:=by
 intro e s B H x g v E Q I m n h;obtain⟨a,c,y,rfl,rfl,i,h⟩:=h;obtain rfl:v=cg a:=m;obtain⟨o,rfl,j⟩:=Jw n;rcases h with⟨rfl,q⟩|⟨b,k,rfl,p,q⟩
 .obtain rfl:o=lI:=j;obtain⟨z,r,g,u,dd⟩:=KA I.be i;exact Ab tv dd.typeIs CI (HL _ _) (XG a r) ⟨by show X.A.units+1<cLine;omega,g,dd,.bo,H,I.tok _,rfl,q⟩
 .exact jl6 l I (.inr ⟨c,k,b,i,rfl,p,rfl⟩) j λJ L w d=>⟨_,H,w,d,q⟩
def Ga(a:List Ks)(c:LD):D->aw D
 |.bo=>.ok .bo
 |kd=>match bW kd with
  |some k=>.ok ((cK a c k).getD .bo)
  |none=>.am
def Gb:D->D->aw D
 |.bw a c,d|.bV a c,d=>Ga a c d
 |_,_=>.am
set_option tactic.hygienic true in
theorem jfu(n:aV m A H x a)(o:aV m Any H y b)(h:Gb a b=.ok d)(q:∀v,aV m A H v d->Q v H):L6 x [y] H Q:=by
 have l:∀{p:ar}{g:List (List NK×V)}{i:LD},Rd H p (.dT g)->ay m (λc=>A c/\c≠p) H (g.map (·.2)) i->Ga (g.map (·.1)) i b=.ok d->L6 (.ref p) [y] H Q:=λ{p g i} j r h=>by
  unfold Ga at h
  split at h
  .cases h;exact⟨p,g,y,rfl,rfl,j,.inl ⟨o.pG,q _ .bo⟩⟩
  .split at h
   .rename_i k u;cases h;obtain⟨w,rfl,z⟩:=xj o u;refine⟨p,g,_,rfl,rfl,j,.inr ⟨w,k,rfl,z,?_⟩⟩
    cases e:cK (g.map (·.1)) i k with
    |some E=>
     obtain⟨v,I,J⟩:=QG k r.low e
     simp_all
    |none=>
     rw[e]at q;rw[Yy k r e];exact q _ .bo
   .cases h
 cases a with
 |bw B i=>
  obtain⟨p,g,rfl,j,_,rfl,r⟩:=n.f;exact l (.inl j) r h
 |bV B i=>
  obtain⟨p,g,rfl,j,rfl,r⟩:=n.f;exact l (.inr j) r h
 |_=>exact dD h
section
def jgJ(J:X.A.units+20<cLine)(L:DE X .s n N)(O:DE X l1 e1 U)
   (g:lL n "get" X.V (eval n X.V)=eval n X.V:=by rfl)
   (j:((fh c (bx [e1] X.V)).all (λx=>!x.1)&&(mz c (mB [] X.V)).all (λx=>x.1.isSome)
    &&aD ([e1].length+([]:List iy).length+(if([]:List iy).isEmpty then 0 else 1)<30))=af:=by exact xS aa aa)
   (h:(l.endLine==c.line)=af:=by rfl) (w:bx [e1] X.V=(ag,eval e1 X.V)::bx [] X.V:=by exact jq aa) (e:(fh c (bx [] X.V)).any (·.1)=ag:=by exact jR aa):
   DE X .s (.Call (.Attribute n "get" l) [e1] [] c) (aq N U Gb):=by
 nomatch (
  PE.imp (ku Ec tv LM (jfI J) L (qc O zV w) g j h w e)<|by
   rintro σ H Q ⟨G,z,m,d,k,o,q⟩;obtain⟨a,e1,o⟩:=je o;obtain⟨Y,e2,B⟩:=je o;refine⟨G,z,m,a,k,e1,λx H1 E r b=>⟨?_,G,z,m,Y,k.aB E,e2,λy H2 I r2 b=>jfu (r.aB I) (r2.aS Lv.bA) B λv r3=>q v H2 (E.trans I) r3 trivial⟩⟩
   cases a with
   |bw ks ds=>
    obtain⟨p,i,rfl,u,_⟩:=r.f;exact .inr (.inr (.inl ⟨rfl,.inr ⟨i,.inl u⟩⟩))
   |bV ks ds=>
    obtain⟨p,i,rfl,u,_⟩:=r.f;exact .inr (.inr (.inl ⟨rfl,.inr ⟨i,.inr u⟩⟩))
   |_=>exact dD B)
end
end M
namespace M
open PySem PySem.Spec L2
open PyProof.Rows hiding St
section
def L7(i:Nat):Sl->aw D:=λa=>qs i a>>=λq=>bh (q.1.length<=10000/\q.1.all NK.bD=af) (.ok (.al (q.1.map λk=>.ap (dn k))))
def jee(i)(r:X.bU=af)(u:Gl X "list")(v:X.mg "list" =ah)(w:X.N[i]?=ae x:=by rfl)(y:gj X.V.scope x:=by exact dC aa)(B:YG x:=by decide)
   (g:YF x:=by decide) (m:bx [.Name x n] X.V=(ag,eval (.Name x n) X.V)::bx [] X.V:=by exact jq aa):DE X .t (.Call (.Name "list" p) [.Name x n] [] E) (L7 i):=by
 nomatch (
  PE.imp (yM (jbB r) u v zo (qc (zC w y B g) zV m) au au m (by exact jR aa))<|by
   rintro σ H Q ⟨G,H0,I,d,k,J,q⟩;obtain⟨qq,e1,e2⟩:=je J;obtain⟨⟨h,o⟩,L⟩:=jE e2;cases L;obtain⟨a,j,N,O,U,_⟩:=LL k e1;rw[<-U]at h o q;rw[cX]at h;refine⟨_,N,a,j,rfl,O,h,λl ps e Y=>q _ _ (aA.aQ e) (.al jv (k.new l e) ?_) (qX (aA.refl H) e)⟩
   exact((Zl (A:=λb=>False) Y o).aB (aA.aQ e)).aS λc z=>z.elim)
end
def ZE:List Ks->LD->List D
 |k::a,d::c=>.ap [.ap (dn k),d]::ZE a c
 |_,_=>[]
def jlx:D->aw D
 |.bw a c|.bV a c=>bh (ao a<=10000/\a.all NK.bD=af) (.ok (.al (ZE a c)))
 |_=>.am
def Ra(c:T3):Sl->aw D:=λa=>c a>>=jlx
def qw(h:Heap)(d:ar)(c:List (aJ×aJ))(g:Nat):Prop:=∃o a,h.get? d=ae o/\o.ExactDict/\o.data=.dict a g/\a.toList.map (λe=>(e.key,e.val))=c
noncomputable abbrev nY(x:aJ)(f:Bool)(d:ar)(i n a:Nat)(y z:aJ):Obj:={cls:=.type "dict_itemiterator",dict:=ah,data:=.fields #[x,.bool f,.ref d,.int i 0,.int n 0,.int a 0,y,z],slots:= #[]}
def tZ(h:Heap)(c d S:ar)(i n e:Nat):Prop:=∃x f y z,h.get? c=ae (nY x f d i n e y z)/\(x=.none\/∃(a:ar)(g:Obj),x=lK (a:Int)/\h.get? a=ae g/\a≠c/\a≠S)
section
def qw.at(x:qw h d a g)(k:∀o,h.get? d=ae o->h'.get? d=ae o):qw h' d a g:=let ⟨o,i,e,c⟩:=x;⟨o,i,k o e,c⟩
def tZ.keep(x:tZ h g d S i n l)(k:∀b o,b≠S->h.get? b=ae o->m.get? b=ae o)(p:g≠S):tZ m g d S i n l:=by
 obtain⟨x,f,y,z,e,c⟩:=x;exact⟨x,f,y,z,k _ _ p e,c.imp id<|by rintro⟨a,q,e1,e2,r,j⟩;exact⟨a,q,e1,k _ _ j e2,r,j⟩⟩
def jf5(st:tZ s.heap c d S i (ao m) p)(hS:S<s.heap.objs.size)(hm:qw s.heap d m p)(hx:m[i]?=ae (j,v))
   (hQ:∀Y,tZ Y c d S (i+1) (ao m) p->Y.get? s.heap.objs.size=ae {cls:=.type "tuple",data:=.seq #[j,v]}->Y.objs.size=s.heap.objs.size+1->
    (∀b o,b≠c->s.heap.get? b=ae o->Y.get? b=ae o)->Q (ae (.ref s.heap.objs.size)) {s with heap:=Y}):wpAny (aN prog w) A (pyNext (.ref c)) Q E s:=by
 obtain⟨n,g,U,tk,os⟩:=s;obtain⟨x,f,y,z,u,L8⟩:=st;obtain⟨od,es,Rb,pc,Rc,hpr⟩:=hm;have I:FQ ⟨n,g,U,tk,os⟩ (.ref c) "dict_itemiterator" :=⟨_,u,rfl⟩
 refine ax (BF (tu I El (nK El I F.entry_dict_itemiterator_next ?_ (F.args_dict_itemiterator_next_1 _))));refine ax (aP (ax (ax ?_)))
 first|refine ax (Gd I (aP ?_))|refine ax (Ge I (aP ?_))
 refine ax (BG u aa ?_);show wpAny _ _ (if(cg d==lI)=af then _ else _) _ _ _;refine ax (aP (ax (tJ Rb Rc ?_)));have IK:es.size=ao m:=by grind
 rw[if_neg aZ];refine ax (aP (ax (rS Rb Rc ?_)));rw[if_neg aE];refine aP ?_;have cr:i<es.size:=by grind
 have Rf:es[i].key=j/\es[i].val=v:=by grind
 simp only[show¬(i<0) from by omega,if_false,AD,lH cr];refine ax ?_
 first|refine ax (Gd I (aP ?_))|refine ax (Ge I (aP ?_))
 refine ax (L9 I ?_);show wpAny _ _ (setField (.ref c) 3 (lK (i+1))>>=_) _ _ ⟨n,g,U,tk,os⟩;refine ax (BY u aE λJ e1 b1=>?_)
 replace b1:iw c n J:=b1
 replace e1:J.get? c=ae (nY x f d (i+1) (ao m) p y z):=by
   have e:((i+1:Nat):Int)=i+1:=by omega
   delta nY;rw[e];simpa[lK]using e1
 have L:FQ ⟨J,g,U,tk,os⟩ (.ref c) "dict_itemiterator" :=⟨_,e1,rfl⟩
 refine ax (gk (ax (L9 L (ax (L9 L ?_)))));rw[Rf.1,Rf.2];refine ax (wpAny_newTuple ?_);have e2:(J.push {cls:=.type "tuple",data:=.seq #[j,v]}).get? c=ae (nY x f d (i+1) (ao m) p y z):=cc _ e1;generalize B:J.push {cls:=.type "tuple",data:=.seq #[j,v]}=q at e2;have z1:J.objs.size=n.objs.size:=b1.1;have t2:q.get? n.objs.size=ae {cls:=.type "tuple",data:=.seq #[j,v]}:=by rw[<-B,<-z1];exact dA _ aa
 have z2:q.objs.size=n.objs.size+1:=by rw[<-B,su,z1]
 have k2:∀b o,b≠c->n.get? b=ae o->q.get? b=ae o:=λb o H e=>by rw[<-B];exact cc _ (b1.extBut b o H e)
 show wpAny _ _ (Builtin.Dict_items.ownedTupleIsFree (.ref c)>>=_) _ _ ⟨q,g,U,tk,os⟩;rw[z1];clear B e1 b1 L z1 J;have N:n.objs.size≠c:=oq (b7 u)
 have fin:∀h:Heap,tZ h c d S (i+1) (ao m) p->iw c q h->Q (ae (.ref n.objs.size)) ⟨h,g,U,tk,os⟩:=λh r l=>
   hQ h r (l.extBut _ _ N t2) (by show h.objs.size=n.objs.size+1;rw[l.1,z2]) λb o H e=>l.extBut b o H (k2 b o H e)
 refine ax ?_;rcases L8 with rfl|⟨a,oa,rfl,ha,O,haS⟩
 .refine ax (ox e2 aa aa (aP ?_));refine ax (ox e2 aa aa (ax (ox e2 aa aa ?_)));refine ax (BY e2 aE λh r l=>?_)
  replace l:iw c q h:=l
  replace r:h.get? c=ae (nY .none f d (i+1) (ao m) p j z):=r
  refine ax (BY r aE λh4 e4 b4=>?_)
  replace b4:iw c h h4:=b4
  replace e4:h4.get? c=ae (nY .none f d (i+1) (ao m) p j v):=e4
  refine ax (BY e4 aE λh5 e5 b5=>?_)
  replace b5:iw c h4 h5:=b5
  replace e5:h5.get? c=ae (nY (lK n.objs.size) f d (i+1) (ao m) p j v):=e5
  refine ax (BY e5 aE λh6 e6 b6=>?_)
  replace b6:iw c h5 h6:=b6
  replace e6:h6.get? c=ae (nY (lK n.objs.size) ag d (i+1) (ao m) p j v):=e6
  have sb:iw c q h6:=⟨by rw[b6.1,b5.1,b4.1,l.1],λb H=>(b6.2 b H).trans ((b5.2 b H).trans ((b4.2 b H).trans (l.2 b H)))⟩
  exact ax (wpAny_letGo (aP (aP ⟨_,rfl,aP (fin h6 ⟨_,_,_,_,e6,.inr ⟨_,_,rfl,sb.extBut _ _ N t2,N,oq hS⟩⟩ sb)⟩)))
 .have Rg:q.get? a=ae oa:=k2 a oa O ha;refine ax (ox e2 aa aa ?_);show wpAny _ _ (loadIfAlive ((a:Int).toNat)>>=_) _ _ _;refine ax (PySem.W.kdx_alive Rg ?_);refine ax (ox e2 aa (x:=.bool f) aa ?_);have fin2:∀h:Heap,h.get? c=ae (nY (lK a) af d (i+1) (ao m) p y z)->iw c q h->Q (ae (.ref n.objs.size)) ⟨h,g,U,tk,os⟩:=λh r l=>fin h ⟨_,_,_,_,r,.inr ⟨a,oa,rfl,l.extBut _ _ O Rg,O,haS⟩⟩ l
  cases f with
  |true=>
   refine aP ?_;exact aP (aP ⟨_,rfl,aP (fin2 q e2 (Heap.SameBut.refl _ _))⟩)
  |false=>
   refine ax (BY e2 aE λh r l=>?_)
   replace l:iw c q h:=l
   replace r:h.get? c=ae (nY (lK a) af d (i+1) (ao m) p y z):=r
   refine aP ?_;exact aP (aP ⟨_,rfl,aP (fin2 h r l)⟩)
def jiN(o:A.handled=ah)(st:tZ s.heap h d S i (ao j) p)(q:qw s.heap d j p)(I:ao j<=i)(r:∀l,Heap.ExtBut h s.heap l->Q ah {s with heap:=l}):wpAny (aN m w) A (pyNext (.ref h)) Q E s:=by
 obtain⟨x,f,y,z,a,_⟩:=st;obtain⟨J,n,e,u,g,v⟩:=q;have c:s.TypeIs (.ref h) "dict_itemiterator" :=⟨_,a,rfl⟩
 refine ax (BF (tu c El (nK El c F.entry_dict_itemiterator_next ?_ (F.args_dict_itemiterator_next_1 _))));refine ax (aP (ax (ax ?_)))
 first|refine ax (Gd c (aP ?_))|refine ax (Ge c (aP ?_))
 refine ax (BG a aa ?_);have B:Rh "dict_itemiterator" =af:=by decide
 show wpAny _ _ (if(cg d==lI)=af then _ else _) _ _ s;refine ax (aP (ax (tJ e g ?_)));have H:n.size=ao j:=by grind
 rw[if_neg aZ];refine ax (aP (ax (rS e g ?_)));rw[if_neg aE];refine aP ?_;simp only[show¬(i<0) from by omega,if_false,AD,Array.getElem?_eq_none (show n.size<=i by omega)];refine ax ?_
 first|refine ax (Gd c (aP ?_))|refine ax (Ge c (aP ?_))
 show wpAny _ _ (setField (.ref h) 2 .none>>=_) _ _ s;refine ax (Dt a aa aE ?_);refine ax ?_;refine ax (nM ?_ (by size_fits));refine ax (wpAny_of_eq (by first|rfl|(simp;rfl)) ?_);refine nM ?_ (by size_fits);refine ax (wpAny_handled ?_);rw[show A.in1.handled=ah from o];refine ax (aP (wpAny_throw ?_));refine ax (Cc ⟨_,dA _ aa,rfl⟩ isSubtype_stop ?_);exact aP (r _ (((rT ..).extBut.push _).push _))
end
noncomputable abbrev Em(r:aJ×aJ):Obj:={cls:=.type "tuple",data:=.seq #[r.1,r.2]}
section
variable{U:fW}{w:World}{A:hJ}{s:bT}{R:Result->bT->Prop}{Y:List (aJ×aJ)}{O d:ar}
def F2.sQ{R S}{c:List g}{bs:List i}(f:F2 R c bs):(∀a b,a∈c->R a b->S a b)->F2 S c bs:=by
 induction f with
 |nil=>exactλx=>.nil
 |cons h _ e=>exactλk=>.cons (k _ _ (.head _) h) (e λa b m=>k a b (.tail _ m))
def F2.mem{R}{c}{bs:List e}(f:F2 R c bs){a:g}:a∈c->∃b,R a b:=by
 induction f with
 |nil=>simp_all
 |cons h _ i=>grind
def F2.snoc{R}{c}{bs}{a:g}{b:i}(f:F2 R c bs)(h:R a b):F2 R (c++[a]) (bs++[b]):=by
 induction f with
 |nil=>exact .cons h .nil
 |cons z _ e=>exact .cons z e
structure nZ(h:Heap)(I:ar)(as:List ar)(Y:List (aJ×aJ)):Prop where
 rise:as.Pairwise (· < ·)
 above:∀a∈as,I<a/\a<h.objs.size
 here:F2 (λa r=>h.get? a=ae (Em r)) as Y
def jiP(hh:A.handled=ah)(r:S<I)(N:d≠S)(Q:d≠I)(hn:ao Y<=ba){E:Heap}
  (hR:∀n tk g c p,(∀b o,b≠S->b≠I->E.get? b=ae o->n.get? b=ae o)->n.get? S=ae {cls:=.type "list",dict:=ah,data:=.seq g c,slots:= #[]}->nZ n I p Y->g.toList=p.map cg->R (.ok (.ret .none)) {s with heap:=n,toks:=tk}):
  ∀(k i)(h)(tk c)(g)(p),ao Y-i=k->i<=ao Y->tZ h I d S i (ao Y) O->qw h d Y O->(∀b o,b≠S->b≠I->E.get? b=ae o->h.get? b=ae o)->
    h.get? S=ae {cls:=.type "list",dict:=ah,data:=.seq g c,slots:= #[]}->g.toList=p.map cg->nZ h I p (Y.take i)->I<h.objs.size->
    lZ (aN U w) A (.builtin "list.extend.loop" ⟨[.ref S,.ref I,.none],[]⟩) R {s with heap:=h,toks:=tk}:=by
 have q:S≠I:=di r;intro k
 induction k with
 |zero=>
  intro i h tk c g p hk hi st H keep J l j hI;refine sL F.entry_extend_loop ?_;rw[Around.under_plainId En _];refine ax (jiN hh st H ak λn L=>?_);rw[DN ak]at j;exact aP (hR n tk g c p (λb o E h2 e=>L b o h2 (keep b o E h2 e)) (L S _ q J) ⟨j.rise,λa m=>⟨(j.above a m).1,let ⟨_,e⟩:=j.here.mem m;b7 (L a _ (oq (j.above a m).1) e)⟩,j.here.sQ λa b m e=>L a _ (oq (j.above a m).1) e⟩ l)
 |succ k ih=>
  intro i h tk c g p hk hi st H keep J l j hI;have cr:i<ao Y:=by omega
  have Ma:ao p=i:=by rw[j.here.length,Bo];omega
  have u:g.size=i:=by rw[<-gW,l,cX,Ma]
  have v:S<h.objs.size:=b7 J;refine sL F.entry_extend_loop ?_;rw[Around.under_plainId En _];refine ax (jf5 st v H (cW cr) λn Jq ht hz y=>?_);dsimp only at ht hz y ⊢;have B:=y S _ q J;have up:∀b o,b≠S->n.get? b=ae o->(n.update S (lM (·.push (cg h.objs.size)))).get? b=ae o:=λb o hb e=>(sA _ _ (gM hb)).trans e
  have us:(n.update S (lM (·.push (cg h.objs.size)))).objs.size=h.objs.size+1:=by rw[<-hz];exact Heap.size_update ..
  have ui:∀b,b<h.objs.size+1->b< (n.update S (lM (·.push (cg h.objs.size)))).objs.size:=λb z=>by rw[us];exact z
  refine ax (CY B aa (aP ⟨AS En _,ih (i+1) _ tk _ (g.push (cg h.objs.size)) (p++[h.objs.size]) ak cr (Jq.keep up (gM q)) (H.at λo e=>up d o N (y d o Q e))
    (λb o n1 n2 e=>up b o n1 (y b o n2 (keep b o n1 n2 e))) (sy _ B aa) (by rw[K6,l,lP];rfl) ⟨?_,?_,?_⟩ (ui _ (BN hI))⟩) (by rw[u];omega) (by show(g.push (cg h.objs.size)).size<=ba+1;rw[Array.size_push,u];omega))
  .exact List.pairwise_append.mpr ⟨j.rise,List.pairwise_singleton _ _,λa ha b hb=>by rw[lQ.mp hb];exact(j.above a ha).2⟩
  .intro a ha;rcases fj.mp ha with ha|ha
   .exact⟨(j.above a ha).1,ui _ (BN (j.above a ha).2)⟩
   .rw[lQ.mp ha];exact⟨hI,ui _ (tq _)⟩
  .rw[<-List.take_append_getElem cr];refine F2.snoc (j.here.sQ λa b m e=>?_) (up _ _ (oq v) ht);have z:=j.above a m;exact up a _ (oq (sB r z.1)) (y a _ (oq z.1) e)
def jiQ(c:s.heap.IsItemsView v d)(l:qw s.heap d Y O)(m:Q (.ref s.heap.objs.size) {s with heap:=s.heap.push (nY .none ag d 0 (ao Y) O .none .none)}):wpAny (aN U w) A (pyIter (.ref v)) Q E s:=by
 obtain⟨ov,e,n,g⟩:=id c;obtain⟨o,p,j,q,a,r⟩:=id l;refine wpAny_pyIter_slot c.typeIs F.slot_dict_items_iter (nK F.slot_dict_items_iter c.typeIs F.entry_dict_items_iter ?_ (F.args_dict_items_iter_1 _));refine ax (aP (ax ?_));refine ax (ox e g aa (aP (ax ?_)));refine ax (tJ j a (ax (rS j a ?_)));have h:p.size=ao Y:=by grind
 have i:Rh "dict_itemiterator" =af:=by decide
 simp only[i,if_true]
 refine nM (aP ⟨_,rfl, "dict_itemiterator",_,⟨_,dA _ aa,rfl⟩,El.lookup,?_⟩)
  (by simp only[sizeOk,Ri,eW,lh,gG,wh,my];omega)
 simpa[nY,lK,h,Ri]using m
def jly{r S:ar}(hh:A.handled=ah)(y:s.heap.IsItemsView r d)(z:qw s.heap d Y O)(B:S≠r)(l:d≠S)(c0:Nat)(hS:s.heap.get? S=ae {cls:=.type "list",data:=.seq #[] c0})
  (hR:∀i tk g c u,(∀b o,b≠S->s.heap.get? b=ae o->i.get? b=ae o)->i.get? S=ae {cls:=.type "list",dict:=ah,data:=.seq g c,slots:= #[]}->nZ i s.heap.objs.size u Y->g.toList=u.map cg->R (.ok (.ret .none)) {s with heap:=i,toks:=tk})
  (hn:Y.length<=ba):wpAny (aN U w) A.in1 (Builtin.List.listExtendWith (.ref S) (.ref r) .none)
   (λE v=>match E with|.done f=>R (.ok f) v|.again c'=>c'.quiet=af/\lZ (aN U w) A c' R v) (λe v=>R (.error e) v) s:=by
 have m:S<s.heap.objs.size:=b7 hS;have H:d<s.heap.objs.size:=let ⟨_,_,e,_⟩:=z;b7 e
 have n:∀(h:Heap)(I tk),(∀b o,b≠S->(s.heap.push (nY .none ag d 0 Y.length O .none .none)).get? b=ae o->h.get? b=ae o)->h.get? S=ae {cls:=.type "list",data:=.seq #[] I}->
   lZ (aN U w) A (.builtin "list.extend.loop" ⟨[.ref S,.ref s.heap.objs.size,.none],[]⟩) R {s with heap:=h,toks:=tk}:=λh I tk J a=>by
  have hI:=J s.heap.objs.size _ (oq m) (dA _ aa)
  exact jiP hh m l (di H) hn (λi L g c u N Q hG p=>hR i L g c u (λb o j e=>N b o j (di (b7 e)) e) Q hG p)
   Y.length 0 h tk I #[] [] (Nat.sub_zero _) (fH _) ⟨_,_,_,_,hI,.inl aa⟩ (z.at λo e=>J d o l (cc _ e)) (λb o j x e=>J b o j (cc _ e)) a aa ⟨Iq,(λx ha=>nomatch ha),.nil⟩ (b7 hI)
 refine ax (xi y.typeIs ?_);have q1:Rj (.ref S) (.ref r)=ag:=by simp[Rj,B]
 have q2:(vu "dict_items" ==vu "list")=ag:=by decide
 have q3:(vu "dict_items" ==vu "tuple")=ag:=by decide
 simp only[q1,q2,q3,E5,FN,if_false];refine ax (jiQ y z ?_);have a:=cc (nY .none ag d 0 Y.length O .none .none) hS;refine ax (gk (PySem.W.kdx_hint (let ⟨o,ho,hc,_⟩:=y;⟨o,cc _ ho,hc⟩) ?_));refine wpAny_ite_split (λx=>?_) (λx=>aP ⟨AS En _,n _ c0 _ (λb o x e=>e) a⟩);refine ax (oF (ax ?_));refine ax (CY a aa ?_);have q:=sy (lM (·.push lI)) a aa;refine CY q aa ?_;refine aP ⟨AS En _,n _ _ _ (λb o j e=>?_) (sy (lM (·.pop)) q aa)⟩;exact(sA _ _ (gM j)).trans ((sA _ _ (gM j)).trans e)
end
section
variable{N:ar}
def jiR(hh:A.handled=ah)(H:s.heap.IsItemsView r d)(I:qw s.heap d J N)(hn:ao J<=ba)
  (hQ:∀i tk g c u,(∀b o,s.heap.get? b=ae o->i.get? b=ae o)->i.get? s.heap.objs.size=ae {cls:=.type "list",dict:=ah,data:=.seq g c,slots:= #[]}->nZ i s.heap.objs.size u J->g.toList=u.map cg->Q (.ref s.heap.objs.size) {s with heap:=i,toks:=tk}):
  wpAny (aN L w) A (call (.type "list") [.ref r]) Q E s:=by
 refine callType_codes (Q₁:=λobj O=>obj=.ref s.heap.objs.size/\O={s with heap:=s.heap.push {cls:=.type "list",data:=.seq #[]}}) F.called_list (F.typeCall_list_1 _) F.entry_list_init
  (code_list_new _ ⟨rfl,rfl⟩) λobj O h1=>?_
 obtain⟨rfl,rfl⟩:=h1;have j:(s.heap.push {cls:=.type "list",data:=.seq #[]}).get? s.heap.objs.size=ae {cls:=.type "list",data:=.seq #[]}:=dA _ aa;have U:r<s.heap.objs.size:=let ⟨_,l,_⟩:=H;b7 l;have Y:d<s.heap.objs.size:=let ⟨_,_,e,_⟩:=I;b7 e;have n:(s.heap.push {cls:=.type "list",data:=.seq #[]}).IsItemsView r d:=let ⟨o,l,x⟩:=H;⟨o,cc _ l,x⟩
 have p:=I.at (h':=s.heap.push {cls:=.type "list",data:=.seq #[]}) λo e=>cc _ e
 refine⟨⟨_,j,rfl⟩,F.args_list_init_2 _ _,?_⟩;generalize hE:s.heap.push {cls:=.type "list",data:=.seq #[]}=v at j n p;have h0z:v.objs.size=s.heap.objs.size+1:=by rw[<-hE,su]
 refine ax ?_;refine ax (vr j aa (aP ?_));refine ax (CY j aa ?_);have h:∀b o,b≠s.heap.objs.size->v.get? b=ae o->(v.update s.heap.objs.size (lM (λf=>(#[])))).get? b=ae o:=λb o hb e=>(sA _ _ (gM hb)).trans e
 have z:∀b o,s.heap.get? b=ae o->v.get? b=ae o:=λb o e=>by rw[<-hE];exact cc _ e
 refine ax (wpAny_letGo ?_);refine jly hh (let ⟨o,l,x⟩:=n;⟨o,h r o (di U) l,x⟩) (p.at λo e=>h d o (di Y) e) (oq U) (di Y) _ (sy (lM (λf=>(#[]))) j aa) (λi tk g c u hk B y q=>?_) hn;exact⟨rfl,hQ i tk g c u (λb o e=>hk b o (di (b7 e)) (h b o (di (b7 e)) (z b o e))) B ⟨y.rise,λa m=>⟨sB aZ (y.above a m).1,(y.above a m).2⟩,y.here⟩ q⟩
def jiO(lo:(d==lJ)=ag)(j:qw s.heap d l N)(h:Q (.ref s.heap.objs.size) {s with heap:=s.heap.push {cls:=.type "dict_items",data:=.fields #[.ref d]}}):wpAny (aN g w) A (call (.builtin "dict.items") [.ref d]) Q E s:=by
 have i:s.TypeIs (.ref d) "dict" :=let ⟨o,_,e,c,_⟩:=j;⟨o,e,c.1⟩
 refine Ab (S:=λx R s=>s.TypeIs (.ref d) "dict" /\R (.ok (.ret (.ref s.heap.objs.size))) {s with heap:=s.heap.push {cls:=.type "dict_items",data:=.fields #[.ref d]}}) F.slot_dict_items i F.entry_dict_items (F.args_dict_items_1 _) (.of_wp λA R s a=>?_) ⟨i,h⟩;obtain⟨t,h⟩:=a;refine ax ?_;refine ax (Fy t ?_);refine aP ?_
 delta IF
 rw[if_neg aZ];exact ax (aP (ax (nM (aP ⟨_,rfl,h⟩))))
end
noncomputable def ov(H N:Hp):Hp:=λb=>(N b).or (H b)
def Mb(e:N b=ae o):ov H N b=ae o:=by delta ov;rw[e];rfl
def Mc(e:N b=ah):ov H N b=H b:=by delta ov;rw[e];rfl
def aK.more{N:Hp}(I:aK X a h H s)(k:∀b u,s.heap.get? b=ae u->d.get? b=ae u)(i:∀b o,N b=ae o->s.heap.objs.size<=b)(new:∀b o,N b=ae o->bC X.P X.w (ov H N) d b o):
  aA H (ov H N)/\aK X a h (ov H N) {s with heap:=d,toks:=l}:=by
 have low:∀b,b<s.heap.objs.size->N b=ah:=λb j=>by
  cases e:N b with
  |none=>rfl
  |some o=>exact absurd (i b o e) (Nat.not_le_of_lt j)
 have sm:aA H (ov H N):=λb o e=>(Mc (low b (I.be.lt e))).trans e
 exact⟨sm,I.un ⟨λb u q x x x=>k b u q,λb u q x x x=>⟨u.slots,k b u q⟩,λb u q n x=>(Mc (low b (b7 q))).trans n,λb u q x=>⟨u,k b u q⟩,λb g q=>sm _ _ q,λb u g q=>sm _ _ q,λb m q=>⟨#[],by rw[sm _ _ q];simp⟩⟩ λb u e=>by
  cases q:N b with
  |some o=>
   rw[Mb q]at e;cases e;exact new b _ q
  |none=>
   rw[Mc q]at e
   exact(I.be b u e).bq (λc v x q=>k c v q) (λc q=>sm _ _ q) λc g q=>sm _ _ q⟩
def jfT{w}{H}{g}{d}{h}(r:KT H d h):∀{c},F2 (λa q=>g.get? a=ae (Em q)) c (h.map λq=>(cg q.2.1,q.2.2))->c.Pairwise (· < ·)->
  ∃N:Hp,(∀b o,N b=ae o->b∈c/\∀i,bC P w i g b o)/\F2 (λa q=>∃p,TK H q.1 p/\N a=ae (.ap [.ref p,q.2])) c d:=by
 induction r with
 |nil=>intro c f _;cases f;exact⟨λx=>ah,(λx x e=>by cases e),.nil⟩
 | @cons q p U Y j t v=>
  intro c f up;obtain⟨a,l,rfl,y,B⟩:=F2.eM f;obtain⟨E,I⟩:=AE.mp up;obtain⟨N,n,J⟩:=v B I;refine⟨aQ N a (.ap [.ref p.2.1,q.2]),λb o e=>?_,.cons ⟨p.2.1,j.2.1,jv⟩ (J.sQ<|by rintro b z m ⟨L,O,Q⟩;exact⟨L,O,by rw[jz (oq (E b m))];exact Q⟩)⟩
  by_cases u:b=a
  .subst u;rw[jv]at e;cases e;exact⟨.head _,λi=>⟨by show 2<=ba;rw[my];decide,[.ref p.2.1,p.2.2],.cons aa (.cons j.2.2 .nil),_,y,rfl,_,rfl⟩⟩
  .rw[jz u]at e;exact⟨.tail _ (n b o e).1,(n b o e).2⟩
def jkn(h:TE):TE:=λi H Q=>h i H λx d=>∃a c,x=.ref a/\Rd d a (.dT c)/\ao c<=10000/\
 ∀L g e,d L=ah->aA (aQ d L (.al (g.map V.ref))) e->F2 (λa q=>∃p,TK d q.1 p/\e a=ae (.ap [.ref p,q.2])) g c->Q (.ref L) e
section
def jfg(hc:X.bU=af)(hg:Gl X "list")(hm:X.mg "list" =ah)(ho:PE X w to)
   (j:lL w "items" X.V (eval w X.V)=eval w X.V) (l:(d.endLine==g.line)=af)
   (hs:bx [.Call (.Attribute w "items" d) [] [] g] X.V=(ag,eval (.Call (.Attribute w "items" d) [] [] g) X.V)::bx [] X.V):
   PE X (.Call (.Name "list" p) [.Call (.Attribute w "items" d) [] [] g] [] pos) (jkn to):=by
 intro y s σ H Q I h;refine Bn (ZD I hg hm zo ?_);refine Bi ?_ hs (by exact jR aa);refine Hr (wpAny_Call_method0_late j l (bE (ho y s σ H _ I h) ?_));rintro v i ⟨x,H1,O,r1,a,B,ex,ha,hn,q⟩;subst ex;obtain rfl:v=cg a:=r1;obtain⟨hz,lo,xs,hp,o,es,ep,n,U,hd,he,_⟩:=(Rd.ok ha O.be)
 have hlen:xs.length=B.length:=(sg hp).symm;have hD:qw i.heap a (xs.map λq=>(cg q.2.1,q.2.2)) ep:=⟨o,es,n,U,hd,by rw[he,dF];rfl⟩
 refine⟨"dict", "dict.items",Ec,F.slot_dict_items,F.type_dict_items,⟨o,n,U.1⟩,(λb e=>by cases e;exact⟨o,n,U.2.1⟩),HF aa (PySem.evalArgs_none (jiO lo hD ?_))⟩;refine Hq ?_;refine jiR (O.ok.hd hc) (⟨_,dA _ aa,rfl,rfl⟩) (hD.at λo e=>cc _ e) aZ λh' tk Y c E hk hS J L=>?_
 have BZ:∀b u,i.heap.get? b=ae u->h'.get? b=ae u:=λb u e=>hk b u (cc _ e)
 rw[su]at hS J;obtain⟨N,n1,n2⟩:=jfT hp J.here J.rise;have hL:i.heap.objs.size<=i.heap.objs.size+1:=pd _;have nL:∀b∈E,b≠i.heap.objs.size+1:=λb m=>oq (J.above b m).1
 have Ma:E.length=B.length:=n2.length
 obtain⟨sm,I2⟩:=aK.more O (N:=aQ N (i.heap.objs.size+1) (.al (E.map V.ref))) BZ (λb o e=>by
   by_cases r:b=i.heap.objs.size+1
   .simp_all
   .rw[jz r]at e
    exact cn hL (Bf (J.above b (n1 b o e).1).1)) λb o e=>by
   by_cases r:b=i.heap.objs.size+1
   .subst r;rw[jv]at e;cases e;exact⟨by rw[cX,Ma,my];omega,Y.toList,c,by rw[L];exact Wq E,by rw[IA];exact hS⟩
   .rw[jz r]at e;exact(n1 b o e).2 _
 refine⟨.ref (i.heap.objs.size+1),_,I2,(by rw[su];rfl),q _ E _ (O.be.fresh hL) (λb o e=>?_) (n2.sQ<|by rintro b z m ⟨p',t1,t2⟩;exact⟨p',t1,Mb (by rw[jz (nL b m)];exact t2)⟩)⟩
 by_cases r:b=i.heap.objs.size+1
 .subst r;rw[jv]at e;exact Mb (by rw[jv];exact e)
 .rw[jz r]at e;exact sm _ _ e
end
def jbh{A}{j g}(sm:aA j g){l}{c:List (List NK×V)}(f:F2 (λa q=>∃p,TK j q.1 p/\g a=ae (.ap [.ref p,q.2])) l c):∀{i:LD},ay m A g (c.map (·.2)) i->(c.map (·.1)).all NK.bD=af->ay m A g (l.map V.ref) (ZE (c.map (·.1)) i):=by
 induction f with
 |nil=>intro i r _;cases r;exact .nil
 | @cons a q n E h t o=>
  intro i r e;obtain⟨d,u,rfl,v,w⟩:=ay.cv r;obtain⟨p,y,B⟩:=h;rw[fI,tw,fD]at e;refine .cons (.ap B (.cons ?_ (.cons v .nil))) (o w e.2);exact(Kg (.ap (dn q.1)) (.ap q.1) (uA (fE q.1))).2.2 e.1 A _ (y.keep λx x z=>sm _ _ z).1
def jgH(hc:X.bU=af)(hg:Gl X "list")(hm:X.mg "list" =ah)(ho:DE X .s n fo)
   (l:lL n "items" X.V (eval n X.V)=eval n X.V:=by rfl) (m:(g.endLine==h.line)=af:=by rfl)
   (hs:bx [.Call (.Attribute n "items" g) [] [] h] X.V=(ag,eval (.Call (.Attribute n "items" g) [] [] h) X.V)::bx [] X.V:=by exact jq aa):
   DE X .t (.Call (.Name "list" p) [.Call (.Attribute n "items" g) [] [] h] [] pos) (Ra fo):=by
 nomatch (
  PE.imp (jfg hc hg hm ho l m hs)<|by
   rintro σ H Q ⟨G,H0,o,d,k,ef,q⟩;obtain⟨J,e1,e2⟩:=je ef;refine⟨G,H0,o,J,k,e1,λx j E N b=>?_⟩
   have u:∀{a:ar}{c:List (List NK×V)}{v:LD},Rd j a (.dT c)->ay X.K (Sf G o σ) j (c.map (·.2)) v->bh ((c.map (·.1)).length<=10000/\(c.map (·.1)).all NK.bD=af) (.ok (.al (ZE (c.map (·.1)) v)))=.ok d->
     ∃O i,V.ref a=.ref O/\Rd j O (.dT i)/\ao i<=10000/\∀L I w,j L=ah->aA (aQ j L (.al (I.map V.ref))) w->F2 (λa q=>∃p,TK j q.1 p/\w a=ae (.ap [.ref p,q.2])) I i->Q (.ref L) w:=λ{a c v} y r e=>by
    obtain⟨⟨U,h2⟩,e3⟩:=jE e;cases e3;rw[cX]at U;refine⟨a,c,rfl,y,U,λL I w B sm f=>?_⟩;have Y:aA j w:=(aA.aQ B).trans sm;refine q _ _ (E.trans Y) (.al (sm _ _ jv) ((k.aB E).new L B|>λz=>z) (jbh Y f ((r.laid B).aB sm) h2)) (bI.aB E (qX (aA.refl j) B))
   cases J with
   |bw ks v=>
    obtain⟨a,c,rfl,y,_,rfl,r⟩:=N.f;exact u (.inl y) (r.aS λb z=>z.1) e2
   |bV ks v=>
    obtain⟨a,c,rfl,y,rfl,r⟩:=N.f;exact u (.inr y) (r.aS λb z=>z.1) e2
   |_=>exact dD e2)
section
def ur{a b}:iA (.int a) (.int b)=.ok (.bl (!(a==b))):=by
 delta iA
 exact jI (.inl ⟨rfl,rfl,by simp[D.dj]⟩)
end
end M
namespace G
open PySem PySem.Spec L2 M
open PyProof.Rows hiding St
noncomputable abbrev zU:=cI 10
noncomputable abbrev jc:=bR 0
noncomputable abbrev jp:=bR 2
noncomputable abbrev jh:=bR 1
noncomputable abbrev xL:=cI 3
noncomputable abbrev Wd:=cI 7
noncomputable abbrev qF:=gN 0
noncomputable abbrev yp:=gN 4
noncomputable abbrev jV:=bR 4
noncomputable abbrev jS:=cI 1
noncomputable abbrev zT:=gN 5
noncomputable abbrev y0:=gN 3
noncomputable abbrev yb:=cI 26
noncomputable abbrev Jt:=gN 6
noncomputable abbrev qv:=bR 6
noncomputable abbrev jB:=bR 3
noncomputable abbrev jL:=bR 5
noncomputable abbrev jP:=cI 0
noncomputable abbrev zy:=cI 2
noncomputable abbrev jQ:=cB ag
noncomputable abbrev Xt:=cI 4
noncomputable abbrev jK:=bR 7
noncomputable abbrev QD:=gm 4
noncomputable abbrev wj:=bR 8
noncomputable abbrev j6:=cB af
noncomputable abbrev y4:=gN 2
noncomputable abbrev yF:=gN 1
noncomputable abbrev xq:=bR 10
noncomputable abbrev zq:=bR 13
abbrev jb(f:T3):=jf f aT
noncomputable def top(i:Nat):Stmt:=PySem.Challenge.pw_endwise_k52_calls_paper.main.body.getD i (.Pass ⟨0,0,0,0⟩)
abbrev zK:Stmt:=top 48
abbrev wv:Stmt:=top 50
abbrev zM:Stmt:=top 64
abbrev xA:Stmt:=top 16
abbrev yK:Stmt:=top 17
abbrev yL:Stmt:=top 21
abbrev wR:Stmt:=top 36
abbrev wo:Stmt:=top 35
abbrev wH:Stmt:=JB (top 34) 0
abbrev yr:Stmt:=JB (top 34) 1
abbrev wx:Stmt:=top 49
abbrev wp:Stmt:=top 47
abbrev wX:Stmt:=top 52
abbrev wq:Stmt:=top 51
abbrev wU:Stmt:=top 53
abbrev wV:Stmt:=top 62
abbrev wA:Stmt:=top 60
abbrev zm:Stmt:=top 61
abbrev zl:Stmt:=top 40
abbrev yH:Stmt:=top 39
abbrev XW:Stmt:=top 25
abbrev JV:Stmt:=top 24
abbrev zB:Stmt:=JB (top 34) 5
abbrev Zd:Stmt:=top 26
abbrev zR:Stmt:=JB (top 34) 4
abbrev yq:Stmt:=JB (top 43) 1
abbrev zI:Stmt:=top 31
abbrev wn:Stmt:=top 30
abbrev Zc:Stmt:=top 29
abbrev Ze:Stmt:=top 37
abbrev wm:Stmt:=top 38
abbrev yt:Stmt:=JB (top 34) 3
abbrev wW:Stmt:=top 54
abbrev wu:Stmt:=top 55
abbrev wz:Stmt:=top 56
abbrev zL:Stmt:=top 57
abbrev xE:Stmt:=top 58
abbrev xF:Stmt:=top 63
abbrev wT:Stmt:=top 28
abbrev zJ:Stmt:=top 23
abbrev xC:Stmt:=top 22
abbrev xD:Stmt:=top 18
abbrev xB:Stmt:=top 19
abbrev yI:Stmt:=top 20
abbrev JW:Stmt:=top 27
abbrev yJ:Stmt:=top 45
abbrev wS:Stmt:=top 44
abbrev wG:Stmt:=JB (top 43) 0
abbrev xO:Stmt:=JB (top 34) 2
abbrev wy:Stmt:=top 59
abbrev YI:Stmt:=top 65
def QO:Sl->aw br:=
 (az (jF 2 (aq (aq zU (cI 40) eI) (cI 121) a9)) (aY (aq (aq (aq (aq jc jp bB) (cI 31415926535897932384626433832795) gy) (aq (aq (aq (aq jh jh gy) (aq xL jh gy) a9) Wd a9) (cI 2718281828459045235360287471) gy) a9) jp bB)))
def qP:List D->aw D:=bp af 3 QO
def ZH:Sl->aw br:=
 (az (jF 1 (cS "abcdefghijklmnopqrstuvwxyz")) (az (gb (app (jf jc (jb (cI 8))) xu) (g2 qF yp)) (az (gb (app (jf jc (jb (aq jV jS a9))) xu) (g2 qF zT)) (az (jF 2 (cS "")) (az (cw (ia (jb (aq jV jS a9))) y0 (az (gb (app (jf jc (jb yb)) xu) (g2 qF Jt)) (jF 2 (aq jp (aq jh qv bc) a9)))) (aY (zz ag 1 [2,1,5,0] (ia (jb (cI 5))) qF qm (aq (aq (zO jh Qn (xr jB) mH) (aq jp (aq (aq jV (aq (cI 5) jc gy) a9) yb bB) bc) a9) (zO jh (xr (aq jB jS a9)) Qn mH) a9))))))))
def wE:List D->aw D:=bp af 7 ZH
def Kq:Sl->aw br:=
 (az (cR 3 (bJ aT)) (az (cw (ia (jb xL)) yp (az (gb (app (jf jc (jb (cI 8))) xu) (g2 qF zT)) (bS (aU (aq jL jP lv)) (qL 3 (aO (jf (aO (jf (aq jh jV bc) (jb (aq jp jV bc)))) (jf (aq jL (aq jp jV bc) bB) aT)))) bP))) (az (bS (aU (aq (aq jc zy bB) jP da)) (W0 3 (aq (aq jc zy ek) (aq (app (jb (gm 3)) bY) jS a9) bB) (aO (jf (aO (jf (aq jh xL bc) (jb jS))) (jb jP)))) bP) (aY (rP 3)))))
def zN:List D->aw D:=bp af 6 Kq
def jbr:Sl->aw br:=
 (aY (l7 (WR "int" jc) (lq (WR "bool" jc)) af))
def qj:List D->aw D:=bp af 1 jbr
def W5:Sl->aw br:=
 (az (bS (eY (bt (aU (WR "str" jc))) (bt (aU (QZ jS (app (jb jc) bY) (cI 8) nc nc)))) (aY jQ) bP) (aY (app (jf (zz ag 1 [] (cF jc) qF qm (aq jc (cS "abcdefghijklmnopqrstuvwxyz") inD)) aT) iM)))
def wO:List D->aw D:=bp af 1 W5
def jdN:Sl->aw br:=
 (az (bS (eY (bt (aU (WR "tuple" jc))) (aU (aq (app (jb jc) bY) zy iA))) (aY jQ) bP) (aY (l7 (jl 1 wO (jb (aq jc jP bc))) (l7 (jl 1 qj (jb (aq jc jS bc))) (QZ jP (aq jc jS bc) (cI 9) nc nc) af) af)))
def qZ:List D->aw D:=bp af 1 jdN
def vc:Sl->aw br:=
 (az (bS (eY (bt (aU (WR "tuple" jc))) (eY (aU (aq (app (jb jc) bY) zy iA)) (bt (aU (jl 1 qZ (jb (aq jc jP bc))))))) (aY jQ) bP) (aY (l7 (jl 1 qj (jb (aq jc jS bc))) (QZ jP (aq jc jS bc) (aq (aq jc jP bc) jS bc) nc ltI) af)))
def jX:List D->aw D:=bp af 1 vc
def Ue:Sl->aw br:=
 (az (bS (eY (bt (aU (WR "list" jc))) (aU (aq (app (jb jc) bY) (cI 60) lv))) (aY jQ) bP) (az (bS (bt (aU (app (jf (zz ag 1 [] (cF jc) qF qm (jl 1 jX (jb jc))) aT) iM))) (aY jQ) bP) (aY (aq (uy (zz ag 1 [] (cF jc) qF qm (aq jc jP bc))) (app (jb jc) bY) da))))
def qr:List D->aw D:=bp af 1 Ue
def zu:Sl->aw dP:=
 (oM (gS (bt (aU (jl 1 qr (jb jh)))) (LJ "NoPaper") (UC K5)) (UC (DM 0 "Calls" "chosen" (app (jb jh) QS))))
def jA:FO:=YJ 2 1 zu
def XM:Sl->aw br:=
 (aY (Ra (oK "Calls" "chosen" (gm 0))))
def ql:List D->aw D:=bp af 1 XM
def JC:Sl->aw br:=
 (az (jF 2 (aq (aq (aq jc (cI 69621) gy) (aq (aq jh jS a9) (cI 1000003) gy) a9) (aq (aq zU (cI 30) eI) (cI 57) a9) bB)) (aY (aq (aq jp jp gy) (aq (aq zU (cI 30) eI) (cI 57) a9) bB)))
def jH:List D->aw D:=bp af 3 JC
def Uf:Sl->aw br:=
 (aY (l7 (cY "int" jc) (lq (cY "bool" jc)) af))
def jG:List D->aw D:=bp af 1 Uf
def W6:Sl->aw br:=
 (az (gb (app (jf jc (jb xL)) xu) (g2 qF Jt)) (az (cR 4 (bJ aT)) (az (cw (ia (jb (aq jp qv bc))) zT (az (jF 0 (jl 2 jH (jf jc (jb jL)))) (az (jF 7 (aq jB (aq jc (app (jb jB) bY) bB) bc)) (az (bS (aU (aq (aq (aq jc zU ek) Xt bB) jP da)) (jF 7 (aq jB (aq jL (app (jb jB) bY) bB) bc)) bP) (az (bS (fu (aU (aq (aq (aq jc (cI 40) ek) zy bB) jP da)) (fu (bt (aU (jl 1 jG (jb jK)))) (aU (aq (app (jb jK) bY) jS lv)))) (jF 7 (aq jK jS bc)) bP) (az (bS (aU (aq (aq (aq jc (cI 80) ek) Wd bB) jP da)) (jF 7 (aO (jf (aq jh xL bc) (jb jK)))) bP) (qL 4 jK))))))) (aY (lO (app (jf (aq (bJ (jb (aq jh qv bc))) QD a9) aT) XU))))))
def qJ:List D->aw D:=bp af 8 W6
def Ug:Sl->aw br:=
 (az (jF 3 (bJ (jf jp (jf (aO (jf (aq jh xL bc) (jb jp))) (jf (aO (jf (aq jh xL bc) (jf (aO (jf (aq jh xL bc) (jb jp))) aT))) (jf (aO (jb (aq jh Xt bc))) (jf (aO (jf (aq jh xL bc) (jb jp))) (jb jp)))))))) (retS (aq jB (aq jc (cI 6) bB) bc)))
def wD:List D->aw D:=bp ag 4 Ug
def Qs:Sl->aw br:=
 (az (gb (app (jf jc (jb xL)) xu) (g2 qF (gN 8))) (az (jF 3 (aq jc (cI 1000) bB)) (az (jF 0 (aq jc (cI 1000) ek)) (az (cR 4 (bJ aT)) (az (cw (ia (jb (aq jp wj bc))) zT (qL 4 (jl 3 wD (jf (jl 2 jH (jf jc (jb jL))) (jf jh (jf (aq (aq jB (aq jL Wd gy) a9) (cI 1000) bB) aT)))))) (az (jF 6 (lO (jl 4 qJ (jf (jl 2 jH (jf jc (jb (cI 5)))) (jf jh (jf jp (jb QD))))))) (az (jF 7 (aq jc (cI 6) bB)) (az (bS (aU (aq jK xL da)) (jF 6 (aO (jf (aq jh xL bc) (jb qv)))) bP) (az (bS (aU (aq jK Xt da)) (jF 6 (aO (jf (aq jh Xt bc) (jf (lO (jl 4 qJ (jf (jl 2 jH (jf jc (jb (cI 6)))) (jf jh (jf jp (jb QD)))))) (jb qv))))) bP) (az (bS (aU (aq jK (cI 5) da)) (jF 6 (lO (jl 4 qJ (jf (jl 2 jH (jf jc (jb (cI 6)))) (jf jh (jf jp (jf (aq QD (bJ (jb qv)) a9) aT))))))) bP) (az (bS (aU (aq (aq (aq jc (cI 6) ek) (cI 9) bB) jP da)) (jF 6 (aO (jb (aq jh Xt bc)))) bP) (aY (aO (jf (lO (app (jf (aq (bJ (jb (aq jh wj bc))) QD a9) aT) XU)) (jb qv)))))))))))))))
def zj:List D->aw D:=bp af 9 Qs
def vg:Sl->aw br:=
 (az (jF 1 (cS "abcdefghijklmnopqrstuvwxyz")) (aY (zz ag 1 [1] (ia (jb jc)) qF qm (aO (jf (aO (jf (aq jh (aq jc yb bB) bc) (jf (aq jS (aq jc yb ek) a9) aT))) (jb (aq jc yb ek)))))))
def qI:List D->aw D:=bp af 2 vg
def Uj:Sl->aw br:=
 (aY (l7 (cY "bool" jc) (aq jc jh da) af))
def qQ:List D->aw D:=bp af 2 Uj
def XJ:Sl->aw br:=
 (az (jF 1 (bJ aT)) (az (p7 ["NoPath", "NoPaper", "NoRule"] (CQ (yw "Calls" 1 jA (jb jc))) 2 (jF 1 (bJ (jf (AM [("NoPath",ag),("NoPaper",af),("NoRule",ag)] jp) (jf (AM [("NoPath",ag),("NoPaper",ag),("NoRule",ag)] jp) aT))))) (aY (aq jh (bJ (jf j6 (jb jQ))) da))))
def zp:List D->aw D:=bp af 3 XJ
def XI:Sl->aw br:=
 (az (cR 2 Dv) (az (cR 3 (bJ (jb jc))) (az (wl 2000 (iJ (gm 3)) (LN (Ym 1 3) yp (bS (aU (aq jV (gm 2) eT)) (az (Zr 2 jV j6) (qL 3 jV)) bP))) (BV 2 (retS jp)))))
def qD:List D->aw D:=bp ag 5 XI
def jdL:Sl->aw br:=
 (az (cR 1 Dv) (qt 1 0 2 3 (aY (app (jf (zz ag 1 [1] (VR jh) qF qm (aO (jf jc (jf (jl 2 qD (jf jc (jb jh))) aT)))) aT) QS))))
def xo:List D->aw D:=bp af 4 jdL
def jlH:Sl->aw br:=
 (aY (Fb (aU (cY "tuple" jc)) (aO (jf (aq jc jP bc) (jf (aq (app (jb jc) bY) jS Di) aT))) cN))
def j9:List D->aw D:=bp af 1 jlH
def jgk:Sl->aw br:=
 (aY (Fb (aU (cY "tuple" jc)) (zO jc (xr jS) Qn mH) (aO aT)))
def qk:List D->aw D:=bp af 1 jgk
def JD:Sl->aw br:=
 (az (jF 2 (aq (oK "Calls" "chosen" (gm 0)) (jl 1 j9 (jb jh)) Gb)) (aY (Fb (aU (aq jp cN l8)) cN (lO (aq (jl 1 qk (jb jh)) jp bc)))))
def jt:List D->aw D:=bp af 3 JD
def W4(a:TX):Sl->aw br:=
 (az (cR 1 (bJ (jb jc))) (az (cw (cF (jl 1 qk (jb jc))) y4 (we 1 (jl 1 a (jb jp)))) (aY (rP 1))))
def j5:Nat->List D->aw D
 |0=>λx=>.am
 |n+1=>bp af 3 (W4 (j5 n))
def J9:Sl->aw br:=
 (az (cR 2 (bJ aT)) (az (cw (cF jh) (g2 yp zT) (az (jF 6 (wL "Calls" "chosen_part" 2 jt jc (jb jV))) (az (jF 7 (wL "Calls" "chosen_part" 2 jt jc (jb jL))) (az (bS (eY (aU (aq qv cN l8)) (eY (aU (aq jK cN l8)) (aU (aq jK (jl 1 (j5 64) (jb qv)) (fU af))))) (aY jQ) bP) (bS (aU (aq qv jK da)) (qL 2 (aO (jf (jl 1 j9 (jb jV)) (jf (jl 1 j9 (jb jL)) aT)))) bP))))) (az (ic 2 (cR 3 (jl 1 xo (jb jp)))) (BV 3 (aY (lq (app (jf (zz ag 1 [3] (VR jB) qF qm (aq jc (aq jh jc eU) nU)) aT) oR)))))))
def qA:List D->aw D:=bp af 8 J9
def XL:Sl->aw br:=
 (aY (app (jf (oK "Rules" "listed" (gm 0)) aT) kU))
def qE:List D->aw D:=bp af 1 XL
def xy:Sl->aw br:=
 (az (Xh (jF 2 (jl 1 qk (jb jc)))) (az (sK (eY (bt (aU (jl 1 qj (jb jh)))) (bt (aU (QZ jP jh (app (jb jp) bY) nc ltI)))) (IP "NoPath") (Xh bP)) (Xh (retS (aq jp jh bc)))))
def zi:List D->aw D:=gR ag 3 xy
def yh:Sl->aw br:=
 (az (sK (bt (aU (cY "tuple" jh))) (IP "NoPath") (Xh bP)) (az (Xh (jF 2 jc)) (az (me (cF jh) y0 (jF 2 (KP 2 zi (jf jp (jb jB))))) (Xh (retS jp)))))
def zG:List D->aw D:=gR ag 4 yh
def Rk(a:TX):Sl->aw br:=
 (az (cR 1 (bJ (jb (aO aT)))) (az (cw (Jr (jl 1 qk (jb jc))) (g2 y4 y0) (we 1 (zz ag 1 [2] (cF (jl 1 a (jb jB))) qF qm (aq (aO (jb jh)) jc a9)))) (aY (rP 1))))
def xc:Nat->List D->aw D
 |0=>λx=>.am
 |n+1=>bp af 4 (Rk (xc n))
def jjb:Sl->aw br:=
 (az (jF 1 (wL "Rules" "told" 1 qE jc mY)) (az (jF 2 (app (jf (zz ag 2 [] (cF jh) (g2 qF yF) qm (aO (jf (jl 1 j9 (jb jc)) (jb j6)))) aT) QS)) (az (cR 3 (bJ aT)) (az (cw (FG jh) (g2 yp zT) (cw (FR (jl 1 (xc 64) (jb (aq jL jS bc))) (jl 1 (j5 64) (jb (aq jL jS bc)))) (g2 Jt (gN 7)) (bS (aU (aq (jl 1 j9 (jb jK)) jp nU)) (qL 3 (aO (jf jV (jb qv)))) bP))) (aY (rP 3))))))
def Zz:List D->aw D:=bp af 8 jjb
def Ub:Sl->aw br:=
 (az (jF 1 (wL "Rules" "told" 1 qE jc mY)) (az (jF 2 (zz ag 2 [1] (cF (jl 1 Zz (jb jc))) (g2 qF yF) qm (aO (jf (aq (aq jp jc bc) jP bc) (jf (jl 2 (λa=>p6 (zG a)) (jf (aq (aq jp jc bc) jS bc) (jb jh))) aT))))) (az (cR 3 (jl 1 xo (jf (zz ag 2 [] (cF jp) (g2 qF yF) qm (aO (jf (jl 1 j9 (jb jc)) (jf (jl 1 j9 (jb jh)) aT)))) aT))) (BV 3 (aY (zz ag 2 [3] (cF jp) (g2 qF yF) (aU (aq (jl 1 j9 (jb jc)) (uP 2 (jl 1 j9 (jb jh)) F5) nU)) (aO (jf jc (jb jh)))))))))
def xn:List D->aw D:=bp af 4 Ub
def XN:Sl->aw br:=
 (aY (wL "Calls" "lets_calls" 2 qA jc (jf (jl 1 xn (jb jh)) aT)))
def qU:List D->aw D:=bp af 2 XN
def vh:Sl->aw br:=
 (aY (aO (jf (aq jc jP bc) (jf (aq (app (jb jc) bY) jS Di) aT))))
def jC:List D->aw D:=bp af 1 vh
def ZG(a:TX):Sl->aw br:=
 (az (cR 1 (bJ (jb jc))) (az (bS (bt (aU (jl 1 jG (jb jc)))) (cw (cF (zO jc (xr jS) Qn mH)) y4 (we 1 (jl 1 a (jb jp)))) bP) (aY (rP 1))))
def j3:Nat->List D->aw D
 |0=>λx=>.am
 |n+1=>bp af 3 (ZG (j3 n))
def Ui:Sl->aw br:=
 (az (jF 1 (zz ag 2 [] (cF jc) (g2 qF yF) qm (jl 1 jC (jb jc)))) (az (cR 2 (bJ aT)) (az (cw (cF jc) (g2 y0 yp) (cw (cF (jl 1 (j3 64) (jb jV))) zT (bS (fu (bt (aU (jl 1 jG (jb jL)))) (aU (aq (jl 1 jC (jb jL)) jh (fU ag)))) (qL 2 (aO (jf jB (jb jL)))) bP))) (aY (rP 2)))))
def xp:List D->aw D:=bp af 6 Ui
def Kp:Sl->aw br:=
 (az (cR 1 Dv) (az (cw (cF jc) y4 (Zr 1 jp j6)) (az (jF 3 j6) (az (wl 2000 (iJ jB) (az (jF 3 jQ) (cw (cF (L7 1)) (g2 yp zT) (cw (cF jc) (g2 Jt (gN 7)) (bS (fu (aU (aq jL qv da)) (aU (aq (aO (jf jV (jb jK))) (gm 1) eT))) (az (Zr 1 (aO (jf jV (jb jK))) j6) (jF 3 j6)) bP))))) (BV 1 (retS jh))))))
def qB:List D->aw D:=bp ag 8 Kp
def jbs:Sl->aw br:=
 (az (jF 2 (jl 1 xp (jb jc))) (az (jF 3 (jl 1 qB (jf (zz ag 2 [] (cF jp) (g2 qF yF) qm (aO (jf (jl 1 jC (jb jc)) (jf (jl 1 jC (jb jh)) aT)))) aT))) (az (cR 4 (bJ aT)) (az (cw (cF jp) (g2 zT Jt) (az (jF 7 (jl 1 jC (jb jL))) (az (jF 8 (jl 1 jC (jb qv))) (bS (aU (aq (aO (jf wj (jb jK))) jB nU)) (az (bS (eY (aU (aq jK jh eT)) (aU (aq wj jh eT))) (aY jQ) bP) (az (jF 9 (aq jL (aq jS (aq jh jK eU) a9) bc)) (az (jF 10 (aq qv (aq jS (aq jh wj eU) a9) bc)) (az (bS (aU (aq xq (jl 1 (j3 64) (jb (bR 9))) (fU af))) (aY jQ) bP) (bS (aU (aq (bR 9) xq da)) (qL 4 (aO (jf jK (jb wj)))) bP))))) bP)))) (ic 4 (aY (lq (app (jf (zz ag 2 [] (VR (jl 1 qB (jb jV))) (g2 qF yF) qm (aq jc jh da)) aT) oR))))))))
def xf:List D->aw D:=bp af 11 jbs
def xG:Sl->aw br:=
 (az (gb (app (jf jc (jb (cI 12))) xu) (g2 qF zT)) (az (jF 3 (aq jc (aq (app (jb jp) bY) jS a9) bB)) (az (bS (aU (aq jL jP da)) (aY (aq (aq (aq (bJ (jf (aO (jf (aO (jf (aq jh jP bc) (jb zy))) (jb jP))) aT)) (zO jp Qn (xr jB) mH) a9) (bJ (jf (aO (jf (aO (jf (aq jh jP bc) (jb zy))) (jb jS))) aT)) a9) (zO jp (xr jB) Qn mH) a9)) bP) (az (bS (aU (aq jL jS da)) (retS (aq (bJ (jf (app (jb jp) XU) (jf cN (jf cD (jf (cS "") (jb jP)))))) (aq jc (cI 5) bB) bc)) bP) (az (bS (aU (aq jL zy da)) (aY (jl 1 qI (jb (cI 61)))) bP) (az (jF 4 (bJ (jf (aO (jf (aO (jf (aq jh jP bc) (jb zy))) (jf (aq zy (aq jc (cI 9) bB) a9) aT))) (jf (aO (jf (aO (jf (aq jh jP bc) (jb zy))) (jb (Aw jS)))) (jf (aO (jf (aO (jf (aq jh jP bc) (jb zy))) (jb j6))) (jf (aO (jf (aO (jf (aq jh jP bc) (jb zU))) (jb jP))) aT)))))) (az (jF 4 (aq jV (bJ (jf (aO (jf (aO (jf (cS "A") (jb jS))) (jb jP))) (jf (aO (jf (aO (jf (aq jh jP bc) (jb zy))) (jf jP (jb jP)))) (jf (aO (jf (aq jh jP bc) (jb jP))) (jf (bJ (jf (aO (jf (aq jh jP bc) (jb zy))) (jb jP))) (jf cN (jf (aO (jf (aO (jf (aq jh jP bc) (jb jP))) (jb jP))) aT))))))) a9)) (aY (aq (aq (zO jp Qn (xr jB) mH) (bJ (jf (aq jV (aq (aq jc (cI 61) ek) zU bB) bc) aT)) a9) (zO jp (xr jB) Qn mH) a9)))))))))
def xg:List D->aw D:=bp ag 6 xG
def vf:Sl->aw br:=
 (az (cR 1 Dv) (az (cw (cF jc) y4 (cw (cF (jl 1 (j5 64) (jb jp))) y0 (bS (aU (cY "tuple" jB)) (Zr 1 (jl 1 j9 (jb jB)) j6) bP))) (ic 1 (aY (app (jb jh) YA)))))
def x8:List D->aw D:=bp af 4 vf
def QN:Sl->aw br:=
 (az (cR 1 (bJ aT)) (az (cw (cF jc) y4 (we 1 (jl 1 qk (jb jp)))) (aY (rP 1))))
def qO:List D->aw D:=bp af 3 QN
def Zo:Sl->aw br:=
 (az (jF 1 (bJ (jb jc))) (az (jF 2 jP) (az (jF 3 jP) (az (wl 2000 (iJ jh) (az (jF 2 (aq jp jS (pJ λi j=>i+j))) (az (jF 3 (aq jB (app (jb jh) bY) (pJ λi j=>i+j))) (az (bS (eY (aU (aq jp (cI 60) lv)) (aU (aq jB (cI 1000) lv))) (aY j6) bP) (jF 1 (jl 1 qO (jb jh))))))) (aY jQ)))))
def xJ:List D->aw D:=bp af 4 Zo
def Zp:Sl->aw br:=
 (aY (l7 (jl 1 qj (jb jc)) (QZ jP jc (cI 999) nc nc) af))
def xK:List D->aw D:=bp af 1 Zp
def JZ:Sl->aw br:=
 (az (bS (aU (cY "tuple" jc)) (aY (l7 (QZ jS (app (jb jc) bY) (aq (cI 9) jS a9) nc nc) (jl 1 wO (jb (aq jc jP bc))) af)) bP) (aY (jl 1 xK (jb jc))))
def xI:List D->aw D:=bp af 1 JZ
def Uc:Sl->aw br:=
 (aY (l7 (lq (jl 1 xJ (jb jc))) (app (jf (zz ag 1 [] (cF (jl 1 (j5 64) (jb jc))) qF qm (jl 1 xI (jb jc))) aT) iM) af))
def xY:List D->aw D:=bp af 1 Uc
def uQ:Sl->aw br:=
 (az (cR 1 cD) (az (cw (cF (jl 1 (j5 64) (jb jc))) y4 (bS (bt (aU (cY "tuple" jp))) (Dn 1 jp j6) bP)) (ic 1 (aY (app (jb jh) IB)))))
def J7:List D->aw D:=bp af 3 uQ
def Ud:Sl->aw br:=
 (az (bS (eY (bt (aU (cY "tuple" jc))) (aU (aq (app (jb jc) bY) zy iA))) (aY jQ) bP) (az (bS (eY (bt (aU (jl 1 xY (jb (aq jc jP bc))))) (eY (bt (aU (jl 1 xY (jb (aq jc jS bc))))) (bt (aU (cY "tuple" (aq jc jP bc)))))) (aY jQ) bP) (aY (aq (aq (jl 1 J7 (jb (aq jc jS bc))) (jl 1 J7 (jb (aq jc jP bc))) oP) jP da))))
def yZ:List D->aw D:=bp af 1 Ud
def ve:Sl->aw br:=
 (az (bS (eY (bt (aU (cY "list" jc))) (aU (aq (app (jb jc) bY) (cI 40) lv))) (aY jQ) bP) (aY (app (jf (zz ag 1 [] (cF jc) qF qm (jl 1 yZ (jb jc))) aT) iM)))
def xZ:List D->aw D:=bp af 1 ve
def yi:Sl->aw dP:=
 (oM (gS (bt (aU (jl 1 xZ (jb jh)))) (LJ "NoRule") (UC K5)) (UC (oM (DM 0 "Rules" "listed" (app (jb jh) kU)) (DM 0 "Rules" "named" (jl 1 x8 (jf (aq (zz ag 2 [] (cF jh) (g2 qF yF) qm jc) (zz ag 2 [] (cF jh) (g2 qF yF) qm jh) a9) aT))))))
def qf:FO:=YJ 2 1 yi
def W7:Sl->aw br:=
 (az (jF 3 (wL "Calls" "chosen_part" 2 jt jc (jb jh))) (az (jF 4 (wL "Calls" "chosen_part" 2 jt jc (jb jp))) (aY (l7 (aq jB cN p8) (l7 (aq jV cN p8) (l7 (aq jB jV iA) (aq jV (jl 1 (j5 64) (jb jB)) (fU ag)) af) af) af))))
def q8:List D->aw D:=bp af 5 W7
def Uh:Sl->aw br:=
 (az (bS (eY (aU (jl 1 jG (jb jh))) (eY (aU (jl 1 jG (jb jp))) (eY (aU (aq (jl 1 jC (jb jh)) jc eT)) (aU (aq (jl 1 jC (jb jp)) jc eT))))) (aY jQ) bP) (az (jF 3 (aq jh (aq jS (aq jc (jl 1 jC (jb jh)) eU) a9) bc)) (az (jF 4 (aq jp (aq jS (aq jc (jl 1 jC (jb jp)) eU) a9) bc)) (aY (l7 (aq jB jV iA) (aq jV (jl 1 (j3 64) (jb jB)) (fU ag)) af)))))
def wF:List D->aw D:=bp af 5 Uh
def jmX:Sl->aw br:=
 (az (jF 1 (jl 2 qP (jf (aq (aq jc (bJ (jb jP)) p9) jP bc) (jb jP)))) (az (cR 2 (jl 1 wE (jb jh))) (az (jF 3 (bJ (jf (aq jS (aq (aq jh (aq zU (cI 20) eI) iP) xL bB) a9) (jf (aq jS (aq (aq jh (aq zU (cI 21) eI) iP) xL bB) a9) (jf (aq jS (aq (aq jh (aq zU (cI 22) eI) iP) xL bB) a9) aT))))) (az (bS (fu (aU (aq (aq (aq jh (aq zU yb eI) iP) Xt bB) jS da)) (aU (aq (aq jB jS bc) (aq jB zy bc) iA))) (IZ 2 zy (aq (gm 2) jS bc)) bP) (az (ic 2 (jF 4 (jl 3 zN (jf (jl 2 qP (jf (aq (aq jc (bJ (jf jP (jb jP))) p9) jS bc) (jb jS))) (jf jp (jb jB)))))) (az (jF 5 (app (jb jV) QS)) (az (cR 6 (app (jb jV) kU)) (az (jF 7 (Ea 6 (ZS (yw "Calls" 1 jA (jb qv))))) (az (NS 6) (az (cR 8 (bJ aT)) (az (cw (FG (aq (bJ (jb jP)) (zO jc (xr zy) (xr (cI 14)) DJ) a9)) (g2 (gN 10) (gN 11)) (az (jF 12 (jl 2 qP (jf (bR 11) (jb (aq xq zy a9))))) (az (bS (aU (aq xq jP lv)) (ic 2 (qL 8 (jl 3 zj (jf (bR 12) (jf jp (jb jB)))))) bP) (az (bS (oH 8 (bt (aU (jl 2 qQ (jf (wL "Calls" "lets" 2 qU jK (jf (ZS (yw "Rules" 1 qf (jf (app (jb wj) kU) aT))) aT)) (jf (jl 2 xf (jf wj (jb jL))) aT)))))) (aY jQ) bP) (az (ic 2 (gb (jl 3 zj (jf (jl 2 jH (jf (bR 12) (jb (cI 8)))) (jf jp (jb jB)))) (g2 (gN 13) (gN 14)))) (az (cw (cF (bJ (jf (aO (jf zq (jb (bR 14)))) (jf (aO (jf (bR 14) (jb zq))) (jf (aO (jf zq (jb zq))) (jf (aO (jf zq (jb Wd))) (jf (aO (jf Wd (jb zq))) aT))))))) (g2 (gN 15) (gN 16)) (bS (bt (aU (jl 2 qQ (jf (wL "Calls" "falls" 3 q8 jK (jf (bR 15) (jb (bR 16)))) (jf (jl 3 wF (jf jL (jf (bR 15) (jb (bR 16))))) aT))))) (aY jQ) bP)) (bS (oH 2 (bt (aU (jl 1 zp (jf (jl 3 xg (jf (jl 2 jH (jf (bR 12) (jb (cI 9)))) (jf jp (jb jV)))) aT))))) (aY jQ) bP))))))) (az (cR 9 (wL "Calls" "told" 1 ql jK mY)) (az (bS (aU (aq (wL "Calls" "told" 1 ql (ZS (yw "Calls" 1 jA (jf (jl 1 qI (jb (cI 60))) aT))) mY) (jl 1 qI (jb (cI 60))) iA)) (aY jQ) bP) (az (bS (eY (bt (aU (cY "list" (gm 9)))) (eY (aU (aq (gm 9) jV iA)) (bt (aU (AW ["Calls"] jK))))) (aY jQ) bP) (az (qL 9 jP) (aY (aq (wL "Calls" "told" 1 ql jK mY) jV da)))))))))))))))))
def n4:List D->aw D:=bp af 17 jmX
noncomputable def dQ(s:Stmt):Str:=match s with
 |.FunctionDef n _ _ _ _ _ _ _ _ _=>n
 |_=> ""
def bO(s:Stmt):List Str:=(Jg s).args.map (·.arg)
abbrev Dd(a:bK)(c:YE)(s:Stmt):Prop:=Dx a c (dQ s) s (bO s)
def aL{X:Cx}{l:Lv}{e:Expr}{f:T3}(a:DE X l e f)(c:bx [e] X.V=(ag,eval e X.V)::bx [] X.V:=by exact jq aa):DA X l [e] (jf f aT):=jg a yX c
structure Gm(κ:bK)(T7 U8 T9 U9 U7 T6:ar)(mg:YE):Prop where
 aM:mg "isinstance" =ah
 nz:mg "bool" =ah
 t0:mg "int" =ah
 n5:mg "all" =ah
 cJ:mg "len" =ah
 cj:mg "tuple" =ah
 dR:mg "list" =ah
 qR:mg "sorted" =ah
 t4:mg "any" =ah
 t6:mg "set" =ah
 lB:mg "dict" =ah
 fF:mg "range" =ah
 dq:mg "divmod" =ah
 Eo:mg "str" =ah
 fx:mg "enumerate" =ah
 Ep:mg "zip" =ah
 oT:∃t,mg "LETTERS" =ae (.str "abcdefghijklmnopqrstuvwxyz" t)
 il:∃t,mg "MOST_LETTERS" =ae (.int 8 t)
 fO:∃t,mg "MOST_PLACES" =ae (.int 9 t)
 lC:∃t,mg "MOST_BLANK" =ae (.int 999 t)
 iV:∃t,mg "MOST_LEVELS" =ae (.int 60 t)
 lD:∃t,mg "MOST_PARTS" =ae (.int 1000 t)
 iW:∃t,mg "MOST_CHOSEN" =ae (.int 60 t)
 lF:∃t,mg "MOST_RULES" =ae (.int 40 t)
 dr:nq κ "Calls" "chosen"
 fy:nq κ "Rules" "listed"
 iX:nq κ "Rules" "named"
 mi:mg "NoPath" =ae (.ref T7)
 i9:mg "NoPaper" =ae (.ref U8)
 rc:mg "NoRule" =ae (.ref T9)
 nA:mg "EndError" =ae (.ref U9)
 rf:mg "NoHead" =ae (.ref U7)
 sR:mg "Paper" =ae (.ref T6)
 mj:i8 κ "NoPath" T7
 gg:rW κ T7 [.type "ValueError",.type "Exception",.type "BaseException",.type "object"] "ValueError.__new__" =af
 oU:i8 κ "NoPaper" U8
 gD:rW κ U8 [.type "ValueError",.type "Exception",.type "BaseException",.type "object"] "ValueError.__new__" =af
 rg:i8 κ "NoRule" T9
 io:rW κ T9 [.type "ValueError",.type "Exception",.type "BaseException",.type "object"] "ValueError.__new__" =af
 nB:∀c,[("NoPath" :Str),("NoPaper" :Str),("NoRule" :Str)].contains c=af->∀C,i8 κ c C->DD κ (.ref C) (.ref U9)=ae af
 rh:∀c,[("Calls" :Str)].contains c=af->∀C,i8 κ c C->gJ κ (.ref C) (.ref T6)=ae af
 ri:∀c b,nJ c [(("NoPath" :Str),ag),(("NoPaper" :Str),ag),(("NoRule" :Str),ag)]=ae b->∀C,i8 κ c C->ly κ C/\gJ κ (.ref C) (.ref U7)=ae b
 oV:∀c b,nJ c [(("NoPath" :Str),ag),(("NoPaper" :Str),af),(("NoRule" :Str),ag)]=ae b->∀C,i8 κ c C->ly κ C/\gJ κ (.ref C) (.ref U8)=ae b
def Rl:aC ["_law_cell", "_law_k", "_law_big"] (bO zK) (jj zK):=c7
def rj:aC ["_law_number", "_law_letters", "_law_base", "_law_k", "_law_size", "_law_at", "_law_sign"] (bO wv) (jj wv):=c7
def Er:aC ["_law_number", "_law_names_here", "_law_counts", "_law_chosen_here", "_law_k", "_law_way"] (bO zM) (jj zM):=c7
def jnY:aC ["thing"] (bO xA) (jj xA):=c7
def jnU:aC ["thing"] (bO yK) (jj yK):=c7
def jnT:aC ["thing"] (bO yL) (jj yL):=c7
def jnR:aC ["thing"] (bO wR) (jj wR):=c7
def jnJ:aC ["thing"] (bO wo) (jj wo):=c7
def jni:aC ["self", "chosen"] ["self", "chosen"] (jj wH):=c7
def jnn:aC ["self"] ["self"] (jj yr):=c7
def Rm:aC ["_law_number", "_law_k", "_law_mixed_here"] (bO wx) (jj wx):=c7
def jnH:aC ["_law_found"] (bO wp) (jj wp):=c7
def rX:aC ["_law_number", "_law_names_here", "_law_counts", "_law_places", "_law_handed", "_law_k", "_law_which", "_law_place_here"] (bO wX) (jj wX):=c7
def Rn:aC ["_law_number", "_law_names_here", "_law_blank", "_law_some"] (bO wq) (jj wq):=c7
def oW:aC ["_law_number", "_law_names_here", "_law_counts", "_law_first", "_law_places", "_law_k", "_law_call_here", "_law_way", "_law_which"] (bO wU) (jj wU):=c7
def Ro:aC ["_law_count", "_law_letters"] (bO wV) (jj wV):=c7
def jnq:aC ["_law_found", "_law_due_here"] (bO wA) (jj wA):=c7
def Gf:aC ["_law_handed", "_law_kinds", "e"] (bO zm) (jj zm):=c7
def Gg:aC ["start", "straight", "met", "waiting", "found"] (bO zl) (jj zl):=c7
def Md:aC ["leads", "straight", "start", "target"] (bO yH) (jj yH):=c7
def jnO:aC ["term"] (bO XW) (jj XW):=c7
def jn6:aC ["term"] (bO JV) (jj JV):=c7
def Rp:aC ["self", "term", "place"] ["self", "term"] (jj zB):=c7
def Me:aC ["term", "found", "place"] (bO Zd) (jj Zd):=c7
def AY:aC ["self", "found", "same", "onward", "left", "there", "upper", "lower"] ["self", "found"] (jj zR):=c7
def jnp:aC ["self"] ["self"] (jj yq):=c7
def Rq:aC ["term", "number", "below"] (bO zI) (jj zI):=c7
def Gh:aC ["term", "path", "found", "number"] (bO wn) (jj wn):=c7
def Gi:aC ["term", "found", "number", "place"] (bO Zc) (jj Zc):=c7
def t7:aC ["rules", "listed", "made", "found", "number", "rule", "path", "there"] (bO Ze) (jj Ze):=c7
def Gj:aC ["rules", "listed", "found", "onward"] (bO wm) (jj wm):=c7
def jnl:aC ["self", "rules"] ["self", "rules"] (jj yt):=c7
def jny:aC ["_law_term"] (bO wW) (jj wW):=c7
def Mf:aC ["_law_term", "_law_found", "_law_place_here"] (bO wu) (jj wu):=c7
def B1:aC ["_law_some", "_law_made", "_law_found", "_law_left", "_law_right", "_law_piece"] (bO wz) (jj wz):=c7
def rY:aC ["_law_ways", "_law_led", "_law_way", "_law_grown", "_law_one", "_law_two", "_law_three", "_law_four"] (bO zL) (jj zL):=c7
def rZ:aC ["_law_some", "_law_places", "_law_found", "_law_led", "_law_same", "_law_left", "_law_call_here", "_law_one", "_law_other", "_law_above", "_law_below"] (bO xE) (jj xE):=c7
def B2:aC ["_law_number", "_law_names_here", "_law_chosen_here", "_law_at", "_law_some", "_law_way"] (bO xF) (jj xF):=c7
def Gk:aC ["terms", "met", "term", "found"] (bO wT) (jj wT):=c7
def Mg:aC ["row", "below", "thing"] (bO zJ) (jj zJ):=c7
def AZ:aC ["thing", "row", "depth", "counted"] (bO xC) (jj xC):=c7
def jnQ:aC ["thing"] (bO xD) (jj xD):=c7
def jnV:aC ["thing"] (bO xB) (jj xB):=c7
def jnX:aC ["thing"] (bO yI) (jj yI):=c7
def Mh:aC ["term", "met", "found"] (bO JW) (jj JW):=c7
def jnW:aC ["thing"] (bO yJ) (jj yJ):=c7
def jnK:aC ["thing"] (bO wS) (jj wS):=c7
def jno:aC ["self", "rules"] ["self", "rules"] (jj wG):=c7
def Mi:aC ["self", "one", "other", "upper", "lower"] ["self", "one", "other"] (jj xO):=c7
def Mj:aC ["_law_places", "_law_one", "_law_other", "_law_above", "_law_below"] (bO wy) (jj wy):=c7
def ml:aC ["_law_script", "_law_lead", "_law_names_here", "_law_counts", "_law_chosen_here", "_law_places", "_law_handed", "_law_paper", "_law_some", "_law_told", "_law_k", "_law_cell", "_law_number", "_law_one", "_law_other", "_law_first", "_law_last"] ["_law_script"] (jj YI):=c7
section
variable(P:fW)(w:World)(I:bK)(mg:YE)(aj:Heap)(k:Nat)
abbrev Jm(f:TX):Prop:=Av P w I mg aj k (dQ zK) (bO zK) af f
abbrev JN(f:TX):Prop:=Av P w I mg aj k (dQ wv) (bO wv) af f
abbrev Jp(f:TX):Prop:=Av P w I mg aj k (dQ zM) (bO zM) af f
abbrev xH(f:TX):Prop:=Av P w I mg aj k (dQ xA) (bO xA) af f
abbrev Q4(f:TX):Prop:=Av P w I mg aj k (dQ yK) (bO yK) af f
abbrev Xm(f:TX):Prop:=Av P w I mg aj k (dQ yL) (bO yL) af f
abbrev Qx(f:TX):Prop:=Av P w I mg aj k (dQ wR) (bO wR) af f
abbrev JL(f:TX):Prop:=Av P w I mg aj k (dQ wo) (bO wo) af f
abbrev zw(f:FO):Prop:=lA P w I mg aj k "Calls" 1 f
abbrev yB(f:TX):Prop:=gz P w I mg aj k "Calls" "told" ["self"] af f
abbrev xm(f:TX):Prop:=Av P w I mg aj k (dQ wx) (bO wx) af f
abbrev wB(f:TX):Prop:=Av P w I mg aj k (dQ wp) (bO wp) af f
abbrev QB(f:TX):Prop:=Av P w I mg aj k (dQ wX) (bO wX) af f
abbrev JM(f:TX):Prop:=Av P w I mg aj k (dQ wq) (bO wq) ag f
abbrev QA(f:TX):Prop:=Av P w I mg aj k (dQ wU) (bO wU) af f
abbrev Jn(f:TX):Prop:=Av P w I mg aj k (dQ wV) (bO wV) af f
abbrev JQ(f:TX):Prop:=Av P w I mg aj k (dQ wA) (bO wA) af f
abbrev yA(f:TX):Prop:=Av P w I mg aj k (dQ zm) (bO zm) af f
abbrev yz(f:TX):Prop:=Av P w I mg aj k (dQ zl) (bO zl) ag f
abbrev Q3(f:TX):Prop:=Av P w I mg aj k (dQ yH) (bO yH) af f
abbrev Xn(f:TX):Prop:=Av P w I mg aj k (dQ XW) (bO XW) af f
abbrev Ji(f:TX):Prop:=Av P w I mg aj k (dQ JV) (bO JV) af f
abbrev qN(f:TX):Prop:=gz P w I mg aj k "Calls" "chosen_part" ["self", "term"] af f
abbrev Jk(f:TX):Prop:=Av P w I mg aj k (dQ Zd) (bO Zd) af f
abbrev zS(f:TX):Prop:=gz P w I mg aj k "Calls" "lets_calls" ["self", "found"] af f
abbrev xk(f:TX):Prop:=gz P w I mg aj k "Rules" "told" ["self"] af f
abbrev Jj(f:TX):Prop:=mK P w I mg aj k (dQ zI) (bO zI) ag f
abbrev JK(f:TX):Prop:=mK P w I mg aj k (dQ wn) (bO wn) ag f
abbrev K3(f:TX):Prop:=Av P w I mg aj k (dQ Zc) (bO Zc) af f
abbrev vC(f:TX):Prop:=Av P w I mg aj k (dQ Ze) (bO Ze) af f
abbrev JJ(f:TX):Prop:=Av P w I mg aj k (dQ wm) (bO wm) af f
abbrev yC(f:TX):Prop:=gz P w I mg aj k "Calls" "lets" ["self", "rules"] af f
abbrev xW(f:TX):Prop:=Av P w I mg aj k (dQ wW) (bO wW) af f
abbrev wC(f:TX):Prop:=Av P w I mg aj k (dQ wu) (bO wu) af f
abbrev JP(f:TX):Prop:=Av P w I mg aj k (dQ wz) (bO wz) af f
abbrev Jo(f:TX):Prop:=Av P w I mg aj k (dQ zL) (bO zL) ag f
abbrev Zx(f:TX):Prop:=Av P w I mg aj k (dQ xE) (bO xE) af f
abbrev Zy(f:TX):Prop:=Av P w I mg aj k (dQ xF) (bO xF) ag f
abbrev Qz(f:TX):Prop:=Av P w I mg aj k (dQ wT) (bO wT) af f
abbrev Jl(f:TX):Prop:=Av P w I mg aj k (dQ zJ) (bO zJ) af f
abbrev Zv(f:TX):Prop:=Av P w I mg aj k (dQ xC) (bO xC) af f
abbrev Zw(f:TX):Prop:=Av P w I mg aj k (dQ xD) (bO xD) af f
abbrev Zu(f:TX):Prop:=Av P w I mg aj k (dQ xB) (bO xB) af f
abbrev Xk(f:TX):Prop:=Av P w I mg aj k (dQ yI) (bO yI) af f
abbrev K4(f:TX):Prop:=Av P w I mg aj k (dQ JW) (bO JW) af f
abbrev Xl(f:TX):Prop:=Av P w I mg aj k (dQ yJ) (bO yJ) af f
abbrev Qy(f:TX):Prop:=Av P w I mg aj k (dQ wS) (bO wS) af f
abbrev wN(f:FO):Prop:=lA P w I mg aj k "Rules" 1 f
abbrev xX(f:TX):Prop:=gz P w I mg aj k "Calls" "falls" ["self", "one", "other"] af f
abbrev JO(f:TX):Prop:=Av P w I mg aj k (dQ wy) (bO wy) af f
end
section
variable{P:fW}{w:World}{Y:bK}{mg:YE}{aj:Heap}{k:Nat}{C:ar}{J L Q N U O:ar}
variable(T:Gm Y J L Q N U O mg)
include T
theorem Xy(d:Dd Y mg zK):
  Jm P w Y mg aj (k+1) qP:=
 q9 af d Rl λf c A a s H E e=>
  (jd (jD 2 Rl.nd (DE.s (qd jT j8 (gL uj ul ib ib) cm))) (ji (jO (vq (l:=.t) yO yP (DE.b (qd jT j8 (gL y8 QH (Qm (vb 0) (vb 2)) ib) (gL y8 QH (DE.b (qd jT j8 (DE.s (qd jT j8 (gL y8 QH (vb 1) (vb 1)) (gL y8 QH ib (vb 1)))) cm)) ib))) (vb 2)))))
theorem Y2(d:Dd Y mg wv):
  JN P w Y mg aj (k+1) wE:=
 q9 af d rj λf h A c s H E i=>
  (jd (jD 1 rj.nd (QT (l:=.s))) (jd (ZL (DE.s (yl wg xU aa T.dq zF (jg (dv 0) (aL cm)))) (qY aa (jr 0 rj.nd) (jr 4 rj.nd))) (jd (ZL (DE.s (yl wg xU aa T.dq zF (jg (dv 0) (aL (DE.s (qd jT j8 (dv 4) cm)))))) (qY aa (jr 0 rj.nd) (jr 5 rj.nd))) (jd (jD 2 rj.nd (QT (l:=.s))) (jd (zQ gE aa (yU aa T.fF (aL (DE.b (qd jT j8 (dv 4) cm)))) (jr 3 rj.nd) (jd (ZL (DE.s (yl wg xU aa T.dq zF (jg (dv 0) (aL cm)))) (qY aa (jr 0 rj.nd) (jr 6 rj.nd))) (ji (jD 2 rj.nd (DE.s (qd jT j8 (dv 2) (jY (dv 1) (vb 6)))))))) (ji (jO (zE ag ["_law_k", "_law_base", "_law_letters", "_law_at", "_law_number", "."] 1 [2,1,5,0] (zh ah aa aa cu ⟨rfl,rfl,rfl,rfl,trivial⟩ aa) aa (yU aa T.fF (aL ib)) (λC e g j a=>⟨(jr 0 a),zt,(DE.s (qd jT j8 (DE.s (qd jT j8 (DE.s (yj (dv 1) JI (yx (vb 3)))) (jY (dv 2) (Qm (DE.b (qd jT j8 (dv 4) (gL y8 QH ib (vb 0)))) ib)))) (DE.s (yj (dv 1) (yx (DE.b (qd jT j8 (dv 3) cm))) JI))))⟩)))))))))
theorem XA(d:Dd Y mg zM):
  Jp P w Y mg aj (k+1) zN:=
 q9 af d Er λf c A a s H E e=>
  (jd (zD 3 Er.nd (qx yX)) (jd (zQ gE aa (yU aa T.fF (aL ib)) (jr 4 Er.nd) (jd (ZL (DE.s (yl wg xU aa T.dq zF (jg (dv 0) (aL cm)))) (qY aa (jr 0 Er.nd) (jr 5 Er.nd))) (ji (qS (j4 kE kL (vb 5) ib) (ji (zY 3 (DE.s (jN (jg (DE.s (jN (jg (jY (dv 1) (vb 4)) (aL (jY (dv 2) (vb 4)))))) (aL (gL yO yP (vb 5) (DE.b (jY (dv 2) (vb 4)))))))))) jM)))) (jd (qS (j4 (zW (aX.cb e)) yu (Qm (vb 0) ib) ib) (ji (jd3 3 (Qm (ob y9 Ja (vb 0) ib) (DE.b (qd jT j8 (qe (l':=.s) qo xl aa T.cJ mn (aL (db 3))) cm))) (DE.s (jN (jg (DE.s (jN (jg (jY (dv 1) ib) (aL cm)))) (aL cm)))))) jM) (ji (Qt 3)))))
theorem kF(d:Dd Y mg xA):
  xH P w Y mg aj (k+1) qj:=
 q9 af d jnY λf c A a s H E e=>
  (ji (jO (yW (Zs (l':=.b) "int" "int" uC (vb 0) aa T.aM aa T.t0 Rr) (Qe (Uu (l:=.t) (Zs (l':=.b) "bool" "bool" WU (vb 0) aa T.aM aa T.nz Ml))))))
theorem ja4(d:Dd Y mg yK):
  Q4 P w Y mg aj (k+1) wO:=
 q9 af d jnU λf h A c s H E i=>
  (jd (qS (DW.dt (Jf (zc (qK (Zs (l':=.b) "str" "str" jga (vb 0) aa T.aM aa T.Eo PyProof.Rows.boot_str))) (yT (zc (uZ Xv XB Xv XB ib (qe (l':=.b) qo xl aa T.cJ mn (aL (vb 0))) (gi aa T.il)))))) (ji (jO (wf (l:=.t)))) jM) (ji (jO (qe (l':=.t) (Q0 aa) Fm aa T.n5 Go (aL (DE.b (zE ag ["sign", "."] 1 [] (zh ah aa aa cu trivial aa) aa (qM (dv 0)) (λC e g j a=>⟨(jr 0 a),zt,(yk (l:=.s) jcK jk9 (vb 0) (gst aa T.oT))⟩))))))))
theorem ja5(d:Dd Y mg yL)(e:Q4 P w Y mg aj k wO)(g:xH P w Y mg aj k qj):
  Xm P w Y mg aj (k+1) qZ:=
 q9 af d jnT λf h A a s H E c=>
  (jd (qS (DW.dt (Jf (zc (qK (Zs (l':=.b) "tuple" "tuple" zn (vb 0) aa T.aM aa T.cj oX))) (yT (j4 (ZC (aX.cb c)) VH (qe (l':=.b) qo xl aa T.cJ mn (aL (vb 0))) ib)))) (ji (jO (wf (l:=.t)))) jM) (ji (jO (yW (DE.b (Av.aI e c (aL (jY (dv 0) ib)))) (yW (DE.b (Av.aI g c (aL (jY (dv 0) ib)))) (Qe (Z8 (l:=.t) Xv XB Xv XB ib (DE.b (jY (dv 0) ib)) (gi aa T.fO))))))))
theorem VA(d:Dd Y mg wR)(g:xH P w Y mg aj k qj)(a:Xm P w Y mg aj k qZ):
  Qx P w Y mg aj (k+1) jX:=
 q9 af d jnR λf h A c s H E e=>
  (jd (qS (DW.dt (Jf (zc (qK (Zs (l':=.b) "tuple" "tuple" zn (vb 0) aa T.aM aa T.cj oX))) (Jf (j4 (ZC (aX.cb e)) VH (qe (l':=.b) qo xl aa T.cJ mn (aL (vb 0))) ib) (yT (zc (qK (DE.b (Av.aI a e (aL (jY (dv 0) ib)))))))))) (ji (jO (wf (l:=.t)))) jM) (ji (jO (yW (DE.b (Av.aI g e (aL (jY (dv 0) ib)))) (Qe (Z8 (l:=.t) Xv XB Nl Oc ib (DE.b (jY (dv 0) ib)) (DE.b (jY (jY (dv 0) ib) ib))))))))
theorem YY(d:Dd Y mg wo)(i:Qx P w Y mg aj k jX):
  JL P w Y mg aj (k+1) qr:=
 q9 af d jnJ λf j A g s H E h=>
  (jd (qS (DW.dt (Jf (zc (qK (Zs (l':=.b) "list" "list" WT (vb 0) aa T.aM aa T.dR zo))) (yT (j4 kE kL (qe (l':=.b) qo xl aa T.cJ mn (aL (vb 0))) (gi aa T.iW))))) (ji (jO (wf (l:=.t)))) jM) (jd (qS (zc (qK (qe (l':=.b) (Q0 aa) Fm aa T.n5 Go (aL (DE.b (zE ag ["found", "."] 1 [] (zh ah aa aa cu trivial aa) aa (qM (dv 0)) (λC c e m a=>⟨(jr 0 a),zt,(DE.s (Av.aI i h (aL (dv 0))))⟩))))))) (ji (jO (wf (l:=.t)))) jM) (ji (jO (yk (l:=.t) (zW (aX.cb h)) yu (jbx aa (aX.cb h) (DE.b (zE ag ["found", "."] 1 [] (zh ah aa aa cu trivial aa) aa (qM (dv 0)) (λC c e m a=>⟨(jr 0 a),zt,(jY (dv 0) ib)⟩))) aa T.cJ aa T.t6) (qe (l':=.b) qo xl aa T.cJ mn (aL (vb 0))))))))
theorem Ql(d:Dm Y C "__init__" "Calls.__init__" wH ["self", "chosen"])(g:cH Y ci "Calls" =ae (ae (.ref C))/\gI Y C)(a:mg "Calls" =ae (.ref C))(mk:wr Y C=af/\lc Y (.ref C)=af)(h:JL P w Y mg aj k qr):
  zw P w Y mg aj (k+1) jA:=
 PZ d g a mk jni aa au λf j A c s H E e=>
  (Yq (PX (zc (qK (DE.b (Av.aI h e (aL (dv 1)))))) (Us (Yr T.oU T.i9 T.gD Gp (QT (l:=.b)) (λx=>⟨_,rfl⟩))) (lz.x Pl)) (Pk (KB (i:=0) T.dr (DE.s (zZ (J5 aa (uH e)) Wa aa T.lB J6 (aL (dv 1)))))))
theorem WG(d:Dm Y C "told" "Calls.told" yr ["self"])(c:cH Y ci "Calls" =ae (ae (.ref C))/\gI Y C):
  yB P w Y mg aj (k+1) ql:=
 Yv af d c jnn λf e A a s H E g=>
  (ji (jO (jgH aa aa T.dR (vt 0 T.dr))))
theorem Y3(d:Dd Y mg wx):
  xm P w Y mg aj (k+1) jH:=
 q9 af d Rm λf c A a s H E e=>
  (jd (jD 2 Rm.nd (gL yO yP (DE.b (qd jT j8 (gL y8 QH (vb 0) ib) (gL y8 QH (DE.b (qd jT j8 (dv 1) cm)) ib))) (DE.b (qd jT j8 (gL uj ul ib ib) cm)))) (ji (jO (vq (l:=.t) yO yP (ob y8 QH (vb 2) (vb 2)) (DE.b (qd jT j8 (gL uj ul ib ib) cm))))))
theorem YZ(d:Dd Y mg wp):
  wB P w Y mg aj (k+1) jG:=
 q9 af d jnH λf c A a s H E e=>
  (ji (jO (yW (yV (l':=.b) "int" "int" uC (vb 0) aa T.aM aa T.t0 Rr) (Qe (Uu (l:=.t) (yV (l':=.b) "bool" "bool" WU (vb 0) aa T.aM aa T.nz Ml))))))
theorem VG(d:Dd Y mg wX)(e:xm P w Y mg aj k jH)(g:wB P w Y mg aj k jG):
  QB P w Y mg aj (k+1) qJ:=
 q9 af d rX λf h A c s H E a=>
  (jd (ZL (DE.s (yl wg xU aa T.dq zF (jg (dv 0) (aL cm)))) (qY aa (jr 0 rX.nd) (jr 6 rX.nd))) (jd (zD 4 rX.nd (qx yX)) (jd (zQ gE aa (yU aa T.fF (aL (DE.b (jY (dv 2) (vb 6))))) (jr 5 rX.nd) (jd (jD 0 rX.nd (DE.s (Av.aI e a (jg (dv 0) (aL (dv 5)))))) (jd (jD 7 rX.nd (jY (dv 3) (Qm (vb 0) (qe (l':=.b) qo xl aa T.cJ mn (aL (vb 3)))))) (jd (qS (j4 (zW (aX.cb a)) yu (Qm (ob y9 Ja (vb 0) ib) ib) ib) (ji (jD 7 rX.nd (jY (dv 3) (Qm (vb 5) (qe (l':=.b) qo xl aa T.cJ mn (aL (vb 3))))))) jM) (jd (qS (DW.dt (Uq (j4 (zW (aX.cb a)) yu (Qm (ob y9 Ja (vb 0) ib) ib) ib) (Uq (zc (qK (DE.b (Av.aI g a (aL (dv 7)))))) (Kz (j4 kE kL (qe (l':=.b) qo xl aa T.cJ mn (aL (vb 7))) ib))))) (ji (jD 7 rX.nd (jY (dv 7) ib))) jM) (jd (qS (j4 (zW (aX.cb a)) yu (Qm (ob y9 Ja (vb 0) ib) ib) ib) (ji (jD 7 rX.nd (DE.s (jN (jg (jY (dv 1) ib) (aL (dv 7))))))) jM) (ji (zY 4 (dv 7))))))))) (ji (jO (DE.lO (l':=.t) (Yt Jh KM aa T.cj oX (aL (HR jT j8 (DE.b (qx (aL (jY (dv 1) (vb 6))))) (db 4))))))))))
theorem Y0(d:Dd Y mg wq):
  JM P w Y mg aj (k+1) wD:=
 q9 ag d Rn λf c A a s H E e=>
  (jd (jD 3 Rn.nd (DE.s (qx (jg (dv 2) (jg (DE.s (jN (jg (jY (dv 1) ib) (aL (dv 2))))) (jg (DE.s (jN (jg (jY (dv 1) ib) (aL (DE.s (jN (jg (jY (dv 1) ib) (aL (dv 2))))))))) (jg (DE.s (jN (aL (jY (dv 1) ib)))) (jg (DE.s (jN (jg (jY (dv 1) ib) (aL (dv 2))))) (aL (dv 2)))))))))) (ji (Zq (jY (dv 3) (Qm (vb 0) ib)))))
theorem VD(d:Dd Y mg wU)(e:QB P w Y mg aj k qJ)(c:xm P w Y mg aj k jH)(h:JM P w Y mg aj k wD):
  QA P w Y mg aj (k+1) zj:=
 q9 af d oW λf i A g s H E a=>
  (jd (ZL (DE.s (yl wg xU aa T.dq zF (jg (dv 0) (aL cm)))) (qY aa (jr 0 oW.nd) (jr 8 oW.nd))) (jd (jD 3 oW.nd (gL yO yP (vb 0) ib)) (jd (jD 0 oW.nd (gL y9 Ja (vb 0) ib)) (jd (zD 4 oW.nd (qx yX)) (jd (zQ gE aa (yU aa T.fF (aL (DE.b (jY (dv 2) (vb 8))))) (jr 5 oW.nd) (ji (zY 4 (Av.call h a (jg (DE.s (Av.aI c a (jg (dv 0) (aL (dv 5))))) (jg (dv 1) (aL (gL yO yP (DE.b (qd jT j8 (dv 3) (gL y8 QH (vb 5) ib))) ib)))))))) (jd (jD 6 oW.nd (DE.lO (l':=.s) (Av.pU e a (jg (DE.b (Av.aI c a (jg (dv 0) (aL cm)))) (jg (vb 1) (jg (vb 2) (aL (db 4)))))))) (jd (jD 7 oW.nd (gL yO yP (vb 0) ib)) (jd (qS (j4 (zW (aX.cb a)) yu (vb 7) ib) (ji (jD 6 oW.nd (DE.s (jN (jg (jY (dv 1) ib) (aL (dv 6))))))) jM) (jd (qS (j4 (zW (aX.cb a)) yu (vb 7) ib) (ji (jD 6 oW.nd (DE.s (jN (jg (jY (dv 1) ib) (jg (DE.lO (l':=.s) (Av.pU e a (jg (DE.b (Av.aI c a (jg (dv 0) (aL cm)))) (jg (vb 1) (jg (vb 2) (aL (db 4))))))) (aL (dv 6)))))))) jM) (jd (qS (j4 (zW (aX.cb a)) yu (vb 7) ib) (ji (jD 6 oW.nd (DE.lO (l':=.s) (Av.pU e a (jg (DE.b (Av.aI c a (jg (dv 0) (aL cm)))) (jg (vb 1) (jg (vb 2) (aL (HR jT j8 (db 4) (DE.b (qx (aL (dv 6))))))))))))) jM) (jd (qS (j4 (zW (aX.cb a)) yu (Qm (ob y9 Ja (vb 0) ib) ib) ib) (ji (jD 6 oW.nd (DE.s (jN (aL (jY (dv 1) ib)))))) jM) (ji (jO (jN (jg (DE.lO (l':=.s) (Yt Jh KM aa T.cj oX (aL (HR jT j8 (DE.b (qx (aL (jY (dv 1) (vb 8))))) (db 4))))) (aL (dv 6)))))))))))))))))
theorem VE(d:Dd Y mg wV):
  Jn P w Y mg aj (k+1) qI:=
 q9 af d Ro λf h A c s H E i=>
  (jd (jD 1 Ro.nd (QT (l:=.s))) (ji (jO (zE ag ["_law_k", "_law_letters", "."] 1 [1] (zh ah aa aa cu ⟨rfl,trivial⟩ aa) aa (yU aa T.fF (aL (vb 0))) (λC e g j a=>⟨(jr 0 a),zt,(DE.s (jN (jg (DE.s (jN (jg (jY (dv 1) (Qm (vb 0) ib)) (aL (DE.s (qd jT j8 cm (gL y9 Ja (vb 0) ib))))))) (aL (gL y9 Ja (vb 0) ib)))))⟩)))))
theorem Y6(d:Dd Y mg wA):
  JQ P w Y mg aj (k+1) qQ:=
 q9 af d jnq λf c A a s H E e=>
  (ji (jO (yW (yV (l':=.b) "bool" "bool" WU (vb 0) aa T.aM aa T.nz Ml) (Qe (yk (l:=.t) (zW (aX.cb e)) yu (vb 0) (vb 1))))))
theorem WE(d:Dd Y mg zm)(g:zw P w Y mg aj h jA)(i:h+1<=k):
  yA P w Y mg aj (k+1) zp:=
 q9 af d Gf λf j A a s H E c=>
  (jd (jD 1 Gf.nd (DE.s (qx yX))) (jd (jlW ["NoPath", "NoPaper", "NoRule"] 2 Gf.nd (λm n=>by exact(jgx (jgv (lA.make g (c.mono i) (aL (dv 0)))))) (λe=>by exact(ji (jD 1 Gf.nd (DE.s (qx (jg (O7 (l':=.s) [("NoPath",ag),("NoPaper",af),("NoRule",ag)] "NoPaper" T.oV (vb 2) aa T.aM aa T.i9) (aL (O7 (l':=.s) [("NoPath",ag),("NoPaper",ag),("NoRule",ag)] "NoHead" T.ri (vb 2) aa T.aM aa T.rf)))))))) T.nA T.nB) (ji (jO (yk (l:=.t) (zW (aX.cb c)) yu (vb 1) (DE.b (qx (jg (wf (l:=.s)) (aL (wf (l:=.s)))))))))))
theorem WD(d:Dd Y mg zl):
  yz P w Y mg aj (k+1) qD:=
 q9 ag d Gg λf e A a s H E c=>
  (jd (zD 2 Gg.nd QV) (jd (zD 3 Gg.nd (qx (aL (dv 0)))) (jd (KC 2000 gE (HS (db 3)) (ji (jgz gE aa (jd8 1 3 (xt c)) (jr 4 Gg.nd) (ji (qS (j4 (Zi (xt c)) Zj (vb 4) (db 2)) (jd (Z7 2 (xt c) (vb 4) (wf (l:=.s))) (ji (zY 3 (dv 4)))) jM))))) (Z6 2 (ji (Zq (dv 2)))))))
theorem ja1(d:Dd Y mg yH)(i:yz P w Y mg aj k qD):
  Q3 P w Y mg aj (k+1) xo:=
 q9 af d Md λf j A c s H E e=>
  (jd (zD 1 Md.nd QV) (jjz 1 0 2 3 (xt e) gE aa Md.nd (ji (jO (zZ (J5 aa (uH e)) Wa aa T.lB J6 (aL (DE.s (zE ag ["start", "straight", "."] 1 [1] (zh ah aa aa cu ⟨rfl,trivial⟩ aa) aa (vo (dv 1)) (λC g h l a=>⟨(jr 0 a),zt,(DE.s (jN (jg (dv 0) (aL (Av.call i e (jg (dv 0) (aL (dv 1))))))))⟩)))))))))
theorem jiw(d:Dd Y mg XW):
  Xn P w Y mg aj (k+1) j9:=
 q9 af d jnO λf c A a s H E e=>
  (ji (jO (HU (qK (yV (l':=.b) "tuple" "tuple" zn (vb 0) aa T.aM aa T.cj oX)) (jN (jg (jY (dv 0) ib) (aL (gL Nk Ob (qe (l':=.b) qo xl aa T.cJ mn (aL (vb 0))) ib)))) (QU (l:=.t)))))
theorem jcN(d:Dd Y mg JV):
  Ji P w Y mg aj (k+1) qk:=
 q9 af d jn6 λf c A a s H E e=>
  (ji (jO (HU (qK (yV (l':=.b) "tuple" "tuple" zn (vb 0) aa T.aM aa T.cj oX)) (yj (dv 0) (yx ib) JI) (jN yX))))
theorem Jv(d:Dm Y C "chosen_part" "Calls.chosen_part" zB ["self", "term"])(e:cH Y ci "Calls" =ae (ae (.ref C))/\gI Y C)(g:Xn P w Y mg aj k j9)(h:Ji P w Y mg aj k qk):
  qN P w Y mg aj (k+1) jt:=
 Yv af d e Rp λf i A a s H E c=>
  (jd (jD 2 Rp.nd (jgJ (xt c) (vt 0 T.dr) (DE.b (Av.aI g c (aL (dv 1)))))) (ji (jO (HU (j4 He Iu (vb 2) (QU (l:=.b))) (QU (l:=.t)) (DE.lO (l':=.t) (jY (DE.s (Av.aI h c (aL (dv 1)))) (vb 2)))))))
theorem jfs(d:Dd Y mg Zd)(e:Ji P w Y mg aj k qk)(g:Jk P w Y mg aj k h):
  Jk P w Y mg aj (k+1) (bp af 3 (W4 h)):=
 q9 af d Me λf i A a s H E c=>
  (jd (zD 1 Me.nd (qx (aL (dv 0)))) (jd (zQ gE aa (qM (DE.s (Av.aI e c (aL (dv 0))))) (jr 2 Me.nd) (ji (QR 1 (DE.s (Av.aI g c (aL (dv 2))))))) (ji (Qt 1))))
theorem Jz(d:Dm Y C "lets_calls" "Calls.lets_calls" zR ["self", "found"])(m:cH Y ci "Calls" =ae (ae (.ref C))/\gI Y C)(n:Q3 P w Y mg aj k xo)(g:qN P w Y mg aj k jt)(o:Jk P w Y mg aj k (j5 64))(h:Xn P w Y mg aj k j9):
  zS P w Y mg aj (k+1) qA:=
 Yv af d m AY λf p A e s H E a=>
  (jd (zD 2 AY.nd (qx yX)) (jd (zQ gE aa (qM (dv 1)) (qY aa (jr 4 AY.nd) (jr 5 AY.nd)) (jd (jD 6 AY.nd (DE.s (gz.aI g a (dv 0) (aL (dv 4))))) (jd (jD 7 AY.nd (DE.s (gz.aI g a (dv 0) (aL (dv 5))))) (jd (qS (DW.dt (Jf (j4 He Iu (vb 6) (QU (l:=.b))) (Jf (j4 He Iu (vb 7) (QU (l:=.b))) (yT (j4 (OJ (aX.cb a)) (VI af) (vb 7) (DE.b (Av.aI o a (aL (dv 6))))))))) (ji (jO (wf (l:=.t)))) jM) (ji (qS (j4 (zW (aX.cb a)) yu (vb 6) (vb 7)) (ji (zY 2 (DE.s (jN (jg (DE.s (Av.aI h a (aL (dv 4)))) (aL (DE.s (Av.aI h a (aL (dv 5)))))))))) jM)))))) (jd (Xb 2 (zD 3 AY.nd (Av.aI n a (aL (dv 2))))) (Z6 3 (ji (jO (Uu (l:=.t) (qe (l':=.b) (UG aa) PV aa T.t4 Rs (aL (DE.b (zE ag ["start", "onward", "."] 1 [3] (zh ah aa aa cu ⟨rfl,trivial⟩ aa) aa (vo (dv 3)) (λC i j q c=>⟨(jr 0 c),zt,(yk (l:=.s) (uk (xt a)) um (vb 0) (DE.b (Xe (xt a) (dv 1) (vb 0))))⟩))))))))))))
theorem WF(d:Dm Y C "told" "Rules.told" yq ["self"])(c:cH Y ci "Rules" =ae (ae (.ref C))/\gI Y C):
  xk P w Y mg aj (k+1) qE:=
 Yv af d c jnp λf e A a s H E g=>
  (ji (jO (zZ yn KN aa T.dR zo (aL (vt 0 T.fy)))))
theorem Xw(d:Dd Y mg zI)(e:Ji P w Y mg aj k qk)(g:xH P w Y mg aj k qj):
  Jj P w Y mg aj (k+1) zi:=
 Pw ag d Rq λf h A a s H E c=>
  (JH (DS.x (jD 2 Rq.nd (DE.s (Av.aI e c (aL (dv 0)))))) (JH (OU (DW.dt (Jf (zc (qK (DE.b (Av.aI g c (aL (dv 1)))))) (yT (zc (uZ Xv XB Nl Oc ib (vb 1) (qe (l':=.b) qo xl aa T.cJ mn (aL (vb 2)))))))) (QQ (Ur T.mj T.mi T.gg Gp (QT (l:=.b)) (λx=>⟨_,rfl⟩))) O6) (QQ (DS.x (Zq (jY (dv 2) (vb 1)))))))
theorem YX(d:Dd Y mg wn)(c:Jj P w Y mg aj k zi):
  JK P w Y mg aj (k+1) zG:=
 Pw ag d Gh λf e A a s H E g=>
  (JH (OU (zc (qK (yV (l':=.b) "tuple" "tuple" zn (vb 1) aa T.aM aa T.cj oX))) (QQ (Ur T.mj T.mi T.gg Gp (QT (l:=.b)) (λx=>⟨_,rfl⟩))) O6) (JH (DS.x (jD 2 Gh.nd (dv 0))) (JH (jjy PassesOwn.leaving aa (qM (dv 1)) (jr 3 Gh.nd) (QQ (jgw 2 Gh.nd (mK.DH c g (jg (dv 2) (aL (dv 3))))))) (QQ (DS.x (Zq (dv 2)))))))
theorem jfr(d:Dd Y mg Zc)(i:Ji P w Y mg aj k qk)(j:K3 P w Y mg aj k l):
  K3 P w Y mg aj (k+1) (bp af 4 (Rk l)):=
 q9 af d Gi λf m A c s H E e=>
  (jd (zD 1 Gi.nd (qx (aL (DE.s (jN yX))))) (jd (zQ gE aa (jgF aa T.fx (DE.s (Av.aI i e (aL (dv 0))))) (qY aa (jr 2 Gi.nd) (jr 3 Gi.nd)) (ji (QR 1 (DE.s (zE ag ["rest", "number", "."] 1 [2] (zh ah aa aa cu ⟨rfl,trivial⟩ aa) aa (qM (DE.s (Av.aI j e (aL (dv 3))))) (λC g h n a=>⟨(jr 0 a),zt,(DE.s (qd jT j8 (DE.s (jN (aL (dv 1)))) (dv 0)))⟩)))))) (ji (Qt 1))))
theorem jft(d:Dd Y mg Ze)(j:xk P w Y mg aj k qE)(m:K3 P w Y mg aj k (xc 64))(n:Jk P w Y mg aj k (j5 64))(g:Xn P w Y mg aj k j9):
  vC P w Y mg aj (k+1) Zz:=
 q9 af d t7 λf o A e s H E c=>
  (jd (jD 1 t7.nd (DE.s (gz.ij j c (dv 0)))) (jd (jD 2 t7.nd (DE.s (zZ (J5 aa (uH c)) Wa aa T.lB J6 (aL (DE.s (zE ag ["left", "right", "."] 2 [] (zh ah aa aa cu trivial aa) aa (qM (dv 1)) (λC h i p a=>⟨(qY aa (jr 0 a) (jr 1 a)),zt,(DE.s (jN (jg (DE.s (Av.aI g c (aL (dv 0)))) (aL (wf (l:=.s))))))⟩))))))) (jd (zD 3 t7.nd (qx yX)) (jd (zQ gE aa (OP aa T.fx (dv 1)) (qY aa (jr 4 t7.nd) (jr 5 t7.nd)) (ji (zQ gE aa (jjB aa T.Ep (DE.s (Av.aI m c (aL (jY (dv 5) ib)))) (DE.s (Av.aI n c (aL (jY (dv 5) ib))))) (qY aa (jr 6 t7.nd) (jr 7 t7.nd)) (ji (qS (j4 (uk (xt c)) um (DE.b (Av.aI g c (aL (dv 7)))) (vb 2)) (ji (zY 3 (DE.s (jN (jg (dv 4) (aL (dv 6))))))) jM))))) (ji (Qt 3))))))
theorem YW(d:Dd Y mg wm)(m:xk P w Y mg aj k qE)(n:Q3 P w Y mg aj k xo)(o:JK P w Y mg aj k zG)(i:vC P w Y mg aj k Zz)(h:Xn P w Y mg aj k j9):
  JJ P w Y mg aj (k+1) xn:=
 q9 af d Gj λf p A j s H E c=>
  (jd (jD 1 Gj.nd (DE.s (gz.ij m c (dv 0)))) (jd (N9 2 Gj.nd ag ["number", "path", "listed", "."] 2 [1] (zh ah aa aa cu ⟨rfl,trivial⟩ aa) aa (qM (DE.s (Av.aI i c (aL (dv 0))))) (λC e g l a=>⟨(qY aa (jr 0 a) (jr 1 a)),zt,(DE.s (jN (jg (jY (jY (dv 2) (vb 0)) ib) (aL (Av.call (mK.av o) c (jg (jY (jY (dv 2) (vb 0)) ib) (aL (dv 1))))))))⟩)) (jd (zD 3 Gj.nd (Av.aI n c (aL (DE.s (zE ag ["left", "there", "."] 2 [] (zh ah aa aa cu trivial aa) aa (qM (dv 2)) (λC e g l a=>⟨(qY aa (jr 0 a) (jr 1 a)),zt,(DE.s (jN (jg (DE.s (Av.aI h c (aL (dv 0)))) (aL (DE.s (Av.aI h c (aL (dv 1))))))))⟩)))))) (Z6 3 (ji (jO (zE ag ["left", "there", "onward", "."] 2 [3] (zh ah aa aa cu ⟨rfl,trivial⟩ aa) aa (qM (dv 2)) (λC e g l a=>⟨(qY aa (jr 0 a) (jr 1 a)),(jjx (j4 (uk (xt c)) um (DE.b (Av.aI h c (aL (dv 0)))) (DE.b (jgI (xt c) 2 (DE.b (Av.aI h c (aL (dv 1)))) jeh)))),(DE.s (jN (jg (dv 0) (aL (dv 1)))))⟩))))))))
theorem WH(d:Dm Y C "lets" "Calls.lets" yt ["self", "rules"])(e:cH Y ci "Calls" =ae (ae (.ref C))/\gI Y C)(g:zS P w Y mg aj k qA)(h:JJ P w Y mg aj k xn):
  yC P w Y mg aj (k+1) qU:=
 Yv af d e jnl λf i A a s H E c=>
  (ji (jO (gz.aI g c (dv 0) (aL (DE.s (Av.aI h c (aL (dv 1))))))))
theorem VF(d:Dd Y mg wW):
  xW P w Y mg aj (k+1) jC:=
 q9 af d jny λf c A a s H E e=>
  (ji (jO (jN (jg (jY (dv 0) ib) (aL (gL Nk Ob (qe (l':=.b) qo xl aa T.cJ mn (aL (vb 0))) ib))))))
theorem Y1(d:Dd Y mg wu)(e:wB P w Y mg aj k jG)(g:wC P w Y mg aj k h):
  wC P w Y mg aj (k+1) (bp af 3 (ZG h)):=
 q9 af d Mf λf i A a s H E c=>
  (jd (zD 1 Mf.nd (qx (aL (dv 0)))) (jd (qS (zc (qK (DE.b (Av.aI e c (aL (dv 0)))))) (ji (zQ gE aa (qM (DE.s (yj (dv 0) (yx ib) JI))) (jr 2 Mf.nd) (ji (QR 1 (DE.s (Av.aI g c (aL (dv 2)))))))) jM) (ji (Qt 1))))
theorem Y5(d:Dd Y mg wz)(g:xW P w Y mg aj k jC)(j:wC P w Y mg aj k (j3 64))(l:wB P w Y mg aj k jG):
  JP P w Y mg aj (k+1) xp:=
 q9 af d B1 λf m A e s H E c=>
  (jd (N9 1 B1.nd ag ["_law_left", "_law_right", "."] 2 [] (zh ah aa aa cu trivial aa) aa (qM (dv 0)) (λC h i n a=>⟨(qY aa (jr 0 a) (jr 1 a)),zt,(DE.s (Av.aI g c (aL (dv 0))))⟩)) (jd (zD 2 B1.nd (qx yX)) (jd (zQ gE aa (qM (dv 0)) (qY aa (jr 3 B1.nd) (jr 4 B1.nd)) (ji (zQ gE aa (qM (DE.s (Av.aI j c (aL (dv 4))))) (jr 5 B1.nd) (ji (qS (DW.dt (Uq (zc (qK (DE.b (Av.aI l c (aL (dv 5)))))) (Kz (j4 (II (aX.cb c)) (VI ag) (DE.b (Av.aI g c (aL (dv 5)))) (vb 1))))) (ji (zY 2 (DE.s (jN (jg (dv 3) (aL (dv 5))))))) jM))))) (ji (Qt 2)))))
theorem Xz(d:Dd Y mg zL):
  Jo P w Y mg aj (k+1) qB:=
 q9 ag d rY λf e A c s H E a=>
  (jd (zD 1 rY.nd QV) (jd (zQ gE aa (qM (dv 0)) (jr 2 rY.nd) (ji (Z7 1 (xt a) (vb 2) (wf (l:=.s))))) (jd (jD 3 rY.nd (wf (l:=.s))) (jd (KC 2000 gE (HS (vb 3)) (jd (jD 3 rY.nd (wf (l:=.s))) (ji (zQ gE aa (qM (DE.s (jee 1 aa aa T.dR))) (qY aa (jr 4 rY.nd) (jr 5 rY.nd)) (ji (zQ gE aa (qM (dv 0)) (qY aa (jr 6 rY.nd) (jr 7 rY.nd)) (ji (qS (DW.dt (Uq (j4 (zW (aX.cb a)) yu (vb 5) (vb 6)) (Kz (j4 (Zi (xt a)) Zj (DE.b (jN (jg (dv 4) (aL (dv 7))))) (db 1))))) (jd (Z7 1 (xt a) (DE.b (jN (jg (dv 4) (aL (dv 7))))) (wf (l:=.s))) (ji (jD 3 rY.nd (wf (l:=.s))))) jM)))))))) (Z6 1 (ji (Zq (dv 1))))))))
theorem kJ(d:Dd Y mg xE)(m:JP P w Y mg aj k xp)(j:Jo P w Y mg aj k qB)(h:xW P w Y mg aj k jC)(n:wC P w Y mg aj k (j3 64)):
  Zx P w Y mg aj (k+1) xf:=
 q9 af d rZ λf o A i s H E c=>
  (jd (jD 2 rZ.nd (DE.s (Av.aI m c (aL (dv 0))))) (jd (jD 3 rZ.nd (Av.call j c (aL (DE.s (zE ag ["_law_left", "_law_call_here", "."] 2 [] (zh ah aa aa cu trivial aa) aa (qM (dv 2)) (λC e g p a=>⟨(qY aa (jr 0 a) (jr 1 a)),zt,(DE.s (jN (jg (DE.s (Av.aI h c (aL (dv 0)))) (aL (DE.s (Av.aI h c (aL (dv 1))))))))⟩)))))) (jd (zD 4 rZ.nd (qx yX)) (jd (zQ gE aa (qM (dv 2)) (qY aa (jr 5 rZ.nd) (jr 6 rZ.nd)) (jd (jD 7 rZ.nd (DE.s (Av.aI h c (aL (dv 5))))) (jd (jD 8 rZ.nd (DE.s (Av.aI h c (aL (dv 6))))) (ji (qS (j4 (uk (xt c)) um (DE.b (jN (jg (dv 8) (aL (dv 7))))) (vb 3)) (jd (qS (DW.dt (Jf (j4 (Zi (xt c)) Zj (vb 7) (vb 1)) (yT (j4 (Zi (xt c)) Zj (vb 8) (vb 1))))) (ji (jO (wf (l:=.t)))) jM) (jd (jD 9 rZ.nd (jY (dv 5) (DE.b (qd jT j8 cm (Xe (xt c) (dv 1) (vb 7)))))) (jd (jD 10 rZ.nd (jY (dv 6) (DE.b (qd jT j8 cm (Xe (xt c) (dv 1) (vb 8)))))) (jd (qS (j4 (OJ (aX.cb c)) (VI af) (vb 10) (DE.b (Av.aI n c (aL (dv 9))))) (ji (jO (wf (l:=.t)))) jM) (ji (qS (j4 (zW (aX.cb c)) yu (vb 9) (vb 10)) (ji (zY 4 (DE.s (jN (jg (dv 7) (aL (dv 8))))))) jM)))))) jM))))) (ji (Xb 4 (jO (Uu (l:=.t) (qe (l':=.b) (UG aa) PV aa T.t4 Rs (aL (DE.b (zE ag ["_law_one", "_law_other", "."] 2 [] (zh ah aa aa cu trivial aa) aa (vo (Av.call j c (aL (dv 4)))) (λC e g p a=>⟨(qY aa (jr 0 a) (jr 1 a)),zt,(yk (l:=.s) (zW (aX.cb c)) yu (vb 0) (vb 1))⟩)))))))))))))
theorem kK(d:Dd Y mg xF)(e:Jn P w Y mg aj k qI):
  Zy P w Y mg aj (k+1) xg:=
 q9 ag d B2 λf g A c s H E a=>
  (jd (ZL (DE.s (yl wg xU aa T.dq zF (jg (dv 0) (aL cm)))) (qY aa (jr 0 B2.nd) (jr 5 B2.nd))) (jd (jD 3 B2.nd (gL yO yP (vb 0) (DE.b (qd jT j8 (qe (l':=.s) qo xl aa T.cJ mn (aL (vb 2))) cm)))) (jd (qS (j4 (zW (aX.cb a)) yu (vb 5) ib) (ji (jO (qd jT j8 (DE.s (qd jT j8 (DE.s (qd jT j8 (DE.s (qx (aL (DE.s (jN (jg (DE.s (jN (jg (jY (dv 1) ib) (aL cm)))) (aL cm))))))) (DE.s (yj (dv 2) JI (yx (vb 3)))))) (DE.s (qx (aL (DE.s (jN (jg (DE.s (jN (jg (jY (dv 1) ib) (aL cm)))) (aL cm))))))))) (DE.s (yj (dv 2) (yx (vb 3)) JI))))) jM) (jd (qS (j4 (zW (aX.cb a)) yu (vb 5) ib) (ji (Zq (jY (DE.s (qx (jg (DE.s (zZ Jh KM aa T.cj oX (aL (dv 2)))) (jg (QU (l:=.s)) (jg (DE.s Oi) (jg (QT (l:=.s)) (aL cm))))))) (Qm (vb 0) ib)))) jM) (jd (qS (j4 (zW (aX.cb a)) yu (vb 5) ib) (ji (jO (Av.aI e a (aL cm)))) jM) (jd (jD 4 B2.nd (DE.s (qx (jg (DE.s (jN (jg (DE.s (jN (jg (jY (dv 1) ib) (aL cm)))) (aL (DE.s (qd jT j8 cm (gL yO yP (vb 0) ib))))))) (jg (DE.s (jN (jg (DE.s (jN (jg (jY (dv 1) ib) (aL cm)))) (aL (jl0 (l':=.s) ib))))) (jg (DE.s (jN (jg (DE.s (jN (jg (jY (dv 1) ib) (aL cm)))) (aL (wf (l:=.s)))))) (aL (DE.s (jN (jg (DE.s (jN (jg (jY (dv 1) ib) (aL cm)))) (aL cm))))))))))) (jd (jD 4 B2.nd (DE.s (qd jT j8 (dv 4) (DE.s (qx (jg (DE.s (jN (jg (DE.s (jN (jg (QT (l:=.s)) (aL cm)))) (aL cm)))) (jg (DE.s (jN (jg (DE.s (jN (jg (jY (dv 1) ib) (aL cm)))) (jg cm (aL cm))))) (jg (DE.s (jN (jg (jY (dv 1) ib) (aL cm)))) (jg (DE.s (qx (jg (DE.s (jN (jg (jY (dv 1) ib) (aL cm)))) (aL cm)))) (jg (QU (l:=.s)) (aL (DE.s (jN (jg (DE.s (jN (jg (jY (dv 1) ib) (aL cm)))) (aL cm))))))))))))))) (ji (jO (qd jT j8 (DE.s (qd jT j8 (DE.s (yj (dv 2) JI (yx (vb 3)))) (DE.s (qx (aL (jY (dv 4) (Qm (ob y9 Ja (vb 0) ib) ib))))))) (DE.s (yj (dv 2) (yx (vb 3)) JI))))))))))))
theorem VC(d:Dd Y mg wT)(e:Jk P w Y mg aj k (j5 64))(g:Xn P w Y mg aj k j9):
  Qz P w Y mg aj (k+1) x8:=
 q9 af d Gk λf h A a s H E c=>
  (jd (zD 1 Gk.nd QV) (jd (zQ gE aa (qM (dv 0)) (jr 2 Gk.nd) (ji (zQ gE aa (qM (DE.s (Av.aI e c (aL (dv 2))))) (jr 3 Gk.nd) (ji (qS (qK (yV (l':=.b) "tuple" "tuple" zn (vb 3) aa T.aM aa T.cj oX)) (ji (Z7 1 (xt c) (DE.b (Av.aI g c (aL (dv 3)))) (wf (l:=.s)))) jM))))) (ji (Xb 1 (jO (yl (UD aa) jbz aa T.qR UI (aL (dv 1))))))))
theorem Xx(d:Dd Y mg zJ)(c:Ji P w Y mg aj k qk):
  Jl P w Y mg aj (k+1) qO:=
 q9 af d Mg λf e A a s H E g=>
  (jd (zD 1 Mg.nd (qx yX)) (jd (zQ gE aa (qM (dv 0)) (jr 2 Mg.nd) (ji (QR 1 (DE.s (Av.aI c g (aL (dv 2))))))) (ji (Qt 1))))
theorem kH(d:Dd Y mg xC)(c:Jl P w Y mg aj k qO):
  Zv P w Y mg aj (k+1) xJ:=
 q9 af d AZ λf e A a s H E g=>
  (jd (jD 1 AZ.nd (DE.s (qx (aL (dv 0))))) (jd (jD 2 AZ.nd cm) (jd (jD 3 AZ.nd cm) (jd (KC 2000 gE (HS (vb 1)) (jd (NR 2 AZ.nd ib Nh) (jd (NR 3 AZ.nd (qe (l':=.b) qo xl aa T.cJ mn (aL (vb 1))) Nh) (jd (qS (DW.dt (Jf (j4 kE kL (vb 2) (gi aa T.iV)) (yT (j4 kE kL (vb 3) (gi aa T.lD))))) (ji (jO (wf (l:=.t)))) jM) (ji (jD 1 AZ.nd (DE.s (Av.aI c g (aL (dv 1)))))))))) (ji (jO (wf (l:=.t))))))))
theorem kI(d:Dd Y mg xD)(c:xH P w Y mg aj k qj):
  Zw P w Y mg aj (k+1) xK:=
 q9 af d jnQ λf e A a s H E g=>
  (ji (jO (yW (DE.b (Av.aI c g (aL (dv 0)))) (Qe (Z8 (l:=.t) Xv XB Xv XB ib (vb 0) (gi aa T.lC))))))
theorem kG(d:Dd Y mg xB)(a:Zw P w Y mg aj k xK)(g:Q4 P w Y mg aj k wO):
  Zu P w Y mg aj (k+1) xI:=
 q9 af d jnV λf h A c s H E e=>
  (jd (qS (qK (yV (l':=.b) "tuple" "tuple" zn (vb 0) aa T.aM aa T.cj oX)) (ji (jO (yW (Z8 (l:=.b) Xv XB Xv XB ib (qe (l':=.b) qo xl aa T.cJ mn (aL (vb 0))) (DE.b (qd jT j8 (gis aa T.fO) cm))) (Qe (Av.aI g e (aL (jY (dv 0) ib))))))) jM) (ji (jO (Av.aI a e (aL (dv 0))))))
theorem ja2(d:Dd Y mg yI)(c:Zv P w Y mg aj k xJ)(e:Zu P w Y mg aj k xI)(m:Jk P w Y mg aj k (j5 64)):
  Xk P w Y mg aj (k+1) xY:=
 q9 af d jnX λf n A g s H E h=>
  (ji (jO (yW (Uu (l:=.b) (DE.b (Av.aI c h (aL (dv 0))))) (Qe (qe (l':=.t) (Q0 aa) Fm aa T.n5 Go (aL (DE.b (zE ag ["found", "."] 1 [] (zh ah aa aa cu trivial aa) aa (qM (DE.s (Av.aI m h (aL (dv 0))))) (λC i j o a=>⟨(jr 0 a),zt,(DE.s (Av.aI e h (aL (dv 0))))⟩)))))))))
theorem jcO(d:Dd Y mg JW)(e:Jk P w Y mg aj k (j5 64)):
  K4 P w Y mg aj (k+1) J7:=
 q9 af d Mh λf g A a s H E c=>
  (jd (zD 1 Mh.nd Oi) (jd (zQ gE aa (qM (DE.s (Av.aI e c (aL (dv 0))))) (jr 2 Mh.nd) (ji (qS (zc (qK (yV (l':=.b) "tuple" "tuple" zn (vb 2) aa T.aM aa T.cj oX))) (ji (jjA 1 (xt c) (vb 2) (wf (l:=.s)))) jM))) (ji (Xb 1 (jO (zZ (jbC aa) jgR aa T.dR zo (aL (dv 1))))))))
theorem ja3(d:Dd Y mg yJ)(g:Xk P w Y mg aj k xY)(c:K4 P w Y mg aj k J7):
  Xl P w Y mg aj (k+1) yZ:=
 q9 af d jnW λf h A e s H E a=>
  (jd (qS (DW.dt (Jf (zc (qK (yV (l':=.b) "tuple" "tuple" zn (vb 0) aa T.aM aa T.cj oX))) (yT (j4 (ZC (aX.cb a)) VH (qe (l':=.b) qo xl aa T.cJ mn (aL (vb 0))) ib)))) (ji (jO (wf (l:=.t)))) jM) (jd (qS (DW.dt (Jf (zc (qK (DE.b (Av.aI g a (aL (jY (dv 0) ib)))))) (Jf (zc (qK (DE.b (Av.aI g a (aL (jY (dv 0) ib)))))) (yT (zc (qK (yV (l':=.b) "tuple" "tuple" zn (DE.b (jY (dv 0) ib)) aa T.aM aa T.cj oX))))))) (ji (jO (wf (l:=.t)))) jM) (ji (jO (yk (l:=.t) (zW (aX.cb a)) yu (jeb aa (DE.b (Av.aI c a (aL (jY (dv 0) ib)))) (DE.b (Av.aI c a (aL (jY (dv 0) ib)))) aa T.cJ aa T.t6) ib)))))
theorem VB(d:Dd Y mg wS)(c:Xl P w Y mg aj k yZ):
  Qy P w Y mg aj (k+1) xZ:=
 q9 af d jnK λf i A e s H E j=>
  (jd (qS (DW.dt (Jf (zc (qK (yV (l':=.b) "list" "list" WT (vb 0) aa T.aM aa T.dR zo))) (yT (j4 kE kL (qe (l':=.b) qo xl aa T.cJ mn (aL (vb 0))) (gi aa T.lF))))) (ji (jO (wf (l:=.t)))) jM) (ji (jO (qe (l':=.t) (Q0 aa) Fm aa T.n5 Go (aL (DE.b (zE ag ["rule", "."] 1 [] (zh ah aa aa cu trivial aa) aa (qM (dv 0)) (λC g h m a=>⟨(jr 0 a),zt,(DE.s (Av.aI c j (aL (dv 0))))⟩))))))))
theorem Qk(d:Dm Y C "__init__" "Rules.__init__" wG ["self", "rules"])(m:cH Y ci "Rules" =ae (ae (.ref C))/\gI Y C)(g:mg "Rules" =ae (.ref C))(mk:wr Y C=af/\lc Y (.ref C)=af)(n:Qz P w Y mg aj k x8)(o:Qy P w Y mg aj k xZ):
  wN P w Y mg aj (k+1) qf:=
 PZ d m g mk jno aa au λf p A h s H E j=>
  (Yq (PX (zc (qK (DE.b (Av.aI o j (aL (dv 1)))))) (Us (Yr T.rg T.rc T.io Gp (QT (l:=.b)) (λx=>⟨_,rfl⟩))) (lz.x Pl)) (jd1 (KB (i:=0) T.fy (DE.s (zZ yn KN aa T.dR zo (aL (dv 1))))) (Pk (KB (i:=0) T.iX (DE.s (Av.aI n j (aL (DE.s (qd jT j8 (DE.s (zE ag ["left", "right", "."] 2 [] (zh ah aa aa cu trivial aa) aa (qM (dv 1)) (λC c e q a=>⟨(qY aa (jr 0 a) (jr 1 a)),zt,(dv 0)⟩))) (DE.s (zE ag ["left", "right", "."] 2 [] (zh ah aa aa cu trivial aa) aa (qM (dv 1)) (λC c e q a=>⟨(qY aa (jr 0 a) (jr 1 a)),zt,(dv 1)⟩))))))))))))
theorem ZR(d:Dm Y C "falls" "Calls.falls" xO ["self", "one", "other"])(g:cH Y ci "Calls" =ae (ae (.ref C))/\gI Y C)(e:qN P w Y mg aj k jt)(h:Jk P w Y mg aj k (j5 64)):
  xX P w Y mg aj (k+1) q8:=
 Yv af d g Mi λf i A c s H E a=>
  (jd (jD 3 Mi.nd (DE.s (gz.aI e a (dv 0) (aL (dv 1))))) (jd (jD 4 Mi.nd (DE.s (gz.aI e a (dv 0) (aL (dv 2))))) (ji (jO (yW (yk (l:=.b) Nm Pa (vb 3) (QU (l:=.b))) (yW (yk (l:=.b) Nm Pa (vb 4) (QU (l:=.b))) (yW (yk (l:=.b) (ZC (aX.cb a)) VH (vb 3) (vb 4)) (Qe (yk (l:=.t) (II (aX.cb a)) (VI ag) (vb 4) (DE.b (Av.aI h a (aL (dv 3)))))))))))))
theorem Y4(d:Dd Y mg wy)(g:wB P w Y mg aj k jG)(c:xW P w Y mg aj k jC)(h:wC P w Y mg aj k (j3 64)):
  JO P w Y mg aj (k+1) wF:=
 q9 af d Mj λf i A e s H E a=>
  (jd (qS (DW.dt (Jf (qK (DE.b (Av.aI g a (aL (dv 1))))) (Jf (qK (DE.b (Av.aI g a (aL (dv 2))))) (Jf (j4 (Zi (xt a)) Zj (DE.b (Av.aI c a (aL (dv 1)))) (vb 0)) (yT (j4 (Zi (xt a)) Zj (DE.b (Av.aI c a (aL (dv 2)))) (vb 0))))))) (ji (jO (wf (l:=.t)))) jM) (jd (jD 3 Mj.nd (jY (dv 1) (DE.b (qd jT j8 cm (Xe (xt a) (dv 0) (DE.b (Av.aI c a (aL (dv 1))))))))) (jd (jD 4 Mj.nd (jY (dv 2) (DE.b (qd jT j8 cm (Xe (xt a) (dv 0) (DE.b (Av.aI c a (aL (dv 2))))))))) (ji (jO (yW (yk (l:=.b) (ZC (aX.cb a)) VH (vb 3) (vb 4)) (Qe (yk (l:=.t) (II (aX.cb a)) (VI ag) (vb 4) (DE.b (Av.aI h a (aL (dv 3))))))))))))
theorem jk6(q:mE Y "law" "law" YI f r)(c:Jm P w Y mg aj k qP)(u:JN P w Y mg aj k wE)(v:Jp P w Y mg aj k zN)(i:zw P w Y mg aj y jA)(j:y+1<=k)(d:yB P w Y mg aj k ql)(m:QA P w Y mg aj k zj)(n:Jn P w Y mg aj k qI)(o:JQ P w Y mg aj k qQ)(p:xm P w Y mg aj k jH)(z:yA P w Y mg aj k zp)(B:yC P w Y mg aj k qU)(e:Zx P w Y mg aj k xf)(g:Zy P w Y mg aj k xg)(I:wN P w Y mg aj Qp qf)(Qr:Qp+1<=k)(Xs:xX P w Y mg aj k q8)(UW:JO P w Y mg aj k wF):
  cZ P w Y mg aj mD (k+1) f r ["_law_script"] (nQ Y af 1 n4):=
 jbt af q ml λCL A h s H E a=>
  (jd (jD 1 ml.nd (DE.s (Av.aI c a (jg (jY (DE.s (qd Pc Pe (dv 0) (DE.s (qx (aL cm))))) ib) (aL cm))))) (jd (zD 2 ml.nd (Av.aI u a (aL (dv 1)))) (jd (jD 3 ml.nd (DE.s (qx (jg (DE.s (qd jT j8 cm (gL yO yP (FV (vb 1) (FU ib ib)) ib))) (jg (DE.s (qd jT j8 cm (gL yO yP (FV (vb 1) (FU ib ib)) ib))) (aL (DE.s (qd jT j8 cm (gL yO yP (FV (vb 1) (FU ib ib)) ib))))))))) (jd (qS (DW.dt (Uq (j4 (zW (aX.cb a)) yu (Qm (FV (vb 1) (FU ib ib)) ib) ib) (Kz (j4 (ZC (aX.cb a)) VH (DE.b (jY (dv 3) ib)) (DE.b (jY (dv 3) ib)))))) (ji (jgy 2 ib (jl1 2 ib))) jM) (jd (Xb 2 (jD 4 ml.nd (DE.s (Av.aI v a (jg (DE.s (Av.aI c a (jg (jY (DE.s (qd Pc Pe (dv 0) (DE.s (qx (jg cm (aL cm)))))) ib) (aL cm)))) (jg (dv 2) (aL (dv 3)))))))) (jd (jD 5 ml.nd (DE.s (zZ (J5 aa (uH a)) Wa aa T.lB J6 (aL (dv 4))))) (jd (zD 6 ml.nd (zZ yn KN aa T.dR zo (aL (dv 4)))) (jd (jD 7 ml.nd (DE.s (DE.Eb 6 (nS.bU (lA.make i (a.mono j) (aL (dv 6))))))) (jd (jgB 6) (jd (zD 8 ml.nd (qx yX)) (jd (zQ gE aa (OP aa T.fx (DE.s (qd jT j8 (DE.s (qx (aL cm))) (DE.s (jec (dv 0) (yx ib) (yx ib)))))) (qY aa (jr 10 ml.nd) (jr 11 ml.nd)) (jd (jD 12 ml.nd (DE.s (Av.aI c a (jg (dv 11) (aL (DE.s (qd jT j8 (dv 10) cm))))))) (jd (qS (j4 kE kL (vb 10) ib) (ji (Xb 2 (zY 8 (DE.s (Av.aI m a (jg (dv 12) (jg (dv 2) (aL (dv 3))))))))) jM) (jd (qS (OK 8 (zc (qK (DE.b (Av.aI o a (jg (DE.s (gz.aI B a (dv 7) (aL (DE.s (nS.bU (lA.make I (a.mono Qr) (aL (DE.s (zZ yn KN aa T.dR zo (aL (dv 8))))))))))) (aL (DE.s (Av.aI e a (jg (dv 8) (aL (dv 5)))))))))))) (ji (jO (wf (l:=.t)))) jM) (jd (Xb 2 (ZL (DE.s (Av.aI m a (jg (DE.s (Av.aI p a (jg (dv 12) (aL cm)))) (jg (dv 2) (aL (dv 3)))))) (qY aa (jr 13 ml.nd) (jr 14 ml.nd)))) (jd (zQ gE aa (qM (DE.s (qx (jg (DE.s (jN (jg (dv 13) (aL (dv 14))))) (jg (DE.s (jN (jg (dv 14) (aL (dv 13))))) (jg (DE.s (jN (jg (dv 13) (aL (dv 13))))) (jg (DE.s (jN (jg (dv 13) (aL cm)))) (aL (DE.s (jN (jg cm (aL (dv 13))))))))))))) (qY aa (jr 15 ml.nd) (jr 16 ml.nd)) (ji (qS (zc (qK (DE.b (Av.aI o a (jg (DE.s (gz.aI Xs a (dv 7) (jg (dv 15) (aL (dv 16))))) (aL (DE.s (Av.aI UW a (jg (dv 5) (jg (dv 15) (aL (dv 16)))))))))))) (ji (jO (wf (l:=.t)))) jM))) (ji (qS (OK 2 (zc (qK (DE.b (Av.aI z a (aL (Av.call g a (jg (DE.s (Av.aI p a (jg (dv 12) (aL cm)))) (jg (dv 2) (aL (dv 4))))))))))) (ji (jO (wf (l:=.t)))) jM)))))))) (jd (zD 9 ml.nd (gz.ij d a (dv 7))) (jd (qS (j4 (ZC (aX.cb a)) VH (DE.b (gz.ij d a (DE.s (nS.bU (lA.make i (a.mono j) (aL (DE.s (Av.aI n a (aL cm))))))))) (DE.b (Av.aI n a (aL cm)))) (ji (jO (wf (l:=.t)))) jM) (jd (qS (DW.dt (Jf (zc (qK (yV (l':=.b) "list" "list" WT (db 9) aa T.aM aa T.dR zo))) (Jf (j4 (ZC (aX.cb a)) VH (db 9) (vb 4)) (yT (zc (qK (jl2 (l':=.b) ["Calls"] "Paper" T.rh (vb 7) aa T.aM aa T.sR))))))) (ji (jO (wf (l:=.t)))) jM) (jd (zY 9 cm) (ji (jO (yk (l:=.t) (zW (aX.cb a)) yu (DE.b (gz.ij d a (dv 7))) (vb 4)))))))))))))))))))
end
def all_mk{l:CJ}(g:a.In h)(G:h.Ns ci i)(hfa:i "law" =ae (.ref fa))
  (d0:bL a "_law_spread" zK)
  (d1:bL a "_law_names" wv)
  (d2:bL a "_law_chosen" zM)
  (d3:bL a "is_whole" xA)
  (d4:bL a "is_name" yK)
  (d5:bL a "is_head" yL)
  (d6:bL a "is_choice" wR)
  (d7:bL a "are_chosen" wo)
  (d8:iQ a T5 "__init__" "Calls.__init__" wH)
  (d9:iQ a T5 "told" "Calls.told" yr)
  (d10:bL a "_law_mixed" wx)
  (d11:bL a "_law_whole" wp)
  (d12:bL a "_law_call" wX)
  (d13:bL a "_law_place" wq)
  (d14:bL a "_law_rule" wU)
  (d15:bL a "_law_many" wV)
  (d16:bL a "_law_asked" wA)
  (d17:bL a "_law_refused" zm)
  (d18:bL a "reached_from" zl)
  (d19:bL a "reached" yH)
  (d20:bL a "head" XW)
  (d21:bL a "places" JV)
  (d22:iQ a T5 "chosen_part" "Calls.chosen_part" zB)
  (Rt:bL a "parts" Zd)
  (d24:iQ a T5 "lets_calls" "Calls.lets_calls" zR)
  (d25:iQ a T4 "told" "Rules.told" yq)
  (d26:bL a "place_there" zI)
  (d27:bL a "part_there" wn)
  (Rv:bL a "paths" Zc)
  (d29:bL a "calls" Ze)
  (d30:bL a "ring_calls" wm)
  (d31:iQ a T5 "lets" "Calls.lets" yt)
  (d32:bL a "_law_head" wW)
  (Rx:bL a "_law_parts" wu)
  (d34:bL a "_law_calls" wz)
  (d35:bL a "_law_closed" zL)
  (d36:bL a "_law_due" xE)
  (d37:bL a "_law_bad" xF)
  (d38:bL a "all_heads" wT)
  (d39:bL a "level_below" zJ)
  (d40:bL a "is_great" xC)
  (d41:bL a "is_blank" xD)
  (d42:bL a "is_piece" xB)
  (d43:bL a "is_term" yI)
  (d44:bL a "blanks" JW)
  (d45:bL a "is_rule" yJ)
  (d46:bL a "are_rules" wS)
  (d47:iQ a T4 "__init__" "Rules.__init__" wG)
  (d48:iQ a T5 "falls" "Calls.falls" xO)
  (d49:bL a "_law_falls" wy)
  (a50:cH a ci "law" =ae (ae (.ref Ry))) (l50:a.lookup Ry=ae ⟨afX,afY,.func (rK "law" "law" (Jg YI) (zg YI) (jj YI) .none Mm Mn Mo Mp Es Mq),afZ⟩) (c50:Bp a Es "law" =af) (k50:lc a (.ref Ry)=af)
  (z0:cH a ci "isinstance" =ae ah)
  (z1:cH a ci "bool" =ae ah)
  (z2:cH a ci "int" =ae ah)
  (z3:cH a ci "all" =ae ah)
  (z4:cH a ci "len" =ae ah)
  (z5:cH a ci "tuple" =ae ah)
  (z6:cH a ci "list" =ae ah)
  (z7:cH a ci "sorted" =ae ah)
  (z8:cH a ci "any" =ae ah)
  (z9:cH a ci "set" =ae ah)
  (z10:cH a ci "dict" =ae ah)
  (z11:cH a ci "range" =ae ah)
  (z12:cH a ci "divmod" =ae ah)
  (z13:cH a ci "str" =ae ah)
  (z14:cH a ci "enumerate" =ae ah)
  (z15:cH a ci "zip" =ae ah)
  (oY:∃t,cH a ci "LETTERS" =ae (ae (.str "abcdefghijklmnopqrstuvwxyz" t)))
  (E:∃t,cH a ci "MOST_LETTERS" =ae (ae (.int 8 t)))
  (I:∃t,cH a ci "MOST_PLACES" =ae (ae (.int 9 t)))
  (O:∃t,cH a ci "MOST_BLANK" =ae (ae (.int 999 t)))
  (J:∃t,cH a ci "MOST_LEVELS" =ae (ae (.int 60 t)))
  (Q:∃t,cH a ci "MOST_PARTS" =ae (ae (.int 1000 t)))
  (L:∃t,cH a ci "MOST_CHOSEN" =ae (ae (.int 60 t)))
  (Y:∃t,cH a ci "MOST_RULES" =ae (ae (.int 40 t)))
  (Z5:cH a ci "Calls" =ae (ae (.ref T5))) (ue:Bl a T5 Str.empty=af) (uN:Ct a T5=af) (ud:EW a T5=af) (vP:ix a (.ref T5) "__setattr__" =ae (ae (.builtin "object.__setattr__")))
  (Z4:cH a ci "Rules" =ae (ae (.ref T4))) (YQ:Bl a T4 Str.empty=af) (Km:Ct a T4=af) (YO:EW a T4=af) (YH:ix a (.ref T4) "__setattr__" =ae (ae (.builtin "object.__setattr__")))
  (WL:ix a (.ref T5) "chosen" =ae ah)
  (WK:ix a (.ref T4) "listed" =ae ah)
  (XD:ix a (.ref T4) "named" =ae ah)
  (jfL:wr a T5=af) (jf2:lc a (.ref T5)=af)
  (jfK:wr a T4=af) (jf1:lc a (.ref T4)=af)
  (o:cH a ci "NoPath" =ae (ae (.ref T7)))
  (j:cH a ci "NoPaper" =ae (ae (.ref U8)))
  (p:cH a ci "NoRule" =ae (ae (.ref T9)))
  (nD:cH a ci "EndError" =ae (ae (.ref U9)))
  (rk:cH a ci "NoHead" =ae (ae (.ref U7)))
  (sS:cH a ci "Paper" =ae (ae (.ref T6)))
  (gg:rW a T7 [.type "ValueError",.type "Exception",.type "BaseException",.type "object"] "ValueError.__new__" =af)
  (gD:rW a U8 [.type "ValueError",.type "Exception",.type "BaseException",.type "object"] "ValueError.__new__" =af)
  (io:rW a T9 [.type "ValueError",.type "Exception",.type "BaseException",.type "object"] "ValueError.__new__" =af)
  (y:DD a (.ref T7) (.ref U9)=ae af)
  (u:DD a (.ref U8) (.ref U9)=ae af)
  (z:DD a (.ref T9) (.ref U9)=ae af)
  (H:gJ a (.ref T5) (.ref T6)=ae af)
  (mo:ly a T7)
  (N:ly a U8)
  (mq:ly a T9)
  (Wf:gJ a (.ref T7) (.ref U7)=ae ag)
  (ZQ:gJ a (.ref U8) (.ref U7)=ae ag)
  (We:gJ a (.ref T9) (.ref U7)=ae ag)
  (ZP:gJ a (.ref T7) (.ref U8)=ae ag)
  (Q7:gJ a (.ref U8) (.ref U8)=ae af)
  (ZO:gJ a (.ref T9) (.ref U8)=ae ag)
  :∃fd,(∀(s)(v),BindsTo s fd ⟨[v],[]⟩ [("_law_script",v)])/\∀d,a.In d->d.Ns ci i->cZ l.prog w a i d mD 71 fa fd ["_law_script"] (nQ a af 1 n4):=by
 have e:=hfa.symm.trans (lR g G a50);cases e
 have T:Gm a T7 U8 T9 U9 U7 T6 i:=⟨mM g G z0,mM g G z1,mM g G z2,mM g G z3,mM g G z4,mM g G z5,mM g G z6,mM g G z7,mM g G z8,mM g G z9,mM g G z10,mM g G z11,mM g G z12,mM g G z13,mM g G z14,mM g G z15,oY.imp λx h=>lR g G h,E.imp λx h=>lR g G h,I.imp λx h=>lR g G h,O.imp λx h=>lR g G h,J.imp λx h=>lR g G h,Q.imp λx h=>lR g G h,L.imp λx h=>lR g G h,Y.imp λx h=>lR g G h,⟨T5,Z5,⟨ue,uN,ud,vP⟩,WL⟩,⟨T4,Z4,⟨YQ,Km,YO,YH⟩,WK⟩,⟨T4,Z4,⟨YQ,Km,YO,YH⟩,XD⟩,lR g G o,lR g G j,lR g G p,lR g G nD,lR g G rk,lR g G sS,o,gg,j,gD,p,io,(λc B C hC=>by
   simp only[JF,List.contains_nil,E5,beq_iff_eq,Bool.or_eq_true]at B;rcases B with rfl|rfl|rfl
   .have e:=hC.symm.trans o;cases e;exact y
   .have e:=hC.symm.trans j;cases e;exact u
   .have e:=hC.symm.trans p;cases e
    exact z),(λc B C hC=>by
   simp only[JF,List.contains_nil,E5,beq_iff_eq,Bool.or_eq_true]at B;rcases B with rfl
   .have e:=hC.symm.trans Z5;cases e
    exact H),(λc b B C hC=>by
   by_cases q:c= "NoPath"
   .subst q;rw[yR]at B;cases B;have e:=hC.symm.trans o;cases e;exact⟨mo,Wf⟩
   rw[yQ q]at B
   by_cases m:c= "NoPaper"
   .subst m;rw[yR]at B;cases B;have e:=hC.symm.trans j;cases e;exact⟨N,ZQ⟩
   rw[yQ m]at B
   by_cases r:c= "NoRule"
   .subst r;rw[yR]at B;cases B;have e:=hC.symm.trans p;cases e;exact⟨mq,We⟩
   rw[yQ r]at B
   cases B),(λc b B C hC=>by
   by_cases q:c= "NoPath"
   .subst q;rw[yR]at B;cases B;have e:=hC.symm.trans o;cases e;exact⟨mo,ZP⟩
   rw[yQ q]at B
   by_cases m:c= "NoPaper"
   .subst m;rw[yR]at B;cases B;have e:=hC.symm.trans j;cases e;exact⟨N,Q7⟩
   rw[yQ m]at B
   by_cases r:c= "NoRule"
   .subst r;rw[yR]at B;cases B;have e:=hC.symm.trans p;cases e;exact⟨mq,ZO⟩
   rw[yQ r]at B
   cases B)⟩
 have U:=NH (st:=YI) l50 c50 k50;have J3:cH a ci "Calls" =ae (ae (.ref T5))/\gI a T5:=⟨Z5,ue,uN,ud,vP⟩
 have Rz:cH a ci "Rules" =ae (ae (.ref T4))/\gI a T4:=⟨Z4,YQ,Km,YO,YH⟩
 refine⟨rK "law" "law" (Jg YI) (zg YI) (jj YI) .none Mm Mn Mo Mp Es Mq,λs v=>.of_eq aa,λd x x=>?_⟩;have V0:Jm l.prog w a i d 1 qP:=Xy (k:=0) T (d0.dx g G nV);have V1:JN l.prog w a i d 1 wE:=Y2 (k:=0) T (d1.dx g G eq);have V2:Jp l.prog w a i d 1 zN:=XA (k:=0) T (d2.dx g G BQ);have V3:xH l.prog w a i d 1 qj:=kF (k:=0) T (d3.dx g G eq);have V4:Q4 l.prog w a i d 1 wO:=ja4 (k:=0) T (d4.dx g G eq);have V5:Xm l.prog w a i d 2 qZ:=ja5 (k:=1) T (d5.dx g G eq) (V4.mono au) (V3.mono au);have V6:Qx l.prog w a i d 3 jX:=VA (k:=2) T (d6.dx g G eq) (V3.mono au) (V5.mono au);have V7:JL l.prog w a i d 4 qr:=YY (k:=3) T (d7.dx g G eq) (V6.mono au);have V8:zw l.prog w a i d 5 jA:=Ql (k:=4) T (d8.dm nV) J3 (lR g G Z5) ⟨jfL,jf2⟩ (V7.mono au);have V9:yB l.prog w a i d 1 ql:=WG (k:=0) T (d9.dm eq) J3;have Mr:xm l.prog w a i d 1 jH:=Y3 (k:=0) T (d10.dx g G nV);have Gq:wB l.prog w a i d 1 jG:=YZ (k:=0) T (d11.dx g G eq);have V12:QB l.prog w a i d 2 qJ:=VG (k:=1) T (d12.dx g G tk4) (Mr.mono au) (Gq.mono au);have V13:JM l.prog w a i d 1 wD:=Y0 (k:=0) T (d13.dx g G BQ);have V14:QA l.prog w a i d 3 zj:=VD (k:=2) T (d14.dx g G BQ) (V12.mono au) (Mr.mono au) (V13.mono au);have RA:Jn l.prog w a i d 1 qI:=VE (k:=0) T (d15.dx g G eq);have V16:JQ l.prog w a i d 1 qQ:=Y6 (k:=0) T (d16.dx g G nV);have V17:yA l.prog w a i d 7 zp:=WE (k:=6) T (d17.dx g G eq) V8 au;have V18:yz l.prog w a i d 1 qD:=WD (k:=0) T (d18.dx g G nV);have RB:Q3 l.prog w a i d 2 xo:=ja1 (k:=1) T (d19.dx g G eq) (V18.mono au);have Et:Xn l.prog w a i d 1 j9:=jiw (k:=0) T (d20.dx g G eq);have Eu:Ji l.prog w a i d 1 qk:=jcN (k:=0) T (d21.dx g G eq);have RC:qN l.prog w a i d 2 jt:=Jv (k:=1) T (d22.dm nV) J3 (Et.mono au) (Eu.mono au)
 have B3:∀n,Jk l.prog w a i d (1+n) (j5 n):=by
  intro n
  induction n with
  |zero=>exact Ll af (Rt.dx g G eq)
  |succ n ih=>exact jfs (k:=1+n) T (Rt.dx g G eq) (Eu.mono (qa _ _)) ih
 have V24:zS l.prog w a i d 66 qA:=Jz (k:=65) T (d24.dm nV) J3 (RB.mono au) (RC.mono au) ((B3 64).mono au) (Et.mono au);have RD:xk l.prog w a i d 1 qE:=WF (k:=0) T (d25.dm eq) Rz;have V26:Jj l.prog w a i d 2 zi:=Xw (k:=1) T (d26.dx g G nV) (Eu.mono au) (V3.mono au);have V27:JK l.prog w a i d 3 zG:=YX (k:=2) T (d27.dx g G nV) (V26.mono au)
 have V28:∀n,K3 l.prog w a i d (1+n) (xc n):=by
  intro n
  induction n with
  |zero=>exact Ll af (Rv.dx g G eq)
  |succ n ih=>exact jfr (k:=1+n) T (Rv.dx g G eq) (Eu.mono (qa _ _)) ih
 have V29:vC l.prog w a i d 66 Zz:=jft (k:=65) T (d29.dx g G eq) (RD.mono au) ((V28 64).mono au) ((B3 64).mono au) (Et.mono au);have V30:JJ l.prog w a i d 67 xn:=YW (k:=66) T (d30.dx g G eq) (RD.mono au) (RB.mono au) (V27.mono au) (V29.mono au) (Et.mono au);have V31:yC l.prog w a i d 68 qU:=WH (k:=67) T (d31.dm nV) J3 (V24.mono au) (V30.mono au);have Ms:xW l.prog w a i d 1 jC:=VF (k:=0) T (d32.dx g G eq)
 have Mt:∀n,wC l.prog w a i d (1+n) (j3 n):=by
  intro n
  induction n with
  |zero=>exact Ll af (Rx.dx g G eq)
  |succ n ih=>exact Y1 (k:=1+n) T (Rx.dx g G eq) (Gq.mono (qa _ _)) ih
 have V34:JP l.prog w a i d 66 xp:=Y5 (k:=65) T (d34.dx g G eq) (Ms.mono au) ((Mt 64).mono au) (Gq.mono au);have V35:Jo l.prog w a i d 1 qB:=Xz (k:=0) T (d35.dx g G eq);have V36:Zx l.prog w a i d 67 xf:=kJ (k:=66) T (d36.dx g G nV) (V34.mono au) (V35.mono au) (Ms.mono au) ((Mt 64).mono au);have V37:Zy l.prog w a i d 2 xg:=kK (k:=1) T (d37.dx g G BQ) (RA.mono au);have V38:Qz l.prog w a i d 66 x8:=VC (k:=65) T (d38.dx g G eq) ((B3 64).mono au) (Et.mono au);have V39:Jl l.prog w a i d 2 qO:=Xx (k:=1) T (d39.dx g G eq) (Eu.mono au);have V40:Zv l.prog w a i d 3 xJ:=kH (k:=2) T (d40.dx g G eq) (V39.mono au);have V41:Zw l.prog w a i d 2 xK:=kI (k:=1) T (d41.dx g G eq) (V3.mono au);have V42:Zu l.prog w a i d 3 xI:=kG (k:=2) T (d42.dx g G eq) (V41.mono au) (V4.mono au);have V43:Xk l.prog w a i d 66 xY:=ja2 (k:=65) T (d43.dx g G eq) (V40.mono au) (V42.mono au) ((B3 64).mono au);have V44:K4 l.prog w a i d 66 J7:=jcO (k:=65) T (d44.dx g G eq) ((B3 64).mono au);have V45:Xl l.prog w a i d 67 yZ:=ja3 (k:=66) T (d45.dx g G eq) (V43.mono au) (V44.mono au);have V46:Qy l.prog w a i d 68 xZ:=VB (k:=67) T (d46.dx g G eq) (V45.mono au);have V47:wN l.prog w a i d 69 qf:=Qk (k:=68) T (d47.dm nV) Rz (lR g G Z4) ⟨jfK,jf1⟩ (V38.mono au) (V46.mono au);have V48:xX l.prog w a i d 66 q8:=ZR (k:=65) T (d48.dm BQ) J3 (RC.mono au) ((B3 64).mono au);have V49:JO l.prog w a i d 66 wF:=Y4 (k:=65) T (d49.dx g G BQ) (Gq.mono au) (Ms.mono au) ((Mt 64).mono au);exact jk6 (k:=70) T U (V0.mono au) (V1.mono au) (V2.mono au) V8 au (V9.mono au) (V14.mono au) (RA.mono au) (V16.mono au) (Mr.mono au) (V17.mono au) (V31.mono au) (V36.mono au) (V37.mono au) V47 au (V48.mono au) (V49.mono au)
end G
namespace G
open PySem PySem.Spec L2 M
open Builtin.Int (intBits)
def gn:Str:= "abcdefghijklmnopqrstuvwxyz"
def Ev(x)(r:LD):cutD (x::r) (ae 1) ah=r:=by
 have a:HT.ck (x::r).length 0 (ae 1)=1:=by
  have:=HT.gX (x::r).length 0 1
  simp_all
 delta cutD
 rw[a,HT.hZ];simp
def Ww(h:XC d=af):qk [d]=.ok (.ap (bM d)):=by
 cases d with
 |ap a=>
  cases a with
  |nil=>rfl
  |cons x r=>
   show aw.ok (D.ap (cutD (x::r) (ae 1) ah))=_;rw[Ev];rfl
 |_=>first|rfl|cases h
def VQ(h:cE c=af)(o:ao c<=1000):qO [.al c]=.ok (.al (below c)):=by
 have j:=Ul (body:=qu y4 (we 1 (jl 1 qk (jb jp)))) (λa=>[.ai (.al c),.aG (.al a.1),a.2]) (λa d=>(a.1++bM d,.ai d)) (λg a=>cE g=af/\a.1.length+(below g).length<=10000) (by
  rintro d g a ⟨i,m⟩;simp only[cE,fD]at i;have e:below (d::g)=bM d++below g:=rfl;rw[e,lh]at m;refine⟨?_,i.2,by simp;omega⟩;show we 1 (jl 1 qk (jb jp)) [.ai (.al c),.aG (.al a.1),.ai d]=_;show(aw.ok a.1>>=λg=>qk [d]>>=_)=_;rw[Ww (J0 i.1)]
  exact jI (cn (by omega:_<=10000) au)) c ([],.un) ⟨h,by have:=jeD h;simp;omega⟩
 have l:∀(g:LD) a,(g.foldl (λa d=>(a.1++bM d,Slot.ai d)) a).1=a.1++below g:=by
  intro g
  induction g with
  |nil=>intro a;simp[below]
  |cons d g n=>intro a;rw[r9,n];simp[below]
 have e1:QN (qV 3 [.al c])=.ok (.rt af (.al (below c))):=by
  have i:qV 3 [.al c]=[.ai (.al c),.un,.un]:=rfl;show(bu (qu y4 (we 1 (jl 1 qk (jb jp)))) c [.ai (.al c),.aG (.al []),.un]>>=_)=_;rw[j];show aw.ok (br.rt af (D.al (c.foldl (λa d=>(a.1++bM d,Slot.ai d)) ([],.un)).1))=_
  simp_all
 exact Qd e1
def Yk:Sl->aw br:=(az (jF 2 (aq jp jS (pJ λi j=>i+j)))
 (az (jF 3 (aq jB (app (jb jh) bY) (pJ λi j=>i+j)))
 (az (bS (eY (aU (aq jp (cI 60) lv)) (aU (aq jB (cI 1000) lv))) (aY j6) bP)
 (jF 1 (jl 1 qO (jb jh))))))
def jbn{dp ct:Nat}(h:cE a=af):Yk [.ai d,.ai (.al a),.ai (.int dp),.ai (.int ct)]=if 60<dp+1\/1000<ct+ao a then .ok (.rt af (.bl af))else .ok (.nx [.ai d,.ai (.al (below a)),.ai (.int ((dp+1:Nat):Int)),.ai (.int ((ct+ao a:Nat):Int))]):=by
 have e0:Yk [.ai d,.ai (.al a),.ai (.int dp),.ai (.int ct)]=((if decide ((60:Int)< (dp:Int)+1)=af then aw.ok af else aw.ok (aD ((1000:Int)< (ct:Int)+ao a)))>>=λb=>(if b=af then aw.ok (br.rt af (.bl af))else aw.ok (.nx [.ai d,.ai (.al a),.ai (.int ((dp:Int)+1)),.ai (.int ((ct:Int)+ao a))])))>>=pW (jF 1 (jl 1 qO (jb jh))):=by
   delta Yk
   rw[ZJ,jgp];show(az _ _) _=_;rw[ZJ];rfl
 rw[e0]
 by_cases c:60<dp+1
 .rw[if_pos cf,if_pos (.inl c)];rfl
 .rw[if_neg cf]
  by_cases e:1000<ct+ao a
  .rw[if_pos (.inr e)];have:aD ((1000:Int)< (ct:Int)+ao a)=af:=by simp;omega
   rw[this];rfl
  .rw[if_neg ak];have:aD ((1000:Int)< (ct:Int)+ao a)=ag:=by simp;omega
   rw[this];show(qO [.al a]>>=_)=_;rw[VQ h ak];show aw.ok (br.nx [.ai d,.ai (.al (below a)),.ai (.int ((dp:Int)+1)),.ai (.int ((ct:Int)+ao a))])=_;simp
def jbo(d):∀(n)(a)(c e),cE a=af->c<=60->e<=1000->62<=c+n->
  ((60<c+cy a\/1000<e+nums a)->wl n (iJ jh) Yk [.ai d,.ai (.al a),.ai (.int c),.ai (.int e)]=.ok (.rt af (.bl af)))/\
  (¬(60<c+cy a\/1000<e+nums a)->∃env,wl n (iJ jh) Yk [.ai d,.ai (.al a),.ai (.int c),.ai (.int e)]=.ok (.nx env)):=
 lT (λy c e y m y o=>by omega) λn i a c e j m o u=>by
  cases a with
  |nil=>
   simp only[cy,nums];exact⟨λh=>by omega,λy=>⟨_,Q8 aa⟩⟩
  |cons x r=>
   have g:=jbn (d:=d) (dp:=c) (ct:=e) j;have p:=jbl (x::r) aE;have q:=ja6 (x::r)
   by_cases l:60<c+1\/1000<e+(x::r).length
   .rw[if_pos l]at g;exact⟨λy=>jbQ aa g,λh=>absurd ak h⟩
   .rw[if_neg l]at g;have v:=i (below (x::r)) (c+1) (e+(x::r).length) (vi j) ak ak ak;rw[QE aa g,p,q]
    grind
def gT(d:D):Bool:=aD (60<eN d\/1000<num d)
def jlG(h:eS d=af):xJ [d]=.ok (.bl (gT d)):=by
 have a:=jbo d 2000 [d] 0 0 (by simp[cE,h]) (fH _) (fH _) (ma _ _);have e1:cy [d]=eN d:=by simp[cy]
 have e2:nums [d]=num d:=by simp[nums]
 rw[e1,e2]at a;simp only[Dq]at a
 have e0:Zo (qV 4 [d])=(wl 2000 (iJ jh) Yk [.ai d,.ai (.al [d]),.ai (.int ((0:Nat):Int)),.ai (.int ((0:Nat):Int))]>>=pW (aY jQ)):=by
   delta Zo
   rw[ZJ];show(az _ _) _=_;rw[ZJ];rfl
 by_cases c:60<eN d\/1000<num d
 .have:gT d=af:=by simp[gT,c]
  rw[this];refine Qd (o:=.rt af (.bl af)) ?_;rw[e0,a.1 c];rfl
 .have:gT d=ag:=by simp[gT];omega
  rw[this];obtain⟨e,g⟩:=a.2 c;refine Qd (o:=.rt af (.bl ag)) ?_;rw[e0,g];rfl
def B4(a:c env=.ok (.int i))(d:e env=.ok (.int j))(g:0<j/\j<1073741824):app (jf c (jf e aT)) xu env=.ok (.ap [.int (i/j),.int (i%j)]):=
 qz (ja a (ja d aa)) (jI g)
def Qw(h:f env=.ok (.ap [x,y])):gb f (g2 (gN a) (gN b)) env=.ok (.nx ((env.set a (.ai x)).set b (.ai y))):=by
 show(f env>>=_)=_;rw[h];rfl
def qH(a:f1 env=.ok (.int i))(c:f2 env=.ok (.int j))(d:0<j):aq f1 f2 bB env=.ok (.int (i%j)):=jk a c (Oq d)
def Jb(c:d env=.ok (.int i))(e:g env=.ok (.int j))(h:i.natAbs<2^a)(l:j.natAbs<2^b)(m:a+b<=134217728):aq d g gy env=.ok (.int (i*j)):=
 jk c e (jli (cn (Nat.add_le_add (PySem.intBits_le_iff.mpr h) (PySem.intBits_le_iff.mpr l)) m))
def wZ(a:c env=.ok (.int i))(d:e env=.ok (.int j)):aq c e a9 env=.ok (.int (i+j)):=jk a d aa
def Jx(c k)(e:0<=k/\k<=1000):∃m,qP [.int c,.int k]=.ok (.int m)/\0<=m/\m<2^140:=by
 have g:aq zU (cI 40) eI [.ai (.int c),.ai (.int k),.un]=.ok (.int (10^40)):=by simp_all
 have d:(k*k).natAbs<2^21:=by
  rw[Int.natAbs_mul];have:k.natAbs<=1000:=by omega
  have:=Nat.mul_le_mul this this;omega
 refine⟨(c%(10^40+121)*31415926535897932384626433832795+(k*k+3*k+7)*2718281828459045235360287471)%(10^40+121),qW ?_,by omega,by omega⟩;show QO [.ai (.int c),.ai (.int k),.un]=_;refine j7 (qH (wZ (Jb (a:=140) (b:=120) (qH aa aa ak) aa ak ak (ma _ _)) (Jb (a:=30) (b:=120) (wZ (wZ (Jb (a:=30) (b:=30) aa aa ak ak (ma _ _)) (Jb (a:=30) (b:=30) aa aa ak ak (ma _ _))) aa) aa ak ak (ma _ _))) aa ak)
def wY(m k)(e:0<=m/\m<2^140)(g:0<=k/\k<=1000):∃c,jH [.int m,.int k]=.ok (.int c)/\0<=c/\c<2^140:=by
 have d:∀u:Slot,aq zU (cI 30) eI [.ai (.int m),.ai (.int k),u]=.ok (.int (10^30)):=by simp_all
 generalize h:(m*69621+(k+1)*1000003)%(10^30+57)=x;refine⟨x*x%(10^30+57),qW ?_,by omega,by omega⟩;show JC [.ai (.int m),.ai (.int k),.un]=_
 delta JC
 rw[jm (env':=[.ai (.int m),.ai (.int k),.ai (.int x)]) ((jw (qH (wZ (Jb (a:=141) (b:=30) aa aa ak ak (ma _ _)) (Jb (a:=30) (b:=30) (wZ aa aa) aa ak ak (ma _ _))) (wZ (d _) aa) ak)).trans aZ)];exact j7 (qH (Jb (a:=111) (b:=111) aa aa ak ak (ma _ _)) (wZ (d _) aa) ak)
def isNm:D->Bool|.str z=>(aD (1<=(z.length:Int))&&aD ((z.length:Int)<=8))&&z.cps.toList.all (λc=>tF ⟨#[c]⟩ gn)|_=>ag
def Kh(z):isNm (.str z)=((aD (1<=(z.length:Int))&&aD ((z.length:Int)<=8))&&z.cps.toList.all (λc=>tF ⟨#[c]⟩ gn)):=rfl
def K0{a:Type}(l:List a)(p):iM [.al (l.map λc=>D.bl (p c))]=.ok (.bl (l.all p)):=by
 have:l.map (λc=>D.bl (p c))=(l.map p).map D.bl:=by simp
 rw[this];show(match ZT ((l.map p).map D.bl)with|some bs=>aw.ok (D.bl (bs.all id))|none=>aw.am)=_;rw[Of];simp
def jb6(z):(YC z).length=z.length:=by simp[YC,Str.length]
noncomputable def nw:D->Bool
 |.eX _|.gK _ _|.bV _ _|.obj _ _ _=>ag
 |_=>af
def KJ{d g2}(i:e env=.ok a)(j:g env=.ok b)(l:h env=.ok c)(e1:d a b=.ok (.bl p))(e2:g2 b c=.ok (.bl q)):QZ e g h d g2 env=.ok (.bl (p&&q)):=by
 cases p
 all_goals simp_all
def RE(h:nw d=af):wO [d]=.ok (.bl (isNm d)):=by
 cases d with
 |str z=>
  refine qW ?_;show W5 [.ai (.str z)]=_
  delta W5
  rw[Kh];have t:eY (bt (aU (WR "str" jc))) (bt (aU (QZ jS (app (jb jc) bY) (cI 8) nc nc))) [.ai (.str z)]=.ok (ag||!(aD (1<=(z.length:Int))&&aD ((z.length:Int)<=8))):=kB aa (qG (jJ (KJ aa (qz (ja aa aa) aa) aa aa aa)))
  cases c:(aD (1<=(z.length:Int))&&aD ((z.length:Int)<=8))with
  |false=>rw[c]at t;exact zP ((cq t))
  |true=>
   rw[c]at t;have l:(z.length:Int)<=8:=of_decide_eq_true (og.mp c).2
   have g:zz ag 1 [] (cF jc) qF qm (aq jc (cS "abcdefghijklmnopqrstuvwxyz") inD) [.ai (.str z)]=.ok (.al ((YC z).map λd=>D.bl (match d with|.str c=>tF c gn|_=>ag))):=by
    refine Fq _ (λd=>∃c,d=.str c) aa (by intro d i;obtain⟨c,_,e⟩:=dz.mp i;exact⟨_,e.symm⟩) (by rw[jb6];exact cn (by omega:z.length<=8) au) ?_;rintro d j ⟨c,e⟩;subst e;rfl
   have a:(YC z).all (λd=>match d with|.str c=>tF c gn|_=>ag)=(z.cps.toList.all (λc=>tF ⟨#[c]⟩ gn)):=by
    simp only[YC,Fn];rfl
   refine(jm ((bZ t))).trans (j7 (qz (ja g aa) ?_));rw[K0,a];rfl
 |_=>first|rfl|cases h
def jfC(h:XC d=af):nw d=af:=by cases d<;>first|rfl|cases h
def jlh(h:XC d=af):wO [d]=.ok (.bl (isNm d)):=RE (jfC h)
def pf(z:Str):Prop:=∀c∈z.cps.toList,tF ⟨#[c]⟩ gn=af
def kT(d:pf a)(e:pf b):pf (a++b):=λc g=>by
 have h:c∈(a.cps++b.cps).toList:=g;rw[Array.toList_append,fj]at h;exact h.elim (d c) (e c)
def RF(lo d)(h:pf z):pf (eR z lo d):=λc a=>by
 delta eR at a
 split at a
 .exact h c a
 .simp only[Bj]at a;obtain⟨i,_,d⟩:=a;exact h c (by rw[<-hH]at d;exact lf d)
def jj8:pf gn:=by
 intro c a;have:gn.cps.toList.all (λc=>tF ⟨#[c]⟩ gn)=af:=by decide+kernel
 exact nF.mp this c a
def Ew{i:Int}(a:0<=i)(d:i<z.length):∃c,bc (.str z) (.int i)=.ok (.str ⟨#[c]⟩)/\c∈z.cps.toList:=by
 obtain⟨c,e,g⟩:=Ot (xs:=z.cps.toList) a (by simpa[Str.length]using d);exact⟨c,by show(match h8 z.cps.toList i with|some c=>aw.ok (D.str ⟨#[c]⟩)|none=>.am)=_;rw[e],g⟩
def RG(h:c∈gn.cps.toList):pf ⟨#[c]⟩:=λx a=>by
 have:x=c:=by simpa using a
 rw[this];exact jj8 c h
def RH(a b):(sliceRange a b 1).length<=(b-a).toNat:=by
 delta sliceRange
 rw[cX,BR,if_pos (show(1:Int)>0 by decide),Int.ediv_one,Int.add_sub_cancel]
 by_cases c:a<b
 .rw[if_pos c];exact Nat.le_refl _
 .rw[if_neg c];exact Nat.zero_le _
def jlA(i)(n)(h:0<=i):(rR ah (ae i) 1 n).length<=i.toNat:=by
 refine cn (RH _ _) ?_;obtain⟨k,rfl⟩:=Int.eq_ofNat_of_zero_le h;show(max 0 (min (k:Int) n)-0:Int).toNat<=k;rw[Int.sub_zero];exact Int.toNat_le.mpr (Int.max_le.mpr ⟨h,Int.min_le_left _ _⟩)
def jlB(i)(n)(h:0<=i):(rR (ae i) ah 1 n).length<=n-i.toNat:=by
 refine cn (RH _ _) ?_;obtain⟨k,rfl⟩:=Int.eq_ofNat_of_zero_le h;show((n:Int)-max 0 (min (k:Int) n)).toNat<=n-k;rcases Nat.le_total k n with q|q
 .rw[Int.min_eq_left (Int.ofNat_le.mpr q),Int.max_eq_right h,<-Int.ofNat_sub q];exact Nat.le_refl _
 .rw[Int.min_eq_right (Int.ofNat_le.mpr q),Int.max_eq_right (Int.natCast_nonneg n),Int.sub_self];exact Nat.zero_le _
def RI(z)(lo a):(eR z lo a).length<=(rR lo a 1 z.length).length:=by
 delta eR
 split
 .simp_all
 .show((rR lo a 1 z.length).filterMap (z.cps[·]?)).toArray.size<=_
  grind
def RJ(a:1<=z.length)(c:z.length<=8)(h:pf z):isNm (.str z)=af:=by
 rw[Kh];simp only[fD,decide_eq_true_eq,nF];exact⟨⟨by omega,by omega⟩,h⟩
def RK:gn.length=26:=by decide
def fN:20000<=ba:=by decide
def jx(h:k<=20000):k<=ba:=cn h fN
noncomputable def Mu:D->Bool
 |.ap _=>af
 |_=>ag
def A0(a:List Str)(d:D):Prop:=d=.al (a.map .str)/\ao a=5/\∀z∈a,isNm (.str z)=af
section
def Mv(h:A0 a d)(i)(c:0<=i)(g:i<5):∃z,bc d (.int i)=.ok (.str z)/\z∈a:=by
 obtain⟨rfl,j,_⟩:=h;obtain⟨x,e,l⟩:=BD (ds:=a.map .str) c aZ
 grind
def RL(h:tk a t=af):iL "tuple" t=.ok (.bl (Mu t)):=by
 rcases qg h with⟨i,rfl⟩|⟨z,c,rfl,_⟩<;>rfl
def jfB(h:tk a t=af):XC t=af:=J0 (Je t h)
end
section
variable{ns:List Str}{fs:List Int}
def Jd(z)(a:LD):eN (.ap (.str z::a))=1+cy a:=by rw[VX];rfl
def WJ(z)(a:LD):num (.ap (.str z::a))=1+nums a:=by rw[VJ];rfl
def KR(z)(a:LD):mJ (.ap (.str z::a))=eJ a:=rfl
def jjN(i):mJ (.int i)=[i]:=rfl
def RM:iA (.int a) (.int b)=.ok (.bl (!(a==b))):=by
 delta iA
 exact jI (.inl ⟨rfl,rfl,by simp[D.dj]⟩)
structure Gt(ns:List Str)(fs:List Int)(h n:Nat)(t:D):Prop where
 tk:tk ns t=af
 hg:eN t<=h
 nm:num t<=n
 bk:∀x∈mJ t,x∈fs
def ji4:∀{c},(∀t∈c,eN t<=h)->cy c<=h:=
 @(
  bv (λy=>by simp[cy]) λx r d k=>by
  have a:=k x aE;have b:=d λt e=>k t (by simp[e])
  simp only[cy];omega)
def jiz:∀{c},(∀t∈c,num t<=n)->nums c<=ao c*n:=
 @(
  bv (λy=>by simp[nums]) λx r d k=>by
  have a:=k x aE;have b:=d λt e=>k t (by simp[e])
  simp only[nums,gG,Nat.add_mul,Nat.one_mul];omega)
def Gt.up(g:Gt ns fs h n t)(a:h<=c)(b:n<=d):Gt ns fs c d t:=⟨g.tk,cn g.hg a,cn g.nm b,g.bk⟩
def Gt.int(c:i∈fs):Gt ns fs 1 1 (.int i):=⟨rfl,by simp[eN],by simp[num],λx a=>by rw[jjN]at a;simp at a;rw[a];exact c⟩
def Gt.nd{ts:LD}(hz:z∈ns)(hl:ao ts<=k)(hk:k<=9)(g:∀t∈ts,Gt ns fs h n t):Gt ns fs (1+h) (1+k*n) (.ap (.str z::ts)):=
 ⟨IJ hz (cn bg bg) λt a=>(g t a).tk,by rw[Jd];exact EZ (ji4 λt a=>(g t a).hg) 1,
  by rw[WJ];exact EZ (cn (jiz λt a=>(g t a).nm) (Nat.mul_le_mul_right n hl)) 1,λx d=>by
   rw[KR,Q1]at d;obtain⟨t,a,c⟩:=Ax.mp d
   exact(g t a).bk x c⟩
def Gt.one(hz:z∈ns)(g:Gt ns fs h n t):Gt ns fs (1+h) (1+n) (.ap [.str z,t]):=by
 have:=Gt.nd (k:=1) (ts:=[t]) hz (bz _) au λu a=>by simp at a;rw[a];exact g
 simp_all
def Gt.leaf(hz:z∈ns):Gt ns fs 1 1 (.ap [.str z]):=Gt.nd (h:=0) (n:=0) hz (bz _) au λu a=>by cases a
def B5(a:A0 ns c)(h:f env=.ok c)(i)(d:0<=i)(g:i<5):∃z,z∈ns/\aq f (cI i) bc env=.ok (.str z):=by
 obtain⟨z,e,j⟩:=Mv a i d g;exact⟨z,j,jk h aa e⟩
def jn:aT env=.ok []:=rfl
def Ex(h:f env=.ok a):aO (jf f aT) env=.ok (.ap [a]):=Qc (ja h aa) (jx aE)
def bX(h:f env=.ok a)(k:g env=.ok b):aO (jf f (jf g aT)) env=.ok (.ap [a,b]):=Qc (ja h (ja k aa)) (jx aE)
def kn(j:A0 ns c)(m b)(q:b∈fs):∃t,wD [.int m,c,.int b]=.ok t/\Gt ns fs 3 3 t:=by
 obtain⟨a,l,n⟩:=B5 j (f:=bR 1) (env:=[.ai (.int m),.ai c,.ai (.int b),.un]) aa 3 ak ak;obtain⟨o,r,u⟩:=B5 j (f:=bR 1) (env:=[.ai (.int m),.ai c,.ai (.int b),.un]) aa 4 ak ak;have gi:Gt ns fs 1 1 (.int b):=Gt.int q;have e:Gt ns fs 2 2 (.ap [.str a,.int b]):=Gt.one l gi;have h:=bX n (g:=bR 2) aa;have p:bR 2 [.ai (.int m),.ai c,.ai (.int b),.un]=.ok (.int b):=rfl
 have all:∀t∈([.int b,.ap [.str a,.int b],.ap [.str a,.ap [.str a,.int b]],.ap [.str o],.ap [.str a,.int b],.int b]:LD),Gt ns fs 3 3 t:=by
  intro t d;simp at d;rcases d with rfl|rfl|rfl|rfl|rfl|rfl
  .exact gi.up au au
  .exact e.up au au
  .exact(Gt.one l e)
  .exact(Gt.leaf r).up au au
  .exact e.up au au
  .exact gi.up au au
 obtain⟨t,d,v⟩:=BD (ds:=[.int b,.ap [.str a,.int b],.ap [.str a,.ap [.str a,.int b]],.ap [.str o],.ap [.str a,.int b],.int b]) (i:=m%6) rA (by show m%6<6;omega);exact⟨t,Fw ((jm (jw (wM (ja p (ja h (ja (bX n h) (ja (Ex u) (ja h (ja p jn)))))) (jx (show 6<=20000 by decide))))).trans (ka (jk aa (qH aa aa ak) d))),all t v⟩
end
def X3:∀(n)(d),eS d=af->eN d<=n->num d<=1000->j5 n [d]=.ok (.al (ce d)):=
 lT (λd x h x=>by have:=Op d;omega) λn i d m o p=>by
  rw[VX]at o;rw[VJ]at p
  have j:=Ul (body:=qu y4 (we 1 (jl 1 (j5 n) (jb jp)))) (λa=>[.ai d,.aG (.al a.1),a.2]) (λa e=>(a.1++ce e,.ai e)) (λc a=>cE c=af/\cy c<=n/\a.1.length+nums c<=1000) (by
   rintro e c a ⟨l,q,r⟩;simp only[cE,fD]at l;simp only[cy]at q;simp only[nums]at r;have v:=Qi e;refine⟨?_,l.2,by omega,by simp;omega⟩;show we 1 (jl 1 (j5 n) (jb jp)) [.ai d,.aG (.al a.1),.ai e]=_;show(aw.ok a.1>>=λc=>j5 n [e]>>=_)=_;rw[i e l.1 ak ak]
   exact jI (cn (by omega:_<=10000) au)) (bM d) ([d],.un) ⟨(JE m).1,by omega,by simp;omega⟩
  have g:∀(c:LD) a,(c.foldl (λa e=>(a.1++ce e,Slot.ai e)) a).1=a.1++c4 c:=by
   intro c
   induction c with
   |nil=>intro a;simp[c4]
   |cons d c u=>intro a;rw[r9,u];simp[c4]
  have e1:W4 (j5 n) (qV 3 [d])=.ok (.rt af (.al (ce d))):=by
   have e0:W4 (j5 n) (qV 3 [d])=((qk [d]>>=Fe)>>=λc=>bu (qu y4 (we 1 (jl 1 (j5 n) (jb jp)))) c [.ai d,.aG (.al [d]),.un])>>=pW (aY (rP 1)):=by
    delta W4
    rw[ZJ];show(az _ _) _=_;rw[ZJ];rfl
   rw[e0,Ww (J0 m)];show(bu _ (bM d) _>>=_)=_;rw[j];rw[g,jkJ];rfl
  exact Qd e1
section
noncomputable def l8:D->Bool
 |.int _=>af
 |_=>ag
def K8(h:tk a t=af):jG [t]=.ok (.bl (l8 t)):=by
 rcases qg h with⟨i,rfl⟩|⟨z,c,rfl,_⟩<;>rfl
noncomputable def n6(l:List Int):LD:=l.map λx=>.bl af
def jkI(l)(x):Vp (ii l) (.inl x)=ii (ins l x)/\Vq (ii l) (n6 l) (.inl x) (.bl af)=n6 (ins l x):=by
 delta Vp Vq ins
 rw[jgg]
 by_cases h:x∈l
 .simp only[h,decide_true,if_true,true_and];clear h
  induction l with
  |nil=>rfl
  |cons a l c=>
   simp only[ii,n6,fI,Az]at c ⊢
   simp_all
 .simp[h,ii,n6]
def jiY(l)(x):(ins l x).length<=ao l+1:=by
 delta ins;split<;>simp
def uL(l)(x):(dH l x).length<=ao l+1:=by
 delta dH;split<;>simp
noncomputable def ph(t:D):List Int:=met [] (fL (ce t))
theorem vz(t):∀(j:LD)(a)(u),(∀d∈j,tk v d=af)->ao a+ao j<=2000->∃l,bu (qu y4 (bS (bt (aU (cY "tuple" jp))) (Dn 1 jp j6) bP)) j [t,.aG (.cG (ii a) (n6 a)),u]=.ok (.nx [t,.aG (.cG (ii (met a (fL j))) (n6 (met a (fL j)))),l]):=
 bv (λa u x x=>⟨u,rfl⟩) λd j p a u h r=>by
  simp at r;have q:=h d aE;have g:bt (aU (cY "tuple" jp)) [t,.aG (.cG (ii a) (n6 a)),.ai d]=.ok (!Mu d):=qG (jJ (by rw[Kv];exact RL q));rcases qg q with⟨i,rfl⟩|⟨z,m,rfl,_⟩
  .obtain⟨w,y⟩:=jkI a i;have B:(ii a).length<ba:=by rw[jiJ];exact dZ ak fN
   have c:qu y4 (bS (bt (aU (cY "tuple" jp))) (Dn 1 jp j6) bP) (.int i) [t,.aG (.cG (ii a) (n6 a)),u]=.ok (.nx [t,.aG (.cG (ii (ins a i)) (n6 (ins a i))),.ai (.int i)]):=by
    show bh ((ii a).length<ba) (aw.ok (br.nx [t,.aG (.cG (Vp (ii a) (.inl i)) (Vq (ii a) (n6 a) (.inl i) (.bl af))),.ai (.int i)]))=_
    simp_all
   have:=jiY a i;obtain⟨l,n⟩:=p (ins a i) (.ai (.int i)) (λe o=>h e (by simp[o])) ak;exact⟨l,by rw[jZ c,n];rfl⟩
  .have c:qu y4 (bS (bt (aU (cY "tuple" jp))) (Dn 1 jp j6) bP) (.ap (.str z::m)) [t,.aG (.cG (ii a) (n6 a)),u]=.ok (.nx [t,.aG (.cG (ii a) (n6 a)),.ai (.ap (.str z::m))]):=by
    rw[zA (env':=[t,.aG (.cG (ii a) (n6 a)),.ai (.ap (.str z::m))]) aa,bZ g];rfl
   obtain⟨l,n⟩:=p a (.ai (.ap (.str z::m))) (λe o=>h e (by simp[o])) ak;exact⟨l,by rw[jZ c,n];rfl⟩
def RN(c:tk i t=af)(e:eN t<=64)(g:num t<=1000):J7 [t]=.ok (.al ((ph t).map .int)):=by
 have d:=Qi t;obtain⟨u,h⟩:=vz (.ai t) (ce t) [] .un (ZB t c) dX;have a:cF (jl 1 (j5 64) (jb jc)) [.ai t,.aG (.cG [] []),.un]=.ok (ce t):=xQ (jo (ja aa aa) aa (X3 64 t (Je t c) e g)) aa;refine qW ?_
 delta uQ
 rw[jm (env':=[.ai t,.aG (.cG [] []),.un]) aa];rw[jm ((zX a).trans h)];show aY (app (jb jh) IB) [.ai t,.ai (.cG (ii (ph t)) (n6 (ph t))),u]=_;refine j7 (qz (ja aa aa) ?_);show bh _ _=_;simp[ii,kD,tL]
def QL(z)(a:LD):j9 [.ap (.str z::a)]=.ok (bn (z,(ao a:Int))):=by
 refine qW ?_;refine(j7 ?_).trans aa;refine Qc (ja (jk aa aa Ft) (ja ?_ aa)) (jx (show 2<=20000 by decide));refine jk (qz (ja aa aa) aa) aa ?_;simp
theorem jbm(t s):∀(j:LD)(l)(u),(∀d∈j,tk w d=af)->ao l+ao j<=2000->∃m,bu (qu y0 (bS (aU (cY "tuple" jB)) (Zr 1 (jl 1 j9 (jb jB)) j6) bP)) j [t,.aG (.bw (l.map bf) (c6 l)),s,u]=.ok (.nx [t,.aG (.bw ((en l (sJ j)).map bf) (c6 (en l (sJ j)))),s,m]):=
 bv (λl u x x=>⟨u,rfl⟩) λd j p l u h r=>by
  simp at r;have q:=h d aE;have g:aU (cY "tuple" jB) [t,.aG (.bw (l.map bf) (c6 l)),s,.ai d]=.ok (Mu d):=jJ (by rw[Kv];exact RL q);rcases qg q with⟨i,rfl⟩|⟨z,a,rfl,_⟩
  .have c:qu y0 (bS (aU (cY "tuple" jB)) (Zr 1 (jl 1 j9 (jb jB)) j6) bP) (.int i) [t,.aG (.bw (l.map bf) (c6 l)),s,u]=.ok (.nx [t,.aG (.bw (l.map bf) (c6 l)),s,.ai (.int i)]):=by
    rw[zA (env':=[t,.aG (.bw (l.map bf) (c6 l)),s,.ai (.int i)]) aa,bZ g];rfl
   obtain⟨m,n⟩:=p l (.ai (.int i)) (λe o=>h e (by simp[o])) ak;exact⟨m,by rw[jZ c,n];rfl⟩
  .obtain⟨y,B⟩:=OO l (z,(ao a));have E:(l.map bf).length<ba:=by rw[cX];exact dZ ak fN
   have v:jl 1 j9 (jb jB) [t,.aG (.bw (l.map bf) (c6 l)),s,.ai (.ap (.str z::a))]=.ok (bn (z,(ao a))):=jo (ja aa aa) aa (QL z a)
   have c:qu y0 (bS (aU (cY "tuple" jB)) (Zr 1 (jl 1 j9 (jb jB)) j6) bP) (.ap (.str z::a)) [t,.aG (.bw (l.map bf) (c6 l)),s,u]=.ok (.nx [t,.aG (.bw ((dH l (z,(ao a))).map bf) (c6 (dH l (z,(ao a))))),s,.ai (.ap (.str z::a))]):=by
    show(jl 1 j9 (jb jB) [t,.aG (.bw (l.map bf) (c6 l)),s,.ai (.ap (.str z::a))]>>=_)=_;rw[v];show bh ((l.map bf).length<ba) (aw.ok (br.nx [t,.aG (.bw (xx (l.map bf) (bf (z,(ao a)))) (Ws (l.map bf) (c6 l) (bf (z,(ao a))) (.bl af))),s,.ai (.ap (.str z::a))]))=_
    simp_all
   have:=uL l (z,(ao a));obtain⟨m,n⟩:=p (dH l (z,(ao a))) (.ai (.ap (.str z::a))) (λe o=>h e (by simp[o])) ak;exact⟨m,by rw[jZ c,n];rfl⟩
end
def mr:D->Bool
 |.ap (x::r)=>aD (ao r+1<=10)&&isNm x
 |.int i=>aD (0<=i)&&aD (i<=999)
 |_=>ag
def jkP(h:eS d=af):xI [d]=.ok (.bl (mr d)):=by
 cases d with
 |ap a=>
  cases a with
  |nil=>rfl
  |cons x r=>
   have c:eS x=af:=by
    simp only[eS,cE,fD]at h;exact h.2.1
   have e:aD ((1)<=((x::r).length:Int))=af:=by grind
   have g:aD (((x::r).length:Int)<=9+1)=aD (ao r+1<=10):=by grind
   have j:iL "tuple" (.ap (x::r))=.ok (.bl af):=rfl;have l:bY [.ap (x::r)]=.ok (.int ((x::r).length:Int)):=rfl;have m:a9 (.int 9) (.int 1)=.ok (.int (9+1)):=rfl;have n:qV 1 [.ap (x::r)]=[.ai (.ap (x::r))]:=rfl
   have e0:JZ (qV 1 [.ap (x::r)])=.ok (.rt af (.bl (aD (ao r+1<=10)&&isNm x))):=by
    simp only[JZ,n,j,l,m,ZJ,jlQ,jlS,Kv,jlO,On,uT,jjl,Dk,jlN,jm7,jlR,jjk,jlP,jir,List.getElem?_cons_zero,jjY,if_true,jgq,jmd,Oo,jki,e,g,jgr,Ft,jjm,List.length_singleton,jlh (J0 c)]
    grind
   exact Qd e0
 |int i=>
  have e0:xK [.int i]=.ok (.bl (aD (0<=i)&&aD (i<=999))):=by
   have e1:Zp (qV 1 [.int i])=.ok (.rt af (.bl (aD (0<=i)&&aD (i<=999)))):=by
    delta Zp
    show((aw.ok (D.bl (aD ((0)<=i)))>>=Fs (cI 999 (qV 1 [.int i])) nc (.int i))>>=_)=_;cases decide (0<=i)<;>rfl
   exact Qd e1
  have e2:JZ (qV 1 [.int i])=(xK [.int i]>>=λd=>.ok (.rt af d)):=rfl;rw[e0]at e2;exact Qd e2
 |_=>first|rfl|cases h
def jmu(h:eS d=af):xY [d]=.ok (.bl (!gT d&&(ce d).all mr)):=by
 have e1:Uc (qV 1 [d])=.ok (.rt af (.bl (!gT d&&(ce d).all mr))):=by
  show(((xJ [d]>>=Ag)>>=_)>>=_)=_;rw[jlG h];show(toK _ af (.bl (!gT d))>>=_)=_
  cases g:gT d with
  |true=>rfl
  |false=>
   simp only[gT,decide_eq_false_iff_not]at g;have i:=X3 64 d h ak ak;have l:=Qi d
   have a:zz ag 1 [] (cF (jl 1 (j5 64) (jb jc))) qF qm (jl 1 xI (jb jc)) (qV 1 [d])=.ok (.al ((ce d).map λd=>D.bl (mr d))):=by
    refine Fq _ (λd=>eS d=af) ?_ (λe c=>xR (vV d h) c) (cn (by omega:_<=1000) au) ?_
    .show(j5 64 [d]>>=_)=_;rw[i];rfl
    .intro e j c;exact jkP c
   rw[On,uT,a];show(iM [.al ((ce d).map λd=>D.bl (mr d))]>>=_)=_;rw[K0];rfl
 exact Qd e1
section
variable{ns:List Str}{fs:List Int}
structure Ru(ns:List Str)(l r:D):Prop where
 tl:tk ns l=af
 tr:tk ns r=af
 lt:∃z ts,l=.ap (.str z::ts)
 hl:eN l<=12
 hr:eN r<=12
 nl:num l<=60
 nr:num r<=60
 sub:∀x∈mJ r,x∈mJ l
 rN:∃fs:List Int,ao fs<=3/\(∀x∈fs,0<=x/\x<=999)/\∀x∈mJ l,x∈fs
def Ki:∀t,tk ns t=af->fL (ce t)=mJ t:=xM (λi=>rfl) λz e x x h=>by
 have:∀a:List D,(∀u∈a,fL (ce u)=mJ u)->fL (c4 a)=eJ a:=λa=>by
  induction a with
  |nil=>intro _;simp[c4,fL,eJ]
  |cons d r g=>
   intro h;rw[c4,Kj,h d aE,g λu c=>h u (by simp[c])];simp[eJ]
 rw[KR,<-this e λu c=>(h u c).2];simp[ce,fL]
def jk1(j:∀z∈ns,isNm (.str z)=af)(d:tk ns t=af)(h:∀x∈mJ t,0<=x/\x<=999):(ce t).all mr=af:=by
 rw[nF];intro p g;have c:=ZB t d p g;rcases qg c with⟨i,rfl⟩|⟨z,l,rfl,m,n,_⟩
 .have:i∈fL (ce t):=by
   obtain⟨a,b,e⟩:=List.append_of_mem g;rw[e,Kj];simp[fL]
  rw[Ki t d]at this;have:=h i this;simp[mr,this]
 .simp only[mr,fD,decide_eq_true_eq]
  simp_all
def uB(c:∀z∈ns,isNm (.str z)=af)(a:tk ns t=af)(e:eN t<=60)(g:num t<=1000)(d:∀x∈mJ t,0<=x/\x<=999):xY [t]=.ok (.bl af):=by
 rw[jmu (Je t a),jk1 c a d];have:gT t=ag:=by simp only[gT,decide_eq_false_iff_not];omega
 simp_all
theorem kP:∀(c l),l.Nodup->(met l c).Nodup
 |[],l,h=>h
 |x::c,l,h=>by
  refine kP c _ ?_
  delta ins
  split
  .exact h
  .rename_i e;rw[oI];exact⟨h,by simp,λa g b d=>by simp at d;subst d;rintro rfl;exact e g⟩
def jl3(l):(dd l).length<=ao l:=by
 exact PyProof.Rows.firstMet_length_le _ _
def jf9(v:∀z∈ns,isNm (.str z)=af)(h:Ru ns l r):yZ [.ap [l,r]]=.ok (.bl af):=by
 obtain⟨fs,w,B,a⟩:=h.rN;have e:∀x∈mJ l,0<=x/\x<=999:=λx c=>B x (a x c)
 have n:=uB v h.tl (by have:=h.hl;omega) (by have:=h.nl;omega) e;have o:=uB v h.tr (by have:=h.hr;omega) (by have:=h.nr;omega) λx c=>e x (h.sub x c)
 obtain⟨z,L,cr⟩:=h.lt;have p:iL "tuple" l=.ok (.bl af):=by rw[cr];rfl
 have E:=RN h.tl (by have:=h.hl;omega) (by have:=h.nl;omega);have H:=RN h.tr (by have:=h.hr;omega) (by have:=h.nr;omega);have q:aq jc jP bc [.ai (.ap [l,r])]=.ok l:=jk aa aa Ft;have y:aq jc jS bc [.ai (.ap [l,r])]=.ok r:=jk aa aa (by show(match h8 [l,r] ((1:Nat):Int)with|some d=>aw.ok d|none=>.am)=_;rw[M.dJ];rfl);have g:∀x,x∈ph l↔x∈mJ l:=λx=>by delta ph;rw[kQ,Ki l h.tl];simp
 have j:∀x,x∈ph r↔x∈mJ r:=λx=>by delta ph;rw[kQ,Ki r h.tr];simp
 have N:(ph r).length<=3:=cn (wI (kP _ _ pD) λx c=>a x (h.sub x ((j x).mp c))) w;have O:(ph l).length<=3:=cn (wI (kP _ _ pD) λx c=>a x ((g x).mp c)) w;have I:tP=4096:=rfl
 have m:oP (.al ((ph r).map .int)) (.al ((ph l).map .int))=.ok (.int 0):=by
  delta oP
  simp only[jds];refine jI ⟨by omega,by omega,λi J=>(g i).mpr (h.sub i ((j i).mp J)),?_⟩;have:=jl3 (ph r);omega
 have u:aU (cY "tuple" (aq jc jP bc)) [.ai (.ap [l,r])]=.ok af:=jJ (by rw[Kv,q];exact p);refine qW ?_
 delta Ud
 rw[jm ((bZ (kB (qG (jJ (b:=true) aa)) (jJ (jk (qz (ja aa aa) aa) aa RM)))))];refine(jm ((bZ (kB (qG (jJ (jo (ja q aa) aa n))) (kB (qG (jJ (jo (ja y aa) aa o))) (qG u)))))).trans ?_;exact j7 (jk (jk (jo (ja y aa) aa H) (jo (ja q aa) aa E) m) aa JG)
end
section
def sT(a:List Str)(l:List Hd):Prop:=l.Nodup/\∀x∈l,x.1∈a/\0<=x.2/\x.2<=9
def jgf(h:sT a l)(c:∀d∈e,tk a d=af):sT a (en l (sJ e)):=
 ⟨ji2 h.1,λx g=>(uJ g).elim (h.2 x) λz=>OM c x z⟩
theorem jdD(p:ao d=5)(T):∀(g)(l)(s u),(∀t∈g,tk d t=af/\eN t<=64/\num t<=1000)->sT d l->∃a i j,sT d a/\
  bu (qu y4 (cw (cF (jl 1 (j5 64) (jb jp))) y0 (bS (aU (cY "tuple" jB)) (Zr 1 (jl 1 j9 (jb jB)) j6) bP))) g [T,.aG (.bw (l.map bf) (c6 l)),s,u]=.ok (.nx [T,.aG (.bw (a.map bf) (c6 a)),i,j]):=
 bv (λl s u x c=>⟨l,s,u,c,rfl⟩) λt g q l s u h c=>by
  obtain⟨m,r,v⟩:=h t aE;have n:=VY c.1 c.2;have o:=Qi t;obtain⟨w,H⟩:=jbm T (.ai t) (ce t) l u (ZB t m) ak;have y:cF (jl 1 (j5 64) (jb jp)) [T,.aG (.bw (l.map bf) (c6 l)),.ai t,u]=.ok (ce t):=xQ (jo (ja aa aa) aa (X3 64 t (Je t m) r v)) aa;obtain⟨a,i,j,z,B⟩:=q (en l (sJ (ce t))) (.ai t) w (λe E=>h e (by simp[E])) (jgf c (ZB t m));refine⟨a,i,j,z,?_⟩;refine(jZ ?_).trans B;rw[zA aa]
  simp_all
def Mw(h:isNm (.str z)=af):z.length<=8:=by
 rw[Kh]at h
 grind
def jbG(d:i.length=5)(e:∀z∈i,isNm (.str z)=af)(h:∀t∈g,tk i t=af/\eN t<=64/\num t<=1000):∃l,x8 [.al g]=.ok (.al l):=by
 obtain⟨m,q,r,c,n⟩:=jdD d (.ai (.al g)) g [] .un .un h ⟨pD,λx o=>by cases o⟩;have j:=VY c.1 c.2;refine⟨(Zb m).map bn,qW ?_⟩;refine(jm ((zX aa).trans n)).trans ?_;exact j7 (qz (ja aa aa) (jaJ c.1 ak λa p=>jx (cn (Mw (e _ (c.2 a p).1)) au)))
noncomputable def rl(p:D×D):D:=.ap [p.1,p.2]
def gU(a:List Str)(c:List (D×D)):Prop:=∀p∈c,Ru a p.1 p.2
def jbE(e:∀z∈j,isNm (.str z)=af)(h:gU j a)(n:ao a<=40):xZ [.al (a.map rl)]=.ok (.bl af):=by
 have g:zz ag 1 [] (cF jc) qF qm (jl 1 yZ (jb jc)) [.ai (.al (a.map rl))]=.ok (.al ((a.map rl).map λx=>.bl af)):=by
  refine Fq _ (λd=>∃p,d=rl p/\Ru j p.1 p.2) aa (λd l=>by obtain⟨p,i,rfl⟩:=dz.mp l;exact⟨p,rfl,h p i⟩) (by rw[cX];exact jx ak) ?_;rintro d m ⟨p,rfl,i⟩;exact jo (ja aa aa) aa (jf9 e i)
 refine qW ?_
 have c:aU (aq (app (jb jc) bY) (cI 40) lv) [.ai (.al (a.map rl))]=.ok ag:=by
  refine jJ (jk (qz (ja aa aa) aa) aa ?_);show aw.ok (D.bl (aD ((40)< ((a.map rl).length:Int))))=_;rw[cX,decide_eq_false ak]
 refine(jm ((bZ (kB (qG (jJ (b:=true) aa)) c)))).trans ?_;exact j7 (qz (ja g aa) (jgY _))
theorem jjH(φ:D×D->D)(P:D×D->Prop)(g:∀p a,P p->c [.ai p.1,.ai p.2,.aG (.al a)]=.ok (φ p)):
  ∀(d)(a:LD)(u v),(∀p∈d,P p)->ao a+ao d<=ba->∃i j,xT 2 (g2 qF yF) qm c (d.map rl) [u,v,.aG (.al a)]=.ok [i,j,.aG (.al (a++d.map φ))]:=
 bv (λa u v y y=>⟨u,v,by simp[xT]⟩) λp r m a u v l h=>by
  simp at h;obtain⟨i,j,e⟩:=m (a++[φ p]) (.ai p.1) (.ai p.2) (λx n=>l x (by simp[n])) dX;refine⟨i,j,?_⟩
  have o:xT 2 (g2 qF yF) qm c ((p::r).map rl) [u,v,.aG (.al a)]=xT 2 (g2 qF yF) qm c (r.map rl) [.ai p.1,.ai p.2,.aG (.al (a++[φ p]))]:=by
   show(c [.ai p.1,.ai p.2,.aG (.al a)]>>=_)=_;rw[g p a (l p aE)];exact jI ak
  simp_all
def Z9(φ)(P:D×D->Prop)(d:∀p g,P p->fe [.ai p.1,.ai p.2,.aG (.al g)]=.ok (φ p))(h:fi env=.ok (a.map rl))(i:∀p∈a,P p)(j:ao a<=ba):
  zz ag 2 [] fi (g2 qF yF) qm fe env=.ok (.al (a.map φ)):=by
 obtain⟨u,v,e⟩:=jjH φ P d a [] .un .un i (by simpa using j);show(fi env>>=_)=_;rw[h];show(xT 2 (g2 qF yF) qm fe (a.map rl) [.un,.un,.aG (.al [])]>>=_)=_;rw[e];exact jI (c:=(ag=af->D.f9 (a.map φ)=af)) bF
def obj(a:List (D×D))(c:LD):D:=.obj "Rules" ["listed", "named"] [.al (a.map rl),.al c]
def U6{c g2}(h:c env=.ok (.nx a)):oM c g2 env=g2 a:=by
 show(c env>>=_)=_;rw[h];rfl
def RO{a g2}(h:t env=.ok ag):gS t a g2 env=g2 env:=by delta gS;rw[h];rfl
def jlE{a g2}(h:t env=.ok af):gS t a g2 env=a env:=by delta gS;rw[h];rfl
def Wb(h:g env=.ok o):UC g env=.ok o:=by delta UC;rw[h];rfl
def vQ{a:LD}(e:ao a=n)(h:g (xw N c a)=.ok (.nx env))(i:Xu env=.ok d):YJ N n g c a=.ok (.bo,d):=by
 delta YJ
 simp_all
def jcg{a:LD}(d:ao a=n)(h:g (xw N e a)=.exc c):YJ N n g e a=.exc c:=by
 delta YJ
 rw[if_pos d,h]
def YD{a:LD}(h:f env=.ok d)(e:env[i]?=ae (.aG (.obj c fs a)))(g:ao fs<1000):DM i c n f env=.ok (.nx (env.set i (.aG (.obj c (BO n fs) (BP n d fs a))))):=by
 have j:oN i c env=.ok (fs,a):=by
  delta oN;rw[e];exact jI aa
 show(f env>>=λd=>oN i c env>>=_)=_
 simp_all
def jmO(e:ao j=5)(c:∀z∈j,isNm (.str z)=af)(h:gU j a)(m:ao a<=40):∃d,qf (.obj "Rules" [] []) [.al (a.map rl)]=.ok (.bo,obj a d):=by
 have l:ao a<=ba:=jx ak
 obtain⟨d,n⟩:=jbG e c (λt o=>by
  rcases fj.mp o with z|z
  .obtain⟨p,g,rfl⟩:=dz.mp z;have r:=h p g;exact⟨r.tl,by have:=r.hl;omega,by have:=r.nl;omega⟩
  .obtain⟨p,g,rfl⟩:=dz.mp z;have r:=h p g
   exact⟨r.tr,by have:=r.hr;omega,by have:=r.nr;omega⟩)
 refine⟨d,?_⟩
 have e0:yi (xw 2 (.obj "Rules" [] []) [.al (a.map rl)])=.ok (.nx [.aG (obj a d),.ai (.al (a.map rl))]):=by
  refine(U6 ((RO (qG (jJ (jo (ja aa aa) aa (jbE c h m))))).trans (Wb aa))).trans ?_;refine(Wb ((U6 ((YD (qz (ja aa aa) aa) aa au))).trans ?_));refine(YD (jo (ja (jk (Z9 (fe:=bR 0) (fi:=cF jh) (env:=[.aG (.obj "Rules" ["listed"] [.al (a.map rl)]),.ai (.al (a.map rl))]) (·.1) (λx=>True) (λp i x=>rfl) aa (λx x=>trivial) l) (Z9 (fe:=bR 1) (fi:=cF jh) (env:=[.aG (.obj "Rules" ["listed"] [.al (a.map rl)]),.ai (.al (a.map rl))]) (·.2) (λx=>True) (λp i x=>rfl) aa (λx x=>trivial) l) (xV (by simp;exact jx ak))) aa) aa n) aa au).trans ?_;rfl
 exact vQ aa e0 aa
def RP(a)(c):qE [obj a c]=.ok (.al (a.map rl)):=by
 refine qW ?_;exact j7 (qz (ja aa aa) aa)
end
mutual
noncomputable def dU:D->List (List Int×D)
 |.ap (x::r)=>([],.ap (x::r))::gF 0 r
 |d=>[([],d)]
noncomputable def gF(k:Nat):LD->List (List Int×D)
 |[]=>[]
 |d::r=>(dU d).map (λp=>((k:Int)::p.1,p.2))++gF (k+1) r
end
def Qj(p:List Int):D:=.ap (p.map .int)
def km(x)(r:LD):dU (.ap (x::r))=([],.ap (x::r))::gF 0 r:=by simp[dU]
def YN(i):dU (.int i)=[([],.int i)]:=by simp[dU]
def Wu(k)(d)(r:LD):gF k (d::r)=(dU d).map (λp=>((k:Int)::p.1,p.2))++gF (k+1) r:=by simp[gF]
def YM(k):gF k []=[]:=by simp[gF]
mutual
theorem Wv:∀d,(dU d).length=num d
 |.ap (x::r)=>by rw[km,gG,ms 0 r];simp[num];omega
 |.ap []|.bo|.bl _|.int _|.str _|.al _|.dw _|.cG _ _|.bw _ _|.eX _|.gK _ _|.bV _ _|.obj _ _ _=>by simp[dU,num]
theorem ms:∀(k)(a),(gF k a).length=nums a
 |k,[]=>by simp[gF,nums]
 |k,d::r=>by rw[Wu,lh,cX,Wv d,ms (k+1) r];simp[nums]
end
section
def vX:∀{a}{k}{q},q∈gF k a->∃(j:Nat)(u:D)(p:List Int×D),a[j]?=ae u/\p∈dU u/\q=(((k+j:Nat):Int)::p.1,p.2):=
 @(
  bv (@(λk q h=>by rw[YM]at h;cases h)) λd r c k q h=>by
  rcases fj.mp h with h|h
  .obtain⟨p,e,rfl⟩:=dz.mp h;exact⟨0,d,p,rfl,e,rfl⟩
  .obtain⟨j,u,p,g,i,rfl⟩:=c h
   exact⟨j+1,u,p,by simpa using g,i,by simp;omega⟩)
def RQ{a:LD}{j:Nat}(h:a[j]?=ae u):u∈a:=lf h
def vY:∀t,tk c t=af->∀p∈dU t,p.1.length+1<=eN t/\(∀i∈p.1,0<=i)/\tk c p.2=af:=xM (λi p hp=>by
   rw[YN]at hp;simp only[cM,tW,or_false]at hp;subst hp
   exact⟨by simp[eN],(λx h=>by cases h),rfl⟩) λz r d e h p hp=>by
 rcases cM.mp hp with rfl|hp
 .exact⟨by rw[Jd];simp,(λx h=>by cases h),IJ d e λt g=>(h t g).1⟩
 .obtain⟨j,u,q,l,m,rfl⟩:=vX hp;have a:=RQ l;obtain⟨v,n,o⟩:=(h u a).2 q m;have:=yg a;refine⟨by rw[Jd,gG];omega,λi hi=>?_,o⟩;rcases cM.mp hi with rfl|hi
  .omega
  .exact n i hi
def B6{l:LD}{k:Nat}(h:l[k]?=ae x):bc (.ap l) (.int (k))=.ok x:=by
 show(match h8 l k with|some d=>aw.ok d|none=>.am)=_;rw[M.dJ,h]
def Mx{l:LD}{k:Nat}(h:l[k]?=ae x):bc (.al l) (.int (k))=.ok x:=by
 show(match h8 l k with|some d=>aw.ok d|none=>.am)=_;rw[M.dJ,h]
theorem QI:∀{a}{d},d∈a->num d<=nums a
 |x::r,d,h=>by
  simp only[nums];rcases cM.mp h with rfl|h
  .omega
  .have:=QI h;omega
def sU(p:List Int×D):D:=Qj p.1
def eM(k:Int):D->D
 |.ap a=>.ap (.int k::a)
 |d=>d
def RR(n:Nat):Sl->aw br:=we 1 (zz ag 1 [2] (cF (jl 1 (xc n) (jb jB))) qF qm (aq (aO (jb jh)) jc a9))
def uS{a c:LD}(d:eH i env=.ok a)(e:f env=.ok (.al c))(g:ao a+ao c<=ba):we i f env=.ok (.nx (env.set i (.aG (.al (a++c))))):=by
 delta we
 simp_all
def ja0{t}:∀(r)(k)(c:LD)(u v),(∀d∈r,xc n [d]=.ok (.al ((dU d).map sU))/\∀p∈dU d,p.1.length<=100)->ao c+nums r<=2000->
  ∃j l,bu (qu (g2 y4 y0) (RR n)) (jW k r) [t,.aG (.al c),u,v]=.ok (.nx [t,.aG (.al (c++(gF k r).map sU)),j,l]):=
 bv (λk c u v x x=>⟨u,v,by rw[YM];simp[jW,bu]⟩) λd r m k c u v o w=>by
  simp only[nums]at w;obtain⟨y,z⟩:=o d aE;have g:=Wv d
  have B:zz ag 1 [2] (cF (jl 1 (xc n) (jb jB))) qF qm (aq (aO (jb jh)) jc a9) [t,.aG (.al c),.ai (.int k),.ai d]=.ok (.al (((dU d).map sU).map (eM k))):=
   jnc aa (eM k) (λd=>∃p:List Int,d=Qj p/\ao p<=100) (xQ (jo (ja aa aa) aa y) aa) (λe i=>by
    obtain⟨p,q,rfl⟩:=dz.mp i
    exact⟨p.1,rfl,z p q⟩) (jx (by simp[g];omega)) (by
    rintro e c ⟨p,i,q⟩;subst i
    exact jk (Qc (ja aa aa) (jx aE)) aa (jj6 aa (jx cf)))
  have h:qu (g2 y4 y0) (RR n) (.ap [.int k,d]) [t,.aG (.al c),u,v]=.ok (.nx [t,.aG (.al (c++((dU d).map sU).map (eM k))),.ai (.int k),.ai d]):=by
   rw[zA aa];exact(uS aa B (jx (by simp[g];omega))).trans aa
  obtain⟨j,l,E⟩:=m (k+1) (c++((dU d).map sU).map (eM k)) (.ai (.int k)) (.ai d) (λe i=>o e (by simp[i])) (by simp[g];omega);refine⟨j,l,?_⟩;show bu _ (.ap [.int k,d]::jW (k+1) r) _=_;rw[jZ h,E,Wu];simp[dF];exactλa b x=>rfl
theorem jk2:∀(n)(t),tk l t=af->eN t<=n->eN t<=100->num t<=1000->xc n [t]=.ok (.al ((dU t).map sU)):=
 lT (λt x h x x=>by have:=Op t;omega) λn e t g m o j=>by
  refine qW ?_;refine(jm ((zr (wM (ja (Qc aa (jx aE)) aa) (jx aE))).trans aa)).trans ?_
  have q:Jr (jl 1 qk (jb jc)) [.ai t,.aG (.al [Qj []]),.un,.un]=.ok (jW 0 (bM t)):=by
    show(jl 1 _ _ _>>=_)=_;have r:jl 1 qk (jb jc) [.ai t,.aG (.al [Qj []]),.un,.un]=.ok (.ap (bM t)):=jo (ja aa aa) aa (Ww (J0 (Je t g)))
    simp_all
  have v:∀u∈bM t,xc n [u]=.ok (.al ((dU u).map sU))/\∀p∈dU u,p.1.length<=100:=λu d=>by
    have a:tk l u=af:=by
     rcases qg g with⟨i,rfl⟩|⟨z,w,rfl,y,B,c⟩
     .cases d
     .exact c u d
    have I:=yg d;have J:=QI d;rw[VX]at m o;rw[VJ]at j;exact⟨e u a ak ak ak,λp E=>by have:=(vY u a p E).1;omega⟩
  obtain⟨L,N,H⟩:=ja0 (bM t) 0 [Qj []] .un .un v (by rw[VJ]at j;simp;omega);refine(jm ((zX q).trans H)).trans ?_;rcases qg g with⟨i,rfl⟩|⟨z,w,rfl,y,B,c⟩
  .rw[YN];rfl
  .rw[km];rfl
def RS:∀t,tk j t=af->(dU t).map (·.2)=ce t:=xM (λi=>by rw[YN];simp[ce]) λz e x x h=>by
 have:∀(a:LD) k,(∀u∈a,(dU u).map (·.2)=ce u)->(gF k a).map (·.2)=c4 a:=λa=>by
  induction a with
  |nil=>intro k _;rw[YM];simp[c4]
  |cons d r g=>
   intro k h;rw[Wu,lP,dF,g (k+1) λu c=>h u (by simp[c]),c4,<-h d aE];rfl
 rw[km,fI,this e 0 λu c=>(h u c).2];simp[ce]
end
section
def Mz(h:a env=.ok ag):fu a c env=.ok ag:=by simp_all
def jfO:x∈dH l a↔x∈l\/x=a:=by
 delta dH
 by_cases h:a∈l
 .rw[if_pos h];exact⟨.inl,λz=>z.elim id λe=>by rw[e];exact h⟩
 .rw[if_neg h];simp
def ip:∀{c l}{x},x∈en l c↔x∈l\/x∈c:=
 @(
  bv (@(λl x=>by simp[en])) λa c d l x=>by
  show x∈en (dH l a) c↔_;rw[d,jfO];simp;constructor
  all_goals grind)
def jU:D->Hd
 |.ap (.str z::a)=>(z,(ao a:Int))
 |_=>("",0)
def gY(l:List Hd):D->Bool
 |.ap (.str z::a)=>aD ((z,(ao a:Int))∈l)
 |_=>ag
def ent(k:Nat)(q:List Int×D):D:=.ap [.int (k:Int),Qj q.1]
def oZ(l:List Hd)(k:Nat)(r:D):LD:=((dU r).filter λq=>gY l q.2).map (ent k)
def nE(l:List Hd):Nat->List (D×D)->List D
 |_,[]=>[]
 |k,p::r=>oZ l k p.2++nE l (k+1) r
def jgV(l)(k)(r):(oZ l k r).length<=num r:=by
 delta oZ
 rw[cX,<-Wv r];exact MA _ _
theorem RT(l):∀a,(a.map λh=>(bf h,D.bl af)).foldl Ju (l.map bf,c6 l)=((en l a).map bf,c6 (en l a))
 |[]=>rfl
 |x::a=>by
  rw[fI,r9]
  have e:Ju (l.map bf,c6 l) (bf x,.bl af)=((dH l x).map bf,c6 (dH l x)):=by
   obtain⟨c,d⟩:=OO l x;exact Prod.ext c d
  rw[e];exact RT (dH l x) a
theorem RU:∀a:List Hd,gA (a.map λh=>D.ap [bn h,.bl af])=ae (a.map λh=>(bf h,D.bl af))
 |[]=>rfl
 |x::a=>by
  show(match bW (bn x),gA (a.map λh=>D.ap [bn h,.bl af])with|some k,ae q=>ae ((k,D.bl af)::q)|_,_=>ah)=_;rw[RU a];rfl
def jgE(a):QS [.al (a.map λh=>D.ap [bn h,.bl af])]=.ok (.bw ((en [] a).map bf) (c6 (en [] a))):=by
 show(match gA (a.map λh=>D.ap [bn h,.bl af])with|some c=>aw.ok (D.bw (c.foldl Ju ([],[])).1 (c.foldl Ju ([],[])).2)|none=>.am)=_;rw[RU];show aw.ok (D.bw _ _)=_;have:=RT [] a;rw[show(([]:List Hd).map bf,c6 [])=(([]:List (List NK)),([]:LD)) from aa]at this;rw[this]
def jlC(l:List Hd)(h)(a:LD):nU (bn h) (.bw (l.map bf) a)=.ok (.bl (aD (h∈l))):=by
 show aw.ok (D.bl (dG (l.map bf) (bf h)))=_;rw[ON]
def Gr:Sl->aw br:=bS (aU (aq (jl 1 j9 (jb jK)) jp nU)) (qL 3 (aO (jf jV (jb qv)))) bP
def uM(i):j9 [.int i]=.ok .bo:=rfl
theorem RV{d:LD}{o j m}{k:Nat}:∀(L)(a:LD)(u v),(∀q∈L,tk I q.2=af)->ao a+ao L<=10000->
  ∃p r,bu (qu (g2 Jt (gN 7)) Gr) (L.map λq=>D.ap [Qj q.1,q.2]) [o,j,.ai (.bw (l.map bf) d),.aG (.al a),.ai (.int (k)),m,u,v]=
   .ok (.nx [o,j,.ai (.bw (l.map bf) d),.aG (.al (a++(L.filter λq=>gY l q.2).map (ent k))),.ai (.int (k)),m,p,r])
 |[],a,u,v,_,_=>⟨u,v,by simp[bu]⟩
 |q::L,a,u,v,h,w=>by
  simp only[gG]at w;have y:=h q aE
  have c:aU (aq (jl 1 j9 (jb jK)) jp nU) [o,j,.ai (.bw (l.map bf) d),.aG (.al a),.ai (.int k),m,.ai (Qj q.1),.ai q.2]=.ok (gY l q.2):=by
   rcases qg y with⟨i,e⟩|⟨z,B,e,_⟩
   .rw[e];exact jJ (jk (jo (ja aa aa) aa (uM i)) aa aa)
   .rw[e];exact jJ (jk (jo (ja aa aa) aa (QL z B)) aa (jlC l _ d))
  have g:qu (g2 Jt (gN 7)) Gr (.ap [Qj q.1,q.2]) [o,j,.ai (.bw (l.map bf) d),.aG (.al a),.ai (.int k),m,u,v]=.ok (.nx [o,j,.ai (.bw (l.map bf) d),.aG (.al (a++(if gY l q.2=af then[ent k q]else[]))),.ai (.int k),m,.ai (Qj q.1),.ai q.2]):=by
   rw[zA (env':=[o,j,.ai (.bw (l.map bf) d),.aG (.al a),.ai (.int k),m,.ai (Qj q.1),.ai q.2]) aa]
   delta Gr
   cases n:gY l q.2 with
   |true=>
     rw[n]at c;rw[cq c];exact(wa aa (Qc (ja aa (ja aa aa)) (jx aE)) (dZ ak fN)).trans aa
   |false=>
     rw[n]at c;rw[bZ c];simp[bP]
  obtain⟨p,r,E⟩:=RV L (a++(if gY l q.2=af then[ent k q]else[])) (.ai (Qj q.1)) (.ai q.2) (λx H=>h x (by simp[H])) (by split<;>simp<;>omega);refine⟨p,r,?_⟩;rw[fI,jZ g,E];cases n:gY l q.2<;>simp[A1,n]
theorem Vw{a:Type}(f g):∀L:List a,yN (L.map f) (L.map g)=L.map λx=>.ap [f x,g x]
 |[]=>rfl
 |x::L=>by simp[yN,Vw f g L]
def RW:Sl->aw br:=cw (FR (jl 1 (xc 64) (jb (aq jL jS bc))) (jl 1 (j5 64) (jb (aq jL jS bc)))) (g2 Jt (gN 7)) Gr
def jeu{g:LD}{o i}:∀(m)(k)(a:LD)(r u c e),gU ns m->ao a+60*ao m<=5000->
  ∃v w y z,bu (qu (g2 yp zT) RW) (jW k (m.map rl)) [o,i,.ai (.bw (l.map bf) g),.aG (.al a),r,u,c,e]=
   .ok (.nx [o,i,.ai (.bw (l.map bf) g),.aG (.al (a++nE l k m)),v,w,y,z]):=
 bv (λk a r u c e b b=>⟨r,u,c,e,by simp[jW,bu,nE]⟩) λp m L k a r u c e h hl=>by
  have n:=h p aE;have E:=Wv p.2;have N:=n.nr;have O:=n.hr;obtain⟨H,I,B⟩:=RV (dU p.2) a c e (λq Q=>(vY p.2 n.tr q Q).2.2) ak;have J:aq jL jS bc [o,i,.ai (.bw (l.map bf) g),.aG (.al a),.ai (.int k),.ai (rl p),c,e]=.ok p.2:=jk aa aa (B6 aa)
  have U:FR (jl 1 (xc 64) (jb (aq jL jS bc))) (jl 1 (j5 64) (jb (aq jL jS bc))) [o,i,.ai (.bw (l.map bf) g),.aG (.al a),.ai (.int k),.ai (rl p),c,e]=.ok ((dU p.2).map λq=>D.ap [Qj q.1,q.2]):=by
   have Y:jl 1 (xc 64) (jb (aq jL jS bc)) [o,i,.ai (.bw (l.map bf) g),.aG (.al a),.ai (.int k),.ai (rl p),c,e]=.ok (.al ((dU p.2).map sU)):=jo (ja J aa) aa (jk2 64 p.2 n.tr ak ak ak);have a2:jl 1 (j5 64) (jb (aq jL jS bc)) [o,i,.ai (.bw (l.map bf) g),.aG (.al a),.ai (.int k),.ai (rl p),c,e]=.ok (.al (ce p.2)):=jo (ja J aa) aa (X3 64 p.2 (Je _ n.tr) ak ak);show(jl 1 (xc 64) _ _>>=λd=>jl 1 (j5 64) _ _>>=_)=_;rw[Y];rw[a2,<-RS p.2 n.tr];show aw.ok (yN ((dU p.2).map sU) ((dU p.2).map (·.2)))=_;rw[Vw];rfl
  have j:qu (g2 yp zT) RW (.ap [.int k,rl p]) [o,i,.ai (.bw (l.map bf) g),.aG (.al a),r,u,c,e]=.ok (.nx [o,i,.ai (.bw (l.map bf) g),.aG (.al (a++oZ l k p.2)),.ai (.int k),.ai (rl p),H,I]):=by
   exact(zX U).trans B
  have BU:=jgV l k p.2;obtain⟨a4,a5,a6,a7,hr⟩:=L (k+1) (a++oZ l k p.2) (.ai (.int k)) (.ai (rl p)) H I (λx hx=>h x (by simp[hx])) dX;refine⟨a4,a5,a6,a7,?_⟩;show bu _ (.ap [.int k,rl p]::jW (k+1) (m.map rl)) _=_;rw[jZ j,hr];simp[nE]
def wK{e a:LD}(h:i env=.ok (.obj c fs e))(j:fs.contains m=ag)(l:g env=.ok a)(o:ao a+1=n)(p:F (.obj c fs e::a)=.ok d):wL c m n F i g env=.ok d:=by
 delta wL
 rw[h];refine(jI ⟨rfl,j⟩).trans ?_;rw[l];exact(jI o).trans p
def gV(a:List (D×D)):List Hd:=a.map λp=>jU p.1
def ji5(h:Ru c l r):j9 [l]=.ok (bn (jU l)):=by
 obtain⟨z,a,rfl⟩:=h.lt;exact QL z a
def jme(h:gU d a)(m:ao a<=40):Zz [obj a c]=.ok (.al (nE (en [] (gV a)) 0 a)):=by
 refine qW ?_
 have e:wL "Rules" "told" 1 qE jc mY [.ai (obj a c),.un,.un,.un,.un,.un,.un,.un]=.ok (.al (a.map rl)):=by
  exact wK aa au aa aa (RP a c)
 refine(jm ((jw e))).trans ?_
 have g:app (jf (zz ag 2 [] (cF jh) (g2 qF yF) qm (aO (jf (jl 1 j9 (jb jc)) (jb j6)))) aT) QS [.ai (obj a c),.ai (.al (a.map rl)),.un,.un,.un,.un,.un,.un]=.ok (.bw ((en [] (gV a)).map bf) (c6 (en [] (gV a)))):=by
  refine qz (ja (Z9 (fe:=aO (jf (jl 1 j9 (jb jc)) (jb j6))) (fi:=cF jh) (env:=[.ai (obj a c),.ai (.al (a.map rl)),.un,.un,.un,.un,.un,.un]) (λp=>D.ap [bn (jU p.1),.bl af]) (λp=>Ru d p.1 p.2) (λp i j=>Qc (ja (jo (ja aa aa) aa (ji5 j)) (ja aa aa)) (jx aE)) aa h (jx ak)) aa) ?_;have:=jgE (gV a);unfold gV at this ⊢;rw[dF]at this;exact this
 refine(jm ((jw g))).trans ?_;refine(jm aa).trans ?_;obtain⟨n,o,q,r,l⟩:=jeu a 0 [] .un .un .un .un h dX;refine(jm ((zX aa).trans l)).trans ?_;rw[Ey];rfl
end
section
variable{Y:Type}[DecidableEq Y]
inductive Tc(E:List (Y×Y)):Y->Y->Prop
 |one {a b:Y}:(a,b)∈E->Tc E a b
 |more {a b c:Y}:Tc E a b->(b,c)∈E->Tc E a c
def Tc.fst{a b:Y}(h:Tc E a b):∃c,(a,c)∈E:=by
 induction h with
 |one h=>exact⟨_,h⟩
 |more _ _ d=>exact d
def mu(q:List Y×List Y)(x:Y):List Y×List Y:=if x∈q.1 then q else(q.1++[x],q.2++[x])
theorem KH:∀(c m w:List Y),∃A,c.foldl mu (m,w)=(m++A,w++A)/\(∀a∈A,a∈c)/\(∀s∈c,s∈m++A)/\(m.Nodup->(m++A).Nodup)
 |[],m,w=>⟨[],by simp,by simp,by simp,by simp⟩
 |s::c,m,w=>by
  rw[r9]
  by_cases h:s∈m
  .rw[show mu (m,w) s=(m,w) from if_pos h];obtain⟨A,e,d,g,i⟩:=KH c m w;refine⟨A,e,λa ha=>.tail _ (d a ha),λx hx=>?_,i⟩;rcases cM.mp hx with rfl|hx
   .exact o8 _ h
   .exact g x hx
  .rw[show mu (m,w) s=(m++[s],w++[s]) from if_neg h];obtain⟨A,e,d,g,i⟩:=KH c (m++[s]) (w++[s]);refine⟨s::A,by simpa using e,λa ha=>?_,λx hx=>?_,λnd=>?_⟩
   .rcases cM.mp ha with rfl|ha
    .exact .head _
    .exact .tail _ (d a ha)
   .rcases cM.mp hx with rfl|hx
    .simp
    .simpa using g x hx
   .have:=i (oI.mpr ⟨nd,by simp,λx hx y j=>by simp at j;subst j;rintro rfl;exact h hx⟩);simpa using this
structure sd(E:List (Y×Y))(N:List Y)(a:Y)(m w:List Y):Prop where
 to:∀x∈m,Tc E a x
 wt:∀x∈w,x=a\/x∈m
 done:∀x,x=a\/x∈m->x∈w\/∀y,(x,y)∈E->y∈m
 nd:m.Nodup
 sub:∀x∈m,x∈N
def sd.init(E)(N)(a:Y):sd E N a [] [a]:=by
 refine⟨?_,λx h=>.inl aZ,λx h=>?_,pD,?_⟩
 all_goals simp_all
def sd.step{N}{a x}{m w d:List Y}(D:sd E N a m (w++[x]))(g:∀y,y∈d↔(x,y)∈E)(j:∀x y,(x,y)∈E->y∈N):
   ∃A,d.foldl mu (m,w)=(m++A,w++A)/\sd E N a (m++A) (w++A):=by
 obtain⟨A,e,i,o,l⟩:=KH d m w
 have n:∀y,(x,y)∈E->Tc E a y:=λy c=>by
   rcases D.wt x aE with rfl|hm
   .exact .one c
   .exact .more (D.to x hm) c
 refine⟨A,e,λy c=>?_,λy c=>?_,λy c=>?_,l D.nd,λy c=>?_⟩
 .rcases fj.mp c with h|h
  .exact D.to y h
  .exact n y ((g y).mp (i y h))
 .rcases fj.mp c with h|h
  .exact(D.wt y (by simp[h])).imp id λz=>o8 _ z
  .exact .inr (mU _ h)
 .have key:y=a\/y∈m->y∈w++A\/∀z,(y,z)∈E->z∈m++A:=λh=>by
    rcases D.done y h with q|q
    all_goals (first|omega|(simp_all;done)|grind)
  rcases c with h|h
  .exact key (.inl h)
  .rcases fj.mp h with h|h
   .exact key (.inr h)
   .exact .inl (mU _ h)
 .rcases fj.mp c with h|h
  .exact D.sub y h
  .exact j x y ((g y).mp (i y h))
def sd.end{N}{a}{m}(D:sd E N a m [])(y:Y):y∈m↔Tc E a y:=by
 refine⟨D.to y,λh=>?_⟩;have c:∀x,x=a\/x∈m->∀z,(x,z)∈E->z∈m:=λx d=>(D.done x d).resolve_left bF
 induction h with
 |one h=>exact c _ (.inl aa) _ h
 |more _ h e=>exact c _ (.inr e) _ h
def eK(p:Y×Y)(q:List (Y×Y)×Bool)(e:Y×Y):List (Y×Y)×Bool:=if p.2=e.1/\(p.1,e.2)∉q.1 then(q.1++[(p.1,e.2)],af)else q
def iq(E:List (Y×Y))(q:List (Y×Y)×Bool)(p:Y×Y):List (Y×Y)×Bool:=E.foldl (eK p) q
structure mw(E:List (Y×Y))(L:List (Y×Y)):Prop where
 nd:L.Nodup
 aj:∀e∈E,e∈L
 to:∀p∈L,Tc E p.1 p.2
structure pi(L:List (Y×Y))(g:Bool)(q:List (Y×Y)×Bool):Prop where
 pre:∃A,q.1=L++A
 grown:q.2=ag->g=ag/\q.1=L
 more:q.2=af->g=af\/ao L<q.1.length
def pi.refl(L:List (Y×Y))(g):pi L g (L,g):=⟨⟨[],by simp⟩,λh=>⟨h,rfl⟩,λh=>.inl h⟩
def pi.trans{L:List (Y×Y)}{g}{q r}(a:pi L g q)(b:pi q.1 q.2 r):pi L g r:=by
 obtain⟨A,c⟩:=a.pre;obtain⟨B,d⟩:=b.pre;refine⟨⟨A++B,by rw[d,c,oD]⟩,λh=>?_,λh=>?_⟩
 .obtain⟨h1,h2⟩:=b.grown h;obtain⟨e,i⟩:=a.grown h1
  simp_all
 .have j:ao L<=q.1.length:=by simp_all
  have l:q.1.length<=r.1.length:=by simp_all
  rcases b.more h with h|h
  .rcases a.more h with h|h
   all_goals (first|omega|(simp_all;done)|grind)
  .omega
def RX{p e:Y×Y}{L}{g}(C:mw E L)(d:p∈L)(i:e∈E):pi L g (eK p (L,g) e)/\mw E (eK p (L,g) e).1/\(p.2=e.1->(p.1,e.2)∈(eK p (L,g) e).1):=by
 delta eK
 by_cases h:p.2=e.1/\(p.1,e.2)∉L
 .rw[if_pos h];refine⟨⟨⟨[(p.1,e.2)],rfl⟩,bF,λu=>.inr aE⟩,⟨?_,λx a=>o8 _ (C.aj x a),λx a=>?_⟩,λu=>by simp⟩
  .exact oI.mpr ⟨C.nd,by simp,λx a y c=>by simp at c;subst c;rintro rfl;exact h.2 a⟩
  .rcases fj.mp a with z|z
   .exact C.to x z
   .rw[lQ]at z;subst z;exact .more (C.to p d) aZ
 .rw[if_neg h];exact⟨pi.refl _ _,C,λe1=>Classical.not_not.mp λn=>h ⟨e1,n⟩⟩
def RY{p}:∀(a:List (Y×Y)){L}{g},mw E L->p∈L->(∀e∈a,e∈E)->
  pi L g (a.foldl (eK p) (L,g))/\mw E (a.foldl (eK p) (L,g)).1/\∀e∈a,p.2=e.1->(p.1,e.2)∈(a.foldl (eK p) (L,g)).1:=
 bv (@(λL g C b b=>⟨pi.refl _ _,C,λe m=>by cases m⟩)) λe a n L g C d i=>by
  obtain⟨c,j,o⟩:=RX C d (i e (.head _));rw[r9];generalize eK p (L,g) e=q at c j o;obtain⟨r,y⟩:=q;obtain⟨A,u⟩:=c.pre;obtain⟨l,v,w⟩:=n j (by rw[show r=L++A from u];exact o8 _ d) λx hx=>i x (.tail _ hx)
  refine⟨c.trans l,v,λx hx h=>?_⟩;rcases cM.mp hx with rfl|hx
  .obtain⟨B,z⟩:=l.pre
   grind
  .exact w x hx h
def RZ:∀(P:List (Y×Y)){L}{g},mw E L->(∀p∈P,p∈L)->
  pi L g (P.foldl (iq E) (L,g))/\mw E (P.foldl (iq E) (L,g)).1/\∀p∈P,∀e∈E,p.2=e.1->(p.1,e.2)∈(P.foldl (iq E) (L,g)).1:=
 bv (@(λL g C z=>⟨pi.refl _ _,C,λe a=>by cases a⟩)) λp P l L g C d=>by
  obtain⟨c,i,m⟩:=RY E C (d p (.head _)) (λe a=>a);rw[r9];have n:iq E (L,g) p=E.foldl (eK p) (L,g):=rfl;rw[n];generalize E.foldl (eK p) (L,g)=q at c i m;obtain⟨o,v⟩:=q;obtain⟨A,r⟩:=c.pre;obtain⟨j,u,w⟩:=l i λx hx=>by rw[show o=L++A from r];exact o8 _ (d x (.tail _ hx))
  refine⟨c.trans j,u,λx hx e a h=>?_⟩;rcases cM.mp hx with rfl|hx
  .obtain⟨B,y⟩:=j.pre
   grind
  .grind
def mw.end(C:mw E L)(h:(L.foldl (iq E) (L,ag)).2=ag)(p:Y×Y):p∈L↔Tc E p.1 p.2:=by
 obtain⟨r,_,m⟩:=RZ L C λp c=>c
 have e:=(r.grown h).2;rw[e]at m;refine⟨C.to p,λt=>?_⟩;obtain⟨a,b⟩:=p;dsimp only at t
 induction t with
 |one h=>exact C.aj _ h
 |more _ d g=>exact m _ g _ d aa
end
section
variable{Q:Type}{n:Nat}{t:TW}{c:T0}{fe:T3}{enc:Q->D}{p:Q->Bool}{φ:Q->D}{sh:Sl->LD->Prop}
def jma(h:∀env a,sh env a->eH n env=.ok a)(i:∀env a g,sh env a->sh (env.set n (.aG (.al g))) g):
  ∀(L)(env)(a),sh env a->ao a+ao L<=20000->(∀x∈L,∀env a,sh env a->∃d,t (enc x) env=.ok d/\sh d a/\c d=.ok (p x)/\(p x=af->fe d=.ok (φ x)))->
   ∃e,xT n t c fe (L.map enc) env=.ok e/\sh e (a++(L.filter p).map φ):=
 bv (λenv a l b b=>⟨env,rfl,by simpa using l⟩) λx L u env a l v st=>by
  simp at v;obtain⟨d,e1,m,e2,w⟩:=st x (.head _) env a l
  cases j:p x with
  |true=>
   have z:=i d a (a++[φ x]) m;obtain⟨e,o,q⟩:=u _ _ z cf λy r=>st y (.tail _ r)
   refine⟨e,?_,by simpa[A1,j]using q⟩;show(t (enc x) env>>=_)=_;rw[e1];show(c d>>=_)=_;rw[e2,j];rw[w j];rw[h d a m];exact(jI (dZ ak fN)).trans o
  |false=>
   obtain⟨e,o,q⟩:=u _ _ m ak λy r=>st y (.tail _ r)
   refine⟨e,?_,by simpa[A1,j]using q⟩;show(t (enc x) env>>=_)=_;rw[e1];show(c d>>=_)=_;rw[e2,j];exact o
def yy(L)(l:m+ao js=n)(e:∀env a,sh env a->eH n env=.ok a)(i:∀env a g,sh env a->sh (env.set n (.aG (.al g))) g)
  (o:fi env=.ok (L.map enc)) (q:sh (Qa ag m js env) []) (r:ao L<=20000) (st:∀x∈L,∀env a,sh env a->∃d,t (enc x) env=.ok d/\sh d a/\c d=.ok (p x)/\(p x=af->fe d=.ok (φ x))):
  zz ag m js fi t c fe env=.ok (.al ((L.filter p).map φ)):=by
 obtain⟨j,e1,u⟩:=jma e i L _ [] q (by simpa using r) st;show(fi env>>=_)=_;rw[o];show(xT (m+ao js) t c fe (L.map enc) (Qa ag m js env)>>=_)=_;rw[l,e1];show(eH n j>>=_)=_;rw[e _ _ u,Ey];exact jI (c:=false=af->D.f9 ((L.filter p).map φ)=af) λh=>by cases h
end
section
variable{U:Type}[DecidableEq U]{f:U->List NK}
def ji9(c:∀a b,f a=f b↔a=b)(l:List U)(a):dG (l.map f) (f a)=aD (a∈l):=by
 delta dG
 induction l with
 |nil=>rfl
 |cons b l d=>grind
omit [DecidableEq U] in
theorem Ua(c:∀a b,f a=f b↔a=b)(l:List U)(a:U)[Decidable (a∈l)]:dG (l.map f) (f a)=aD (a∈l):=by
 classical exact(ji9 c l a).trans (decide_eq_decide.mpr Iff.rfl)
def du(l:List U)(a:U):List U:=if a∈l then l else l++[a]
def fV(l:List U):LD:=l.map λx=>.bl af
def Ez(d:∀a b,f a=f b↔a=b)(l)(a:U):xx (l.map f) (f a)=(du l a).map f/\Ws (l.map f) (fV l) (f a) (.bl af)=fV (du l a):=by
 delta xx Ws du
 rw[Ua d]
 by_cases h:a∈l
 .simp only[h,decide_true,if_true,true_and];clear h
  induction l with
  |nil=>rfl
  |cons b l c=>
   simp only[fV,fI,Az]at c ⊢;rw[c];simp
 .simp[h,fV]
def vL{c:Type}{k:c->U}{g}(d:∀a b,f a=f b↔a=b)(R:List c)(a):cK (R.map λr=>f (k r)) (R.map g) (f a)=(R.find? λr=>aD (k r=a)).map g:=by
 delta cK
 induction R with
 |nil=>rfl
 |cons r R e=>grind
def jgm(d:∀a b,f a=f b↔a=b):∀(Q)(l:List (U×D)),((l++Q).map (·.1)).Nodup->(Q.map λq=>(f q.1,q.2)).foldl Ju (l.map λq=>f q.1,l.map (·.2))=((l++Q).map λq=>f q.1,(l++Q).map (·.2)):=
 bv (λl x=>by simp) λq Q g l nd=>by
  have c:=nd;rw[lP,oI]at nd;have i:q.1∉l.map (·.1):=λh=>nd.2.2 _ h q.1 aE aa
  have j:dG (l.map λq=>f q.1) (f q.1)=ag:=by
   have:=Ua d (l.map (·.1)) q.1;rw[dF]at this;rw[show(l.map λq=>f q.1)=l.map (f ∘ (·.1)) from aa,this];exact decide_eq_false i
  have e:Ju (l.map λq=>f q.1,l.map (·.2)) (f q.1,q.2)=((l++[q]).map λq=>f q.1,(l++[q]).map (·.2)):=by
   delta Ju xx Ws
   simp[j]
  rw[fI,r9,e,g (l++[q]) (by simpa using c)];simp
end
def wc:∀a b,bf a=bf b↔a=b:=λx x=>gc
def Sh(a:Hd):Prop:=a.1.length<=20000
def QF{l:List Hd}(h:∀a∈l,Sh a):(l.map bf).all NK.bD=af:=by
 rw[Fn,nF];intro a c;show(aD (a.1.length<=ba)&&(af&&af))=af;rw[decide_eq_true (jx (h a c))];rfl
def Zm(a):bW (bn a)=ae (bf a):=rfl
def jiC(a):D.ap (dn (bf a))=bn a:=rfl
def KD{c:LD}(g:env[i]?=ae (.aG (.bw a c)))(h:j env=.ok e)(l:bW e=ae k)(m:fv env=.ok d)(n:ao a<20000):
  Zr i j fv env=.ok (.nx (env.set i (.aG (.bw (xx a k) (Ws a c k d))))):=by
 show(oG i env>>=_)=_;rw[show oG i env=.ok (a,c) from by delta oG;rw[g]];rw[m];rw[h];show(match bW e with|some k=>bh (ao a<ba) _|none=>_)=_;rw[l];exact jI (dZ n fN)
def MB{d:Type}{f}(e:∀a b,f a=f b↔a=b){c}{a}(g:bW c=ae (f a))(l:List d)(h:LD)[Decidable (a∈l)]:eT c (.bw (l.map f) h)=.ok (.bl (!decide (a∈l))):=by
 show(match bW c with|some k=>aw.ok (D.bl (!dG (l.map f) k))|none=>.am)=_;rw[g];show aw.ok (D.bl (!dG (l.map f) (f a)))=_;rw[Ua e]
def MC{e:Type}{f}(g:∀a b,f a=f b↔a=b){c}{a}(d:bW c=ae (f a))(l:List e)(h:LD)[Decidable (a∈l)]:nU c (.bV (l.map f) h)=.ok (.bl (aD (a∈l))):=by
 cases c with
 |ap i=>
  show(match bW (.ap i)with|some k=>aw.ok (D.bl (dG (l.map f) k))|none=>.am)=_;rw[d];show aw.ok (D.bl (dG (l.map f) (f a)))=_;rw[Ua g]
 |_=>exact rO d
abbrev Rows:=List (Hd×List Hd)
def o0(R:Rows)(s t:Hd):Rows:=(if s∈R.map (·.1)then R else R++[(s,[])]).map λr=>if r.1=s then(r.1,du r.2 t)else r
def pj(r:Hd×List Hd):Rw:=(bf r.1,r.2.map bf)
def jjM(R)(s t):mf (R.map pj) (bf s) (bf t)=(o0 R s t).map pj:=by
 unfold mf o0
 have e:(R.map pj).any (λr=>aD (r.1=bf s))=aD (s∈R.map (·.1)):=by
   rw[Ay];have:=Ua wc (R.map (·.1)) s;unfold dG at this;rw[dF,Ay]at this;exact this.trans (decide_eq_decide.mpr Iff.rfl)
 rw[e]
 have m:∀Q:Rows,(Q.map pj).map (λr=>if r.1=bf s then(r.1,xx r.2 (bf t))else r)=(Q.map λr=>if r.1=s then(r.1,du r.2 t)else r).map pj:=λQ=>by
   rw[dF,dF];refine AA λr x=>?_
   show(if bf r.1=bf s then(bf r.1,xx (r.2.map bf) (bf t))else(bf r.1,r.2.map bf))=pj (if r.1=s then(r.1,du r.2 t)else r)
   by_cases h:r.1=s
   .rw[if_pos (by rw[h]),if_pos h,(Ez wc r.2 t).1];rfl
   .rw[if_neg (λz=>h (gc.mp z)),if_neg h];rfl
 by_cases h:s∈R.map (·.1)
 .rw[if_pos (decide_eq_true h),if_pos h];exact m R
 .rw[if_neg (by rw[decide_eq_false h];exact Af),if_neg h,<-m (R++[(s,[])])];simp[pj]
def dW(e:Hd×Hd):D:=.ap [bn e.1,bn e.2]
def rm(R:Rows)(E:List (Hd×Hd)):Rows:=E.foldl (λR e=>o0 R e.1 e.2) R
def jjL:∀(E)(R),fM (E.map dW) (R.map pj)=ae ((rm R E).map pj):=
 bv (λR=>rfl) λe E a R=>by
  show fM (E.map dW) (mf (R.map pj) (bf e.1) (bf e.2))=_;rw[jjM,a (o0 R e.1 e.2)];rfl
structure pk(E:List (Hd×Hd))(R:Rows):Prop where
 nd:(R.map (·.1)).Nodup
 key:∀s,s∈R.map (·.1)↔ ∃t,(s,t)∈E
 row:∀r∈R,∀t,t∈r.2↔(r.1,t)∈E
 MD:∀r∈R,r.2.Nodup
def jfN{a x:Hd}:x∈du l a↔x∈l\/x=a:=by
 delta du
 by_cases h:a∈l
 .rw[if_pos h];exact⟨.inl,λz=>z.elim id λe=>by rw[e];exact h⟩
 .rw[if_neg h];simp
def jiW{a:Hd}(h:l.Nodup):(du l a).Nodup:=by
 delta du
 by_cases z:a∈l
 .rw[if_pos z];exact h
 .rw[if_neg z];exact oI.mpr ⟨h,by simp,λx d y c=>by simp at c;subst c;rintro rfl;exact z d⟩
def pk.step(B:pk E R):pk (E++[e]) (o0 R e.1 e.2):=by
 obtain⟨s,t⟩:=e
 have fst:∀Q:Rows,(Q.map λr=>if r.1=s then(r.1,du r.2 t)else r).map (·.1)=Q.map (·.1):=λQ=>by
   rw[dF];refine AA λr u=>?_
   show(if r.1=s then(r.1,du r.2 t)else r).1=r.1
   split<;>rfl
 have go:∀Q:Rows,(Q.map (·.1)).Nodup->s∈Q.map (·.1)->(∀x,x∈Q.map (·.1)↔x=s\/∃t,(x,t)∈E)->(∀r∈Q,∀t,t∈r.2↔(r.1,t)∈E)->(∀r∈Q,r.2.Nodup)->pk (E++[(s,t)]) (Q.map λr=>if r.1=s then(r.1,du r.2 t)else r):=λQ nd l hk hr i=>by
   refine⟨by rw[fst];exact nd,λx=>?_,λr a y=>?_,λr a=>?_⟩
   .rw[fst,hk]
    constructor
    .rintro(rfl|⟨y,c⟩)
     .exact⟨t,by simp⟩
     .exact⟨y,o8 _ c⟩
    .rintro⟨y,c⟩;rcases fj.mp c with h|h
     .exact .inr ⟨y,h⟩
     .simp at h;exact .inl h.1
   .obtain⟨d,g,rfl⟩:=dz.mp a
    by_cases h:d.1=s
    .rw[if_pos h];rw[jfN,hr d g,h];simp
    .rw[if_neg h,hr d g];simp[h]
   .obtain⟨d,g,rfl⟩:=dz.mp a
    split
    .exact jiW (i d g)
    .exact i d g
 delta o0
 by_cases h:s∈R.map (·.1)
 .rw[if_pos h];refine go R B.nd h (λx=>?_) B.row B.MD;rw[B.key]
  constructor
  .exact .inr
  .rintro(rfl|z)
   .exact(B.key _).mp h
   .exact z
 .rw[if_neg h];refine go (R++[(s,[])]) ?_ aE (λx=>?_) (λr hr y=>?_) λr hr=>?_
  .rw[lP];exact oI.mpr ⟨B.nd,by simp,λx j y c=>by simp at c;subst c;rintro rfl;exact h j⟩
  .rw[lP,fj,B.key];simp;exact⟨λz=>z.elim .inr .inl,λz=>z.elim .inr .inl⟩
  .rcases fj.mp hr with z|z
   .exact B.row r z y
   .rw[lQ]at z;subst z;exact⟨bF,λz=>absurd ((B.key s).mpr ⟨y,z⟩) h⟩
  .rcases fj.mp hr with z|z
   .exact B.MD r z
   .rw[lQ]at z;subst z;exact pD
def jjQ:∀(E E0)(R),pk E0 R->pk (E0++E) (rm R E):=
 bv (λE0 R B=>by simpa[rm]using B) λe E a E0 R B=>by
  have:=a (E0++[e]) _ B.step;rw[oD]at this;exact this
def jgX(E):pk E (rm [] E):=jjQ E [] [] ⟨pD,(λs=>⟨bF,by rintro⟨_,h⟩;exact(by cases h)⟩),(λr a=>by cases a),(λr a=>by cases a)⟩
theorem ZI{a:Type}:∀l:List a,l.filter (λy=>af)=l
 |[]=>rfl
 |x::l=>by simp
structure o3(E:List (Hd×Hd))(N:List Hd):Prop where
 sub:∀e∈E,e.1∈N/\e.2∈N
 sh:∀a∈N,Sh a
 rN:ao N<=40
def ro(l:List Hd):D:=.bV (l.map bf) (fV l)
def iY(R:Rows):D:=.bV (R.map λr=>bf r.1) (R.map λr=>BW (r.2.map bf))
def o4(R:Rows)(x:Hd):List Hd:=((R.find? λr=>aD (r.1=x)).map (·.2)).getD []
def UZ(B:pk E R)(x y):y∈o4 R x↔(x,y)∈E:=by
 delta o4
 cases h:R.find? λr=>aD (r.1=x)with
 |some r=>
  have a:=List.find?_some h;have c:=List.mem_of_find?_eq_some h;simp at a;show y∈r.2↔_;rw[B.row r c,a]
 |none=>
  refine⟨bF,λz=>?_⟩;obtain⟨r,d,e⟩:=dz.mp ((B.key x).mpr ⟨y,z⟩)
  grind
def jks(B:pk E R)(x):(o4 R x).Nodup:=by
 delta o4
 cases h:R.find? λr=>aD (r.1=x)with
 |some r=>exact B.MD r (List.mem_of_find?_eq_some h)
 |none=>simp_all
abbrev o5(a:Hd)(R:Rows)(m w:List Hd)(u:Slot):Sl:=[.ai (bn a),.ai (iY R),.aG (.bw (m.map bf) (fV m)),.aG (.al (w.map bn)),u]
def R0:Sl->aw br:=bS (aU (aq jV (gm 2) eT)) (az (Zr 2 jV j6) (qL 3 jV)) bP
theorem jmH:∀(c m w)(u),ao m+ao c<=5000->ao w+ao c<=5000->
  ∃d,bu (qu yp R0) (c.map bn) (o5 a R m w u)=.ok (.nx (o5 a R (c.foldl mu (m,w)).1 (c.foldl mu (m,w)).2 d)):=
 bv (λm w u x x=>⟨u,rfl⟩) λs c g m w u i j=>by
  simp at i j;have t:aU (aq jV (gm 2) eT) (o5 a R m w (.ai (bn s)))=.ok (!decide (s∈m)):=jJ (jk aa aa (MB wc (Zm s) m _));rw[fI,r9]
  by_cases h:s∈m
  .rw[decide_eq_true h]at t;rw[show mu (m,w) s=(m,w) from if_pos h];obtain⟨d,e⟩:=g m w (.ai (bn s)) ak ak;exact⟨d,(jZ ((zA aa).trans ((bZ t)))).trans e⟩
  .rw[decide_eq_false h]at t;rw[show mu (m,w) s=(m++[s],w++[s]) from if_neg h];obtain⟨d,e⟩:=g (m++[s]) (w++[s]) (.ai (bn s)) cf cf;have p:=Ez wc m s;have l:du m s=m++[s]:=if_neg h;refine⟨d,(jZ ((zA aa).trans ((cq t).trans ?_))).trans e⟩;refine(jm (KD aa aa (Zm s) aa dX)).trans ?_;refine(wa aa aa (by rw[cX];exact dZ ak fN)).trans ?_
   simp_all
def ME(l:List Hd):((l.map bf).map λk=>D.ap (dn k))=l.map bn:=by
 rw[dF];exact AA λa x=>jiC a
def jkB(B:pk E R)(d:o3 E N):Ym 1 3 (o5 a R m (w++[x]) u)=.ok ((o4 R x).map bn,o5 a R m w u):=by
 have g:eH 3 (o5 a R m (w++[x]) u)=.ok (w.map bn++[bn x]):=by
  show aw.ok ((w++[x]).map bn)=_;simp
 have i:∀s∈o4 R x,Sh s:=λs h=>d.sh s (d.sub _ ((UZ B x s).mp h)).2
 delta Ym
 rw[g];show(match(w.map bn++[bn x]).getLast? with|some j=>_|none=>_)=_;rw[List.getLast?_append,List.dropLast_concat];show(match bW (bn x)with|some k=>(match(cK (List.map (α:=Hd×List Hd) (λr=>bf r.1) R) (List.map (α:=Hd×List Hd) (λr=>BW (r.2.map bf)) R) k).getD (.bV [] [])with|.bV c _=>bh (c.all NK.bD=af) (.ok (c.map λk=>D.ap (dn k),o5 a R m w u))|_=>.am)|none=>.am)=_;show(match(cK (List.map (λr=>bf r.1) R) (List.map (λr=>BW (r.2.map bf)) R) (bf x)).getD (.bV [] [])with|.bV c _=>bh (c.all NK.bD=af) (.ok (c.map λk=>D.ap (dn k),o5 a R m w u))|_=>.am)=_;rw[vL wc]
 have e:((R.find? λr:Hd×List Hd=>aD (r.1=x)).map λr:Hd×List Hd=>BW (r.2.map bf)).getD (.bV [] [])=.bV ((o4 R x).map bf) (((o4 R x).map bf).map λy=>.bl af):=by
  delta o4
  cases R.find? λr=>aD (r.1=x)<;>rfl
 rw[e];show bh (((o4 R x).map bf).all NK.bD=af) (.ok (((o4 R x).map bf).map λk=>D.ap (dn k),o5 a R m w u))=_;rw[jI (QF i),ME]
theorem jh2{N}{R}(B:pk E R)(d:o3 E N){a}:∀(n)(m w)(u),sd E N a m w->ao w+(ao N-ao m)+1<=n->
  ao w<=1+ao m->∃e g,wl n (iJ (gm 3)) (LN (Ym 1 3) yp R0) (o5 a R m w u)=.ok (.nx (o5 a R e [] g))/\sd E N a e []:=
 lT (λm w u b h b=>by omega) λn r m w u l h hw=>by
  rcases List.eq_nil_or_concat w with rfl|⟨c,x,rfl⟩
  .exact⟨m,u,Q8 aa,l⟩
  .rw[List.concat_eq_append]at*;obtain⟨A,v,i⟩:=l.step (UZ B x) λp q z=>(d.sub _ z).2
   have j:(m++A).length<=ao N:=wI i.nd i.sub;have O:=d.rN;simp at h j hw;have H:(o4 R x).length<=ao N:=wI (jks B x) λy I=>(d.sub _ ((UZ B x y).mp I)).2
   have o:(c++A).length<=1+(m++A).length/\(c++A).length+(ao N-(m++A).length)+1<=n:=by grind
   obtain⟨J,e1⟩:=jmH (o4 R x) m c u ak ak;rw[v]at e1;obtain⟨e,g,e2,L⟩:=r (m++A) (c++A) J i o.2 o.1;refine⟨e,g,(QE ?_ ?_).trans e2,L⟩
   .show(iJ (gm 3)) (o5 a R m (c++[x]) u)=_;show aw.ok (!((c++[x]).map bn).isEmpty)=_
    simp_all
   .show(Ym 1 3 (o5 a R m (c++[x]) u)>>=_)=_;rw[jkB B d];exact e1
def YL(B:pk E R)(g:o3 E N)(a):∃m,qD [bn a,iY R]=.ok (ro m)/\(∀y,y∈m↔Tc E a y)/\m.Nodup/\∀y∈m,y∈N:=by
 have h:=g.rN;obtain⟨m,u,e,c⟩:=jh2 B g 2000 [] [a] .un (sd.init E N a) cf aE;refine⟨m,Fw ?_,c.end,c.nd,c.sub⟩;refine(jm (zr (d:=.bw [] []) aa)).trans ((jm (zr (wM (ja aa jn) (jx (show 1<=20000 by decide))))).trans ((jm e).trans ?_));rfl
theorem R1{d:Type}(c:d->D)(e:d->List NK)(g:∀a,bW (c a)=ae (e a)):∀Q:List (d×D),gA (Q.map λq=>D.ap [c q.1,q.2])=ae (Q.map λq=>(e q.1,q.2))
 |[]=>rfl
 |q::Q=>by
  rw[fI,fI];show(match bW (c q.1),gA (Q.map λq=>D.ap [c q.1,q.2])with|some k,ae l=>ae ((k,q.2)::l)|_,_=>ah)=_;rw[g,R1 c e g Q]
def R4{Q:List (Hd×D)}(nd:(Q.map (·.1)).Nodup):QS [.al (Q.map λq=>D.ap [bn q.1,q.2])]=.ok (.bw (Q.map λq=>bf q.1) (Q.map (·.2))):=by
 show(match gA (Q.map λq=>D.ap [bn q.1,q.2])with|some a=>aw.ok (D.bw (a.foldl Ju ([],[])).1 (a.foldl Ju ([],[])).2)|none=>.am)=_;rw[R1 bn bf Zm];have:=jgm wc Q [] aZ
 simp_all
structure Rok(E:List (Hd×Hd))(N:List Hd)(ss:List Hd)(met:Hd->List Hd):Prop where
 nd:ss.Nodup
 key:∀s,s∈ss↔ ∃t,(s,t)∈E
 tc:∀s,∀y,y∈met s↔Tc E s y
 sub:∀s,∀y∈met s,y∈N
def eV(a:List Hd)(met:Hd->List Hd):LD:=a.map λs=>ro (met s)
def vT(j:o3 E N)(I:ao E<=10000):∃l met,xo [.al (E.map dW)]=.ok (.bw (l.map bf) (eV l met))/\Rok E N l met:=by
 have B:=jgX E;generalize hR:rm [] E=R at B;have v:∀a,∃m,qD [bn a,iY R]=.ok (ro m)/\(∀y,y∈m↔Tc E a y)/\m.Nodup/\∀y∈m,y∈N:=YL B j;obtain⟨met,o⟩:∃met:Hd->List Hd,∀a,qD [bn a,iY R]=.ok (ro (met a))/\(∀y,y∈met a↔Tc E a y)/\(met a).Nodup/\∀y∈met a,y∈N:=⟨λa=>(v a).choose,λa=>(v a).choose_spec⟩
 have i:=B.key;refine⟨R.map (·.1),met,qW ?_,B.nd,i,λs=>(o s).2.1,λs=>(o s).2.2.2⟩;refine(jm (zr aa)).trans ?_;have J:fM (E.map dW) []=ae (R.map pj):=by rw[<-hR];exact jjL E []
 have L:mh (R.map pj)=iY R:=by
  delta mh iY
  rw[dF,dF];rfl
 have e1:∀g,qt 1 0 2 3 g [.ai (.al (E.map dW)),.aG (.bw [] []),.un,.un]=g [.ai (.al (E.map dW)),.ai (iY R),.un,.un]:=λg=>by
  show(match fM (E.map dW) []with|some d=>bh ((E.map dW).length<=10000/\3<4/\2<4) (g [.ai (.al (E.map dW)),.ai (mh d),.un,.un])|none=>.am)=_
  simp_all
 refine(e1 _).trans ?_;have z:∀s∈R.map (·.1),Sh s:=λs h=>let ⟨t,p⟩:=(i s).mp h;j.sh s (j.sub _ p).1
 have O:(R.map (·.1)).length<=ao N:=wI B.nd λs h=>let ⟨t,p⟩:=(i s).mp h;(j.sub _ p).1
 have U:=j.rN
 have H:VR jh [.ai (.al (E.map dW)),.ai (iY R),.un,.un]=.ok ((R.map (·.1)).map bn):=by
  show bh ((R.map λr:Hd×List Hd=>bf r.1).all NK.bD=af) (.ok ((R.map λr:Hd×List Hd=>bf r.1).map λk=>D.ap (dn k)))=_;have e:(R.map λr:Hd×List Hd=>bf r.1)=(R.map (·.1)).map bf:=by simp_all
  rw[e,jI (QF z),ME]
 have w:=yy (js:=[1]) (n:=2) (t:=gN 0) (c:=qm) (fe:=aO (jf jc (jf (jl 2 qD (jf jc (jb jh))) aT)))
  (sh:=λq d=>∃u,q=[u,.ai (iY R),.aG (.al d)]) (R.map (·.1)) aa (by rintro _ _ ⟨u,rfl⟩;rfl) aZ H ⟨.un,rfl⟩ ak (by
   rintro s _ _ d ⟨u,rfl⟩
   refine⟨[.ai (bn s),.ai (iY R),.aG (.al d)],rfl,⟨_,rfl⟩,rfl,λx=>bX aa (jo (ja aa (ja aa jn)) aa (o s).1)⟩)
 rw[ZI]at w;refine j7 (qz (ja w jn) ?_);have:=R4 (Q:=(R.map (·.1)).map λs=>(s,ro (met s))) (by rw[dF];simpa[tL]using B.nd);simp only[dF,tL]at this ⊢;rw[this];simp[eV,dF,tL]
def MF(c:nb a=af)(d:nb b=af)(e:a.dj<=190):da a b=.ok (.bl (aD (a=b))):=by
 delta da
 rw[jI (.inl ⟨Yp a c,Yp b d,e⟩),uW c d]
def R5(c:nb a=af)(d:nb b=af)(e:a.dj<=190):iA a b=.ok (.bl (!decide (a=b))):=by
 delta iA
 rw[jI (.inl ⟨Yp a c,Yp b d,e⟩),uW c d]
def jjp:∀{a},ni a=af->D.cT a=af:=
 @(
  bv (λx=>rfl) λd r c h=>by
  simp only[ni,fD]at h;simp only[D.cT,fD]
  exact⟨Yp d h.1,c h.2⟩)
def jlD(h:ni g=af)(a:nb d=af):rV g d=aD (d∈g):=by
 delta rV
 rw[vk,tM,decide_eq_true_iff]
 constructor
 .rintro⟨x,c,e⟩;rw[uW (kM h c) a,decide_eq_true_iff]at e
  simp_all
 .intro c;exact⟨d,c,by rw[uW a a];simp⟩
def R6(neg)(h:ni a=af)(c:nb d=af)(e:D.de a<=190):fU neg d (.al a)=.ok (.bl (if neg then !decide (d∈a)else decide (d∈a))):=by
 show bh (D.cT a=af/\D.dS d=af/\D.de a<=190) (aw.ok (D.bl (if neg then !rV a d else rV a d)))=_;rw[jI ⟨jjp h,Yp d c,e⟩,jlD h c]
def R7:∀{a},(∀d∈a,d.dj<=k)->D.de a<=k:=
 @(
  bv (λy=>fH _) λd r c h=>by
  exact Nat.max_le.mpr ⟨h d aE,c λx e=>h x (by simp[e])⟩)
section
def XF:∀t,tk c t=af->nb t=af:=xM (λi=>rfl) λz d x x h=>by
 simp only[nb,ni,Dw];exact IM λt a=>(h t a).2
def Ut:∀t,tk m t=af->t.dj<=eN t:=xM (λi=>by simp[D.dj]) λz e x x h=>by
 rw[Jd]
 have:∀c:List D,(∀u∈c,u.dj<=eN u)->D.de c<=cy c:=λc=>by
  induction c with
  |nil=>intro _;exact fH _
  |cons d r g=>
   intro h;have a:=h d aE;have b:=g λu j=>h u (by simp[j])
   simp only[D.de,cy];omega
 have b:=this e λt l=>(h t l).2
 simp only[D.dj,D.de];omega
end
def n8:bn a=bn b↔a=b:=by
 constructor
 .intro h;cases a;cases b;simp[bn]at h;simp[h]
 .intro h;rw[h]
def R9(a b)[Decidable (a=b)]:da (bn a) (bn b)=.ok (.bl (aD (a=b))):=by
 rw[MF (a:=bn a) aa aa (show(1)<=190 by decide)];exact congrArg (λx=>aw.ok (D.bl x)) (decide_eq_decide.mpr n8)
abbrev Ed:=Hd×Hd
def lG(e:Ed):List NK:=[.ap (bf e.1),.ap (bf e.2)]
def Xa(a b):lG a=lG b↔a=b:=by
 constructor
 .intro h;simp only[lG,GF,NK.ap.injEq,and_true]at h;exact Prod.ext (gc.mp h.1) (gc.mp h.2)
 .intro h;rw[h]
def Kf(e:Ed):bW (dW e)=ae (lG e):=rfl
def Sa(l:List Ed):((l.map lG).map λk=>D.ap (dn k))=l.map dW:=by
 rw[dF];exact AA λa x=>rfl
def Vh{N:List Hd}(c:∀a∈N,Sh a){l:List Ed}(h:∀e∈l,e.1∈N/\e.2∈N):(l.map lG).all NK.bD=af:=by
 rw[Fn,nF];intro e d;show((aD (e.1.1.length<=ba)&&(af&&af))&&((aD (e.2.1.length<=ba)&&(af&&af))&&af))=af;rw[decide_eq_true (jx (c _ (h e d).1)),decide_eq_true (jx (c _ (h e d).2))];rfl
abbrev rp(E L:List Ed)(g:Bool)(a c d e h:Slot):Sl:=[.ai (.al (E.map dW)),.aG (.bw (L.map lG) (fV L)),a,.ai (.bl g),c,d,e,h]
def Gs:Sl->aw br:=bS (fu (aU (aq jL qv da)) (aU (aq (aO (jf jV (jb jK))) (gm 1) eT))) (az (Zr 1 (aO (jf jV (jb jK))) j6) (jF 3 j6)) bP
def Sb:Sl->aw br:=cw (cF jc) (g2 Jt (gN 7)) Gs
def Sd:Sl->aw br:=az (jF 3 jQ) (cw (cF (L7 1)) (g2 yp zT) Sb)
def Yx(c:d env=.ok a)(e:g env=.ok b):fu d g env=.ok (a&&b):=by
 rw[jjn,c];cases a
 .rfl
 .exact e
def nn(N:List Hd):List Ed:=N.flatMap λa=>N.map λb=>(a,b)
def jla(N):(nn N).length=ao N*ao N:=by
 have:∀M:List Hd,(M.flatMap λa=>N.map λb=>(a,b)).length=ao M*ao N:=λM=>by
  induction M with
  |nil=>simp
  |cons a M c=>rw[List.flatMap_cons,lh,c,cX,gG,Nat.add_mul,Nat.one_mul,Nat.add_comm]
 exact this N
def Tc.in{E:List Ed}(c:o3 E N)(h:Tc E a b):a∈N/\b∈N:=by
 induction h with
 |one h=>exact c.sub _ h
 |more _ h d=>exact⟨d.1,(c.sub _ h).2⟩
def mw.sub{E L:List Ed}(C:mw E L)(a:o3 E N):∀p∈L,p.1∈N/\p.2∈N:=λp c=>(C.to p c).in a
def mw.len{E L:List Ed}(C:mw E L)(κ:o3 E N):ao L<=1600:=by
 have h:=wI C.nd (m:=nn N) λp a=>by
  obtain⟨h1,h2⟩:=C.sub κ p a;exact Ax.mpr ⟨p.1,h1,dz.mpr ⟨p.2,h2,rfl⟩⟩
 rw[jla]at h;exact cn h (Nat.mul_le_mul κ.rN κ.rN)
def jmc(p e:Ed)(c:ao L<=1600):qu (g2 Jt (gN 7)) Gs (dW e) (rp E L g u2 (.ai (bn p.1)) (.ai (bn p.2)) u6 u7)=
   .ok (.nx (rp E (eK p (L,g) e).1 (eK p (L,g) e).2 u2 (.ai (bn p.1)) (.ai (bn p.2)) (.ai (bn e.1)) (.ai (bn e.2)))):=by
 have a:aO (jf jV (jb jK)) (rp E L g u2 (.ai (bn p.1)) (.ai (bn p.2)) (.ai (bn e.1)) (.ai (bn e.2)))=.ok (dW (p.1,e.2)):=bX aa aa
 have t:=Yx (jJ (jk (f1:=bR 5) (f2:=bR 6) aa aa (R9 p.2 e.1)))
   (jJ (jk a (f2:=gm 1) aa (MB Xa (Kf (p.1,e.2)) L (fV L))))
 delta Gs eK
 by_cases h:p.2=e.1/\(p.1,e.2)∉L
 .rw[if_pos h];rw[decide_eq_true h.1,decide_eq_false h.2]at t;refine(cq t).trans ((jm (KD aa a (Kf _) aa (by rw[cX];omega))).trans ?_);have q:=Ez Xa L (p.1,e.2);rw[show du L (p.1,e.2)=L++[(p.1,e.2)] from if_neg h.2]at q;rw[q.1,q.2];exact jw aa
 .rw[if_neg h]
  have:(aD (p.2=e.1)&&!decide ((p.1,e.2)∈L))=ag:=by
   rw[Bool.eq_false_iff];intro z;simp only[fD,decide_eq_true_eq,Bool.not_eq_true',decide_eq_false_iff_not]at z;exact h z
  rw[this]at t;exact(bZ t).trans aa
def jmb{E:List Ed}{N}(n:o3 E N){p}{u2}:∀(a:List Ed){L:List Ed}{g}{u6 u7},mw E L->p∈L->(∀e∈a,e∈E)->
  ∃c d,bu (qu (g2 Jt (gN 7)) Gs) (a.map dW) (rp E L g u2 (.ai (bn p.1)) (.ai (bn p.2)) u6 u7)=
   .ok (.nx (rp E (a.foldl (eK p) (L,g)).1 (a.foldl (eK p) (L,g)).2 u2 (.ai (bn p.1)) (.ai (bn p.2)) c d)):=
 bv (@(λL g u6 u7 b b b=>⟨u6,u7,rfl⟩)) λe a o L g u6 u7 C h i=>by
  obtain⟨j,l,_⟩:=RX C h (i e (.head _));have m:=jmc (E:=E) (g:=g) (u2:=u2) (u6:=u6) (u7:=u7) p e (C.len n);rw[r9,fI];generalize eK p (L,g) e=q at j l m;obtain⟨r,B⟩:=q;obtain⟨A,u⟩:=j.pre;obtain⟨v,w,y⟩:=o l (by rw[show r=L++A from u];exact o8 _ h) λx z=>i x (.tail _ z)
  exact⟨v,w,(jZ m).trans y⟩
def jgP{E:List Ed}{N}(y:o3 E N){i}:∀(P:List Ed){L:List Ed}{g}{d h a c},mw E L->(∀p∈P,p∈L)->
  ∃j l m n,bu (qu (g2 yp zT) Sb) (P.map dW) (rp E L g i d h a c)=.ok (.nx (rp E (P.foldl (iq E) (L,g)).1 (P.foldl (iq E) (L,g)).2 i j l m n)):=
 bv (@(λL g d h a c b b=>⟨d,h,a,c,rfl⟩)) λp P z L g d h a c C o=>by
  obtain⟨u,v,_⟩:=RY E C (o p (.head _)) (λe r=>r);obtain⟨v6,v7,w⟩:=jmb y (u2:=i) E (u6:=a) (u7:=c) C (o p (.head _)) (λe r=>r);rw[r9,fI];rw[show iq E (L,g) p=E.foldl (eK p) (L,g) from aa];generalize E.foldl (eK p) (L,g)=q at u v w;obtain⟨B,g1⟩:=q;obtain⟨A,H⟩:=u.pre;obtain⟨I,J,O,Q,U⟩:=z v λx Y=>by rw[show B=L++A from H];exact o8 _ (o x (.tail _ Y))
  refine⟨I,J,O,Q,(jZ ?_).trans U⟩;rw[zA aa];exact(zX (xQ aa aa)).trans w
def jgQ{E L:List Ed}(a:o3 E N)(C:mw E L):∃c e i j,Sd (rp E L g u2 u4 u5 u6 u7)=.ok (.nx (rp E (L.foldl (iq E) (L,ag)).1 (L.foldl (iq E) (L,ag)).2 u2 c e i j)):=by
 obtain⟨l,m,n,o,h⟩:=jgP a L C λp q=>q
 refine⟨l,m,n,o,(jm (jw aa)).trans ((zX (xQ (d:=.al (L.map dW)) ?_ aa)).trans h)⟩;show bh ((L.map lG).length<=10000/\(L.map lG).all NK.bD=af) (aw.ok (D.al ((L.map lG).map λk=>D.ap (dn k))))=_;have r:=C.len a;rw[jI ⟨by rw[cX];omega,Vh a.sh (C.sub a)⟩,Sa]
def jjJ{E:List Ed}{N}(d:o3 E N){e}:∀(n){L:List Ed}{i j l m},mw E L->(1600-ao L)+2<=n->
  ∃c o r u v,wl n (iJ jB) Sd (rp E L af e i j l m)=.ok (.nx (rp E c ag e o r u v))/\(∀p,p∈c↔Tc E p.1 p.2)/\ao c<=1600:=
 lT (@(λL x x x x x h=>by omega)) λn H L i j l m C h=>by
  obtain⟨w,y,_⟩:=RZ L C λp I=>I
  have a:=C.end;obtain⟨J,O,Q,U,e1⟩:=jgQ d C (g:=true) (u2:=e) (u4:=i) (u5:=j) (u6:=l) (u7:=m);generalize L.foldl (iq E) (L,ag)=q at w y e1 a;obtain⟨z,Y⟩:=q
  cases Y with
  |false=>
   have eL:z=L:=(w.grown aa).2;subst eL;refine⟨z,J,O,Q,U,(QE aa e1).trans ?_,a aa,C.len d⟩
   cases n with
   |zero=>omega
   |succ n=>exact Q8 aa
  |true=>
   have cr:ao L<ao z:=(w.more aa).resolve_left bF;have B:=y.len d;dsimp only at B;obtain⟨c,x4,x5,x6,x7,e2,h2⟩:=H y (by dsimp only;omega);exact⟨c,x4,x5,x6,x7,(QE aa e1).trans e2,h2⟩
def A2(L E:List Ed):List Ed:=E.foldl du L
def Se:∀(E L)(x),x∈A2 L E↔x∈L\/x∈E:=
 bv (λL x=>by simp[A2]) λe E a L x=>by
  show x∈A2 (du L e) E↔_;rw[a]
  have:x∈du L e↔x∈L\/x=e:=by
   delta du
   grind
  grind
theorem Sg:∀(E L),L.Nodup->(A2 L E).Nodup
 |[],L,h=>h
 |e::E,L,h=>by
  refine Sg E _ ?_
  delta du
  by_cases z:e∈L
  .rw[if_pos z];exact h
  .rw[if_neg z];exact oI.mpr ⟨h,by simp,λx c y a=>by simp at a;subst a;rintro rfl;exact z c⟩
def jjK{E0:List Ed}:∀(E L:List Ed)(c),ao L+ao E<=15000->∃a,bu (qu y4 (Zr 1 jp j6)) (E.map dW) [.ai (.al (E0.map dW)),.aG (.bw (L.map lG) (fV L)),c,d,g,i,j,l]=
  .ok (.nx [.ai (.al (E0.map dW)),.aG (.bw ((A2 L E).map lG) (fV (A2 L E))),a,d,g,i,j,l]):=
 bv (λL c x=>⟨c,rfl⟩) λe E m L c n=>by
  simp at n;have b:(du L e).length<=ao L+1:=by delta du;split<;>simp
  obtain⟨a,h⟩:=m (du L e) (.ai (dW e)) ak;refine⟨a,(jZ ?_).trans h⟩;rw[zA aa];refine(KD aa aa (Kf e) aa dX).trans ?_;rw[(Ez Xa L e).1,(Ez Xa L e).2];rfl
def Si{E:List Ed}(a:o3 E N)(g:ao E<=10000):∃L,qB [.al (E.map dW)]=.ok (.bV (L.map lG) (fV L))/\(∀p,p∈L↔Tc E p.1 p.2)/\ao L<=1600:=by
 have C:mw E (A2 [] E):=⟨Sg E [] pD,λe c=>(Se E [] e).mpr (.inr c),λp d=>.one (((Se E [] p).mp d).resolve_left bF)⟩
 obtain⟨i,e1⟩:=jjK E [] .un cf;obtain⟨L,j,l,m,n,e2,h⟩:=jjJ a 2000 C ak;refine⟨L,Fw ?_,h⟩;refine(jm (zr aa)).trans ((jm ((zX (xQ aa aa)).trans e1)).trans ((jm (jw aa)).trans ((jm e2).trans ?_)));rfl
def Qf(d:D):D->Option D
 |.int i=>if 0<=i then(bM d)[i.toNat]? else ah
 |_=>ah
def sV:D->LD->Option D
 |d,[]=>ae d
 |d,x::r=>match Qf d x with
  |some e=>sV e r
  |none=>ah
section
def jkO:∀t,tk g t=af->∀q∈dU t,sV t (q.1.map .int)=ae q.2:=xM (λi q hq=>by
   rw[YN]at hq;simp at hq
   subst hq;rfl) λz c l m h q hq=>by
 rcases cM.mp hq with rfl|hq
 .rfl
 .obtain⟨j,u,p,a,d,rfl⟩:=vX hq;have:=(h u (RQ a)).2 p d;simp only[fI,sV,Qf];have e:(((0+j:Nat):Int)).toNat=j:=by omega
  rw[e,show(bM (D.ap (D.str z::c)))[j]?=ae u from a];exact this
def sW(o:Option D):aw D:=match o with
 |some e=>.ok e
 |none=>.exc "NoPath"
def EA:D->Bool|.int _=>af|_=>ag
def jkc(h:XC x=af):qj [x]=.ok (.bl (EA x)):=by
 cases x<;>first|rfl|cases h
def Sj{a g2}(h:a env=.ok (.nx env')):az (Xh a) g2 env=g2 env':=by
 refine jm ?_;show p6 (a env)=_;rw[h];rfl
def jne(h:g env=.ok (.rt a d)):Xh g env=.ok (.rt a d):=by
 show p6 (g env)=_;rw[h];rfl
def MG{a g2}(h:a env=.exc c):az a g2 env=.exc c:=by
 show(a env>>=_)=_;rw[h];rfl
def sX{a g2}(h:t env=.ok b):sK t a g2 env=if b=af then a env else g2 env:=by
 delta sK;rw[h]
def Vt(m:XC d=af)(n:XC x=af):zi [d,x]=sW (Qf d x):=by
 have g:jF 2 (jl 1 qk (jb jc)) [.ai d,.ai x,.un]=.ok (.nx [.ai d,.ai x,.ai (.ap (bM d))]):=(jw (jo (ja aa aa) aa (Ww m))).trans aa;have hw:bt (aU (jl 1 qj (jb jh))) [.ai d,.ai x,.ai (.ap (bM d))]=.ok (!EA x):=qG (jJ (jo (ja aa aa) aa (jkc n)))
 have c:xy [.ai d,.ai x,.un]=match Qf d x with|some e=>.ok (.rt ag e)|none=>.exc "NoPath" :=by
  delta xy
  rw[Sj g]
  cases j:EA x with
  |false=>
   have a:eY (bt (aU (jl 1 qj (jb jh)))) (bt (aU (QZ jP jh (app (jb jp) bY) nc ltI))) [.ai d,.ai x,.ai (.ap (bM d))]=.ok af:=by simp_all
   have o:Qf d x=ah:=by cases x<;>first|rfl|cases j
   rw[o,MG ((sX a))]
  |true=>
   obtain⟨i,rfl⟩:∃i,x=.int i:=by cases x<;>first|exact⟨_,rfl⟩|cases j
   have h:bt (aU (QZ jP jh (app (jb jp) bY) nc ltI)) [.ai d,.ai (.int i),.ai (.ap (bM d))]=.ok (!(aD (0<=i)&&aD (i< ((bM d).length:Int)))):=by
     refine qG (jJ ?_);show(aw.ok (D.bl (aD (0<=i)))>>=Fs (.ok (.int ((bM d).length:Int))) ltI (.int i))=_;cases decide (0<=i)<;>rfl
   have a:=kB hw h
   by_cases q:0<=i/\i< ((bM d).length:Int)
   .have cr:i.toNat< (bM d).length:=by omega
    have e1:Qf d (.int i)=ae (bM d)[i.toNat]:=by
     simp only[Qf]
     simp_all
    have e2:((!EA (.int i))||!(aD (0<=i)&&aD (i< ((bM d).length:Int))))=ag:=by simp_all
    rw[e2]at a;rw[e1,jm ((sX a))];refine jne (ka (jk aa aa ?_));have p:i=((i.toNat):Int):=by omega
    have l:=B6 (cW cr);rw[<-p]at l;exact l
   .have e1:Qf d (.int i)=ah:=by
     simp only[Qf]
     simp_all
    have e2:((!EA (.int i))||!(aD (0<=i)&&aD (i< ((bM d).length:Int))))=af:=by grind
    rw[e2]at a;rw[e1,MG ((sX a))]
 show gR ag 3 xy [d,x]=_
 delta gR
 rw[show qV 3 [d,x]=[.ai d,.ai x,.un] from aa,c];cases Qf d x<;>rfl
def jb2(h:eS d=af)(a:Qf d x=ae e):eS e=af:=by
 delta Qf at a
 split at a
 .split at a
  .exact xR (JE h).1 (lf a)
  .cases a
 .cases a
def jgl{e:LD}(h:a d env=.exc c):bu a (d::e) env=.exc c:=by
 simp only[bu];rw[h];rfl
def t8:Sl->aw br:=jF 2 (KP 2 zi (jf jp (jb jB)))
theorem Sk(t p:Slot):∀(a:LD)(d:D)(u:Slot),eS d=af->(∀x∈a,XC x=af)->match sV d a with
  |some e=>∃j,bu (J8 y0 t8) a [t,p,.ai d,u]=.ok (.nx [t,p,.ai e,j])
  |none=>bu (J8 y0 t8) a [t,p,.ai d,u]=.exc "NoPath"
 |[],d,u,_,_=>⟨u,rfl⟩
 |x::r,d,u,h,i=>by
  have c:J8 y0 t8 x [t,p,.ai d,u]=(sW (Qf d x)>>=λe=>.ok (.nx [t,p,.ai e,.ai x])):=by
   show t8 [t,p,.ai d,.ai x]=_
   delta t8
   have m:KP 2 zi (jf jp (jb jB)) [t,p,.ai d,.ai x]=sW (Qf d x):=by
    exact(Vt (J0 h) (i x aE))
   simp_all
  simp only[sV]
  cases g:Qf d x with
  |none=>
   rw[g]at c;exact jgl c
  |some e=>
   rw[g]at c;rw[jZ (c)];exact(Sk t p r e (.ai x) (jb2 h g) λy l=>i y (by simp[l]))
def ky{xs:LD}(i:eS d=af)(j:∀x∈xs,XC x=af):zG [d,.ap xs]=sW (sV d xs):=by
 have a:=Sk (.ai d) (.ai (.ap xs)) xs d .un i j
 have c:yh [.ai d,.ai (.ap xs),.un,.un]=match sV d xs with|some e=>.ok (.rt ag e)|none=>.exc "NoPath" :=by
  delta yh
  rw[jm ((sX aa).trans aa)];rw[Sj (env':=[.ai d,.ai (.ap xs),.ai d,.un]) aa];show az (me (cF jh) y0 t8) _ _=_;have g:me (cF jh) y0 t8 [.ai d,.ai (.ap xs),.ai d,.un]=bu (J8 y0 t8) xs [.ai d,.ai (.ap xs),.ai d,.un]:=rfl
  cases h:sV d xs with
  |none=>
   rw[h]at a;exact MG (g.trans a)
  |some e=>
   rw[h]at a;obtain⟨l,a⟩:=a;rw[jm (g.trans a)];rfl
 show gR ag 4 yh [d,.ap xs]=_
 delta gR
 rw[show qV 4 [d,.ap xs]=[.ai d,.ai (.ap xs),.un,.un] from aa,c];cases sV d xs<;>rfl
end
section
variable{ns:List Str}
abbrev eO(a:List (D×D)):List Hd:=en [] (gV a)
def j1(l:List Hd)(a:List (D×D)):List (D×D):=a.flatMap λp=>((ce p.2).filter (gY l)).map λq=>(p.1,q)
def cL(l:List Hd):Nat->List (D×D)->List ((D×D)×Nat×(List Int×D))
 |_,[]=>[]
 |k,p::r=>((dU p.2).filter λq=>gY l q.2).map (λq=>(p,k,q))++cL l (k+1) r
def jmh(l):∀(a)(k),nE l k a=(cL l k a).map λx=>ent x.2.1 x.2.2:=
 bv (λk=>rfl) λp a c k=>by
  show oZ l k p.2++nE l (k+1) a=_;rw[cL,lP,dF,c (k+1)];rfl
theorem Sm:∀{a}{k}{x},x∈cL l k a->∃j,x.2.1=k+j/\a[j]?=ae x.1/\x.2.2∈dU x.1.2/\gY l x.2.2.2=af
 |p::a,k,x,h=>by
  rcases fj.mp h with h|h
  .obtain⟨q,d,rfl⟩:=dz.mp h
   simp_all
  .obtain⟨j,e,c⟩:=Sm h;exact⟨j+1,by omega,c⟩
def Gu(l):∀(a)(k),gU ns a->(cL l k a).map (λx=>(x.1.1,x.2.2.2))=j1 l a:=
 bv (λk y=>rfl) λp a c k h=>by
  have e:=RS p.2 (h p aE).tr;rw[cL,lP,c (k+1) λx d=>h x (by simp[d])];show _=((ce p.2).filter (gY l)).map (λq=>(p.1,q))++j1 l a;rw[<-e,List.filter_map,dF,dF];rfl
theorem Gv(l):∀(d)(k),gU ns d->(cL l k d).length<=60*ao d
 |[],k,_=>bz _
 |p::d,k,h=>by
  have a:=Gv l d (k+1) λx e=>h x (by simp[e])
  have b:=(h p aE).nr
  have c:(((dU p.2).filter λq=>gY l q.2).map λq=>(p,k,q)).length<=num p.2:=by
   rw[cX,<-Wv p.2];exact MA _ _
  rw[cL,lh,gG];omega
structure Fo(ns:List Str)(l:List Hd)(x:D×D):Prop where
 tl:tk ns x.1=af
 tr:tk ns x.2=af
 B7:∃z ts,x.1=.ap (.str z::ts)
 B8:∃z ts,x.2=.ap (.str z::ts)
 hl:jU x.1∈l
 hr:jU x.2∈l
 gl:eN x.1<=12/\num x.1<=60
 gr:eN x.2<=12/\num x.2<=60
theorem yg:∀{a}{t},t∈a->eN t<=cy a
 |x::r,t,h=>by
  simp only[cy];rcases cM.mp h with rfl|h
  .omega
  .have:=yg h;omega
def jfP{a:Type}{l:List a}{j:Nat}{x}(h:l[j]?=ae x):x∈l:=lf h
theorem W9:∀{c:List Hd},a∈c->c.find? (λr=>aD (r=a))=ae a
 |s::r,h=>by
  rw[zx]
  by_cases q:s=a
  .simp[q]
  .simp only[q,decide_false];exact W9 ((cM.mp h).resolve_left λz=>q z.symm)
def Vr:∀t,tk ns t=af->∀q∈ce t,eN q<=eN t/\num q<=num t:=xM (λi q hq=>by
   simp only[ce,cM,tW,or_false]at hq
   subst hq;exact⟨bz _,bz _⟩) λz n x x h q hq=>by
 have e:∀g:List D,c4 g=g.flatMap ce:=λg=>by
   induction g with
   |nil=>rfl
   |cons d r m=>simp[c4,m]
 simp only[ce]at hq;rcases cM.mp hq with rfl|hq
 .exact⟨bz _,bz _⟩
 .rw[e]at hq;obtain⟨t,j,l⟩:=Ax.mp hq;obtain⟨a,b⟩:=(h t j).2 q l;rw[Jd,WJ];have c:=QI j;have d:=yg j;omega
def uI(h:x∈l):x∈en [] l:=ip.mpr (.inr h)
def jmZ(h:gU ns g)(u:∀p∈g,jU p.1∈l)(d:x∈j1 l g):Fo ns l x:=by
 obtain⟨p,j,d⟩:=Ax.mp d;obtain⟨q,v,rfl⟩:=dz.mp d;obtain⟨m,n⟩:=EN.mp v;have r:=h p j;obtain⟨a,b⟩:=Vr p.2 r.tr q m;have o:=ZB p.2 r.tr q m
 have w:∃z c,q=.ap (.str z::c)/\(z,(ao c:Int))∈l:=by
  rcases qg o with⟨i,rfl⟩|⟨z,c,rfl,_⟩
  .cases n
  .exact⟨z,c,rfl,of_decide_eq_true n⟩
 obtain⟨z,c,e,y⟩:=w;refine⟨r.tl,o,r.lt,⟨z,c,e⟩,u p j,by rw[e];exact y,⟨r.hl,r.nl⟩,by have:=r.hr;have:=r.nr;dsimp only;omega⟩
def MH(h:gU ns a)(c:x∈j1 (eO a) a):Fo ns (eO a) x:=
 jmZ h (λp d=>uI (dz.mpr ⟨p,d,rfl⟩)) c
def hd2(x:D×D):Ed:=(jU x.1,jU x.2)
def jgb:∀(c l),(en l c).length<=ao l+ao c:=
 bv (λl=>bz _) λx c d l=>by
  have a:=d (dH l x);have b:=uL l x;show(en (dH l x) c).length<=_
  grind
def jmV(c:∀z∈ns,isNm (.str z)=af)(h:gU ns d):∀a∈eO d,Sh a:=λa g=>by
 obtain⟨p,j,rfl⟩:=dz.mp ((ip.mp g).resolve_left bF);have r:=h p j;obtain⟨z,n,e⟩:=r.lt;have t:=r.tl;rw[e]at t ⊢;rcases qg t with⟨i,q⟩|⟨o,l,q,m,_⟩
 .cases q
 .cases q;exact cn (Mw (c _ m)) au
def uX(c:∀z∈ns,isNm (.str z)=af)(h:gU ns a)(i:ao a<=40){X:List (D×D)}(d:∀x∈X,Fo ns (eO a) x):o3 (X.map hd2) (eO a):=
 ⟨λe j=>by
  obtain⟨x,g,rfl⟩:=dz.mp j;exact⟨(d x g).hl,(d x g).hr⟩,jmV c h,by
  have:=jgb (gV a) [];rw[show(gV a).length=ao a from cX ..]at this;simp at this
  exact cn this i⟩
def Zn(h:∃z a,x=.ap (.str z::a)):j9 [x]=.ok (bn (jU x)):=by
 obtain⟨z,a,rfl⟩:=h;exact QL z a
open Classical in
def ring(a:List (D×D)):List (D×D):=(j1 (eO a) a).filter λx=>aD (Tc ((j1 (eO a) a).map hd2) (jU x.2) (jU x.1))
def jeP(c)(met)(a):(cK (c.map bf) (eV c met) (bf a)).getD (.bV [] [])=ro (if a∈c then met a else[]):=by
 have e:=vL (k:=λs:Hd=>s) (g:=λs=>ro (met s)) wc c a;rw[show eV c met=c.map λs=>ro (met s) from aa,e]
 by_cases h:a∈c
 .rw[if_pos h];have:=W9 h;rw[this];rfl
 .rw[if_neg h]
  have:c.find? (λr=>aD (r=a))=ah:=by
   rw[List.find?_eq_none];intro x d z;exact h (of_decide_eq_true z▸d)
  rw[this];rfl
def jmG(y:∀z∈ns,isNm (.str z)=af)(h:gU ns a)(I:ao a<=40):xn [obj a w]=.ok (.al ((ring a).map rl)):=by
 have l:∀x∈j1 (eO a) a,Fo ns (eO a) x:=λx m=>MH h m
 have B:=Gv (eO a) a 0 h;have Q:(j1 (eO a) a).length<=60*ao a:=by rw[<-Gu (eO a) a 0 h,cX];exact B
 have E:cF (jl 1 Zz (jb jc)) [.ai (obj a w),.ai (.al (a.map rl)),.un,.un]=.ok ((cL (eO a) 0 a).map λx=>ent x.2.1 x.2.2):=
  xQ (jo (ja aa jn) aa (jme h I)) (by rw[jmh];rfl)
 have J:=yy (js:=[1]) (n:=3) (t:=g2 qF yF) (c:=qm) (fe:=aO (jf (aq (aq jp jc bc) jP bc) (jf (jl 2 (λU=>p6 (zG U)) (jf (aq (aq jp jc bc) jS bc) (jb jh))) aT)))
  (p:=λf=>af) (φ:=λx=>rl (x.1.1,x.2.2.2)) (sh:=λo d=>∃u v,o=[u,v,.ai (.al (a.map rl)),.aG (.al d)])
  (cL (eO a) 0 a) aa (by rintro _ _ ⟨u,v,rfl⟩;rfl) aZ E ⟨.un,.un,rfl⟩ ak (by
   rintro⟨p,k,q⟩ m _ d ⟨u,v,rfl⟩;obtain⟨j,e1,e2,Y,e4⟩:=Sm m;have r:=h p (jfP e2);refine⟨[.ai (.int k),.ai (Qj q.1),.ai (.al (a.map rl)),.aG (.al d)],rfl,⟨_,_,rfl⟩,rfl,λf=>?_⟩;have L:aq jp jc bc [.ai (.int k),.ai (Qj q.1),.ai (.al (a.map rl)),.aG (.al d)]=.ok (rl p):=jk aa aa (Mx aZ);have g:=ky (xs:=q.1.map .int) (Je _ r.tr) λx m=>by obtain⟨i,_,rfl⟩:=dz.mp m;rfl
   rw[jkO p.2 r.tr q Y]at g
   exact bX (jk L aa aa) (jo (ja (jk L aa (B6 aa)) (ja aa jn)) aa (by show p6 (zG [p.2,.ap (q.1.map .int)])=_;rw[g];rfl)))
 rw[ZI,show(cL (eO a) 0 a).map (λx=>rl (x.1.1,x.2.2.2))=(j1 (eO a) a).map rl by rw[<-Gu (eO a) a 0 h,dF];rfl]at J;generalize hF:j1 (eO a) a=F at*;have κ:=uX y h I l;obtain⟨e,met,e2,N⟩:=vT κ dX
 have O:=yy (js:=[]) (n:=2) (t:=g2 qF yF) (c:=qm) (fe:=aO (jf (jl 1 j9 (jb jc)) (jf (jl 1 j9 (jb jh)) aT)))
  (φ:=λx=>dW (hd2 x)) (sh:=λo d=>∃u v,o=[u,v,.aG (.al d)]) (fi:=cF jp) (env:=[.ai (obj a w),.ai (.al (a.map rl)),.ai (.al (F.map rl)),.un])
  F aa (by rintro _ _ ⟨u,v,rfl⟩;rfl) aZ aa ⟨.un,.un,rfl⟩ ak (by
   rintro x m _ d ⟨u,v,rfl⟩
   exact⟨[.ai x.1,.ai x.2,.aG (.al d)],rfl,⟨_,_,rfl⟩,rfl,λf=>bX (jo (ja aa jn) aa (Zn (l x m).B7)) (jo (ja aa jn) aa (Zn (l x m).B8))⟩)
 rw[ZI,show F.map (λx=>dW (hd2 x))=(F.map hd2).map dW by rw[dF];rfl]at O
 have c3:=yy (js:=[3]) (n:=3) (t:=g2 qF yF) (c:=aU (aq (jl 1 j9 (jb jc)) (uP 2 (jl 1 j9 (jb jh)) F5) nU)) (fe:=aO (jf jc (jb jh)))
  (p:=λx=>open Classical in decide (Tc (F.map hd2) (jU x.2) (jU x.1))) (sh:=λo d=>∃u v,o=[u,v,.ai (.bV (e.map bf) (eV e met)),.aG (.al d)]) (fi:=cF jp) (env:=[.ai (obj a w),.ai (.al (a.map rl)),.ai (.al (F.map rl)),.ai (.bV (e.map bf) (eV e met))])
  F aa (by rintro _ _ ⟨u,v,rfl⟩;rfl) aZ aa ⟨.un,.un,rfl⟩ ak (by
   rintro x m _ d ⟨u,v,rfl⟩;refine⟨[.ai x.1,.ai x.2,.ai (.bV (e.map bf) (eV e met)),.aG (.al d)],rfl,⟨_,_,rfl⟩,?_,λf=>bX aa aa⟩
   have g:uP 2 (jl 1 j9 (jb jh)) F5 [.ai x.1,.ai x.2,.ai (.bV (e.map bf) (eV e met)),.aG (.al d)]=.ok (ro (if jU x.2∈e then met (jU x.2)else[])):=by
     show(jl 1 j9 (jb jh) _>>=λkd=>match bW kd with|some k=>.ok ((cK (e.map bf) (eV e met) k).getD (.bV [] []))|none=>.am)=_;rw[show jl 1 j9 (jb jh) [.ai x.1,.ai x.2,.ai (.bV (e.map bf) (eV e met)),.aG (.al d)]=.ok (bn (jU x.2)) from jo (ja aa jn) aa (Zn (l x m).B8)];show aw.ok ((cK (e.map bf) (eV e met) (bf (jU x.2))).getD (.bV [] []))=_;rw[jeP]
   refine jJ ((jk (jo (ja aa jn) aa (Zn (l x m).B7)) g (MC wc (Zm _) _ _)).trans ?_);refine congrArg (λb=>aw.ok (D.bl b)) (decide_eq_decide.mpr ?_)
   by_cases H:jU x.2∈e
   .rw[if_pos H,N.tc]
   .rw[if_neg H]
    exact⟨bF,λz=>absurd ((N.key _).mpr z.fst) H⟩)
 refine qW ?_;refine(jm (jw (wK aa au aa aa (RP a w)))).trans ((jm (jw J)).trans ((jm (zr (jo (ja O jn) aa e2))).trans ?_));have er:ring a=F.filter λx=>open Classical in decide (Tc (F.map hd2) (jU x.2) (jU x.1)):=by delta ring;rw[hF]
 rw[er];exact j7 c3
end
section
def yS(z)(a:LD):jC [.ap (.str z::a)]=.ok (bn (z,(ao a:Int))):=by
 refine qW ?_;refine j7 ?_;refine Qc (ja (jk aa aa Ft) (ja ?_ jn)) (jx (show 2<=20000 by decide));refine jk (qz (ja aa aa) aa) aa ?_;simp
def QJ(h:∃z a,x=.ap (.str z::a)):jC [x]=.ok (bn (jU x)):=by
 obtain⟨z,a,rfl⟩:=h;exact yS z a
theorem WM{d}:∀(c)(a:LD)(u),(∀t∈c,j3 n [t]=.ok (.al (ce t)))->ao a+nums c<=5000->
  ∃g,bu (qu y4 (we 1 (jl 1 (j3 n) (jb jp)))) c [d,.aG (.al a),u]=.ok (.nx [d,.aG (.al (a++c4 c)),g])
 |[],a,u,_,_=>⟨u,by simp[c4,bu]⟩
 |t::c,a,u,h,i=>by
  simp only[nums]at i;have e:=Qi t;obtain⟨g,r⟩:=WM (d:=d) c (a++ce t) (.ai t) (λx j=>h x (by simp[j])) (by rw[lh];omega);refine⟨g,(jZ ?_).trans (r.trans (by simp[c4]))⟩;rw[zA aa];exact uS aa (jo (ja aa jn) aa (h t aE)) (jx ak)
def kR:∀(n)(t),tk o t=af->eN t<=n->num t<=1000->j3 n [t]=.ok (.al (ce t)):=
 lT (λt c e y=>by
  rcases qg c with⟨i,rfl⟩|⟨z,a,rfl,_⟩
  .simp[eN]at e
  .rw[Jd]at e;omega) λn j t c e l=>by
  refine qW ?_;refine(jm (zr (wM (ja aa jn) (jx (show 1<=20000 by decide))))).trans ?_;have h:bt (aU (jl 1 jG (jb jc))) [.ai t,.aG (.al [t]),.un]=.ok (!l8 t):=qG (jJ (jo (ja aa jn) aa (K8 c)));rcases qg c with⟨i,rfl⟩|⟨z,a,rfl,_,_,m⟩
  .exact(jm ((bZ h))).trans (by simp[ce];rfl)
  .rw[Jd]at e;rw[WJ]at l;obtain⟨p,r⟩:=WM a [.ap (.str z::a)] .un (λx g=>j x (m x g) (by have:=yg g;omega) (by have:=QI g;omega)) cf;refine(jm ((cq h).trans ((zX (xQ (d:=.ap a) (JU aa (y6 aa) aa ?_) aa)).trans r))).trans ?_
   .show aw.ok (D.ap (cutD (.str z::a) (ae 1) ah))=_;rw[Ev]
   .simp[ce];rfl
def ji1(h:∀a,a∈l↔a∈m)(q):gY l q=gY m q:=by
 delta gY
 simp_all
def jlL(c):j1 (gV c) c=j1 (eO c) c:=by
 refine congrArg (λf=>c.flatMap f) (funext λp=>?_);rw[show gY (gV c)=gY (eO c) from funext λq=>ji1 (λa=>⟨uI,λh=>(ip.mp h).resolve_left bF⟩) q]
def jiD(l:List Hd):ni (l.map bn)=af:=IM λd c=>by obtain⟨a,_,rfl⟩:=dz.mp c;rfl
def jgG(l:List Hd):D.de (l.map bn)<=190:=cn (R7 (k:=1) λd c=>by obtain⟨a,_,rfl⟩:=dz.mp c;exact bz _) au
def Gw:Sl->aw br:=bS (fu (bt (aU (jl 1 jG (jb jL)))) (aU (aq (jl 1 jC (jb jL)) jh (fU ag)))) (qL 2 (aO (jf jB (jb jL)))) bP
theorem Sn{g j}{a}:∀(L:LD)(c:LD)(u),(∀q∈L,tk y q=af)->ao c+ao L<=10000->
  ∃m,bu (qu zT Gw) L [g,.ai (.al (l.map bn)),.aG (.al c),.ai a,j,u]=.ok (.nx [g,.ai (.al (l.map bn)),.aG (.al (c++(L.filter (gY l)).map λq=>rl (a,q))),.ai a,j,m])
 |[],c,u,_,_=>⟨u,by simp[bu]⟩
 |q::L,c,u,h,p=>by
  simp only[gG]at p;have n:=h q aE;have o:bt (aU (jl 1 jG (jb jL))) [g,.ai (.al (l.map bn)),.aG (.al c),.ai a,j,.ai q]=.ok (!l8 q):=qG (jJ (jo (ja aa jn) aa (K8 n)))
  have t:fu (bt (aU (jl 1 jG (jb jL)))) (aU (aq (jl 1 jC (jb jL)) jh (fU ag))) [g,.ai (.al (l.map bn)),.aG (.al c),.ai a,j,.ai q]=.ok (gY l q):=by
   rcases qg n with⟨i,rfl⟩|⟨z,v,rfl,_⟩
   .exact Mz o
   .refine(Yx o (jJ (jk (jo (ja aa jn) aa (yS z v)) aa (R6 ag (jiD l) aa (jgG l))))).trans ?_;refine congrArg aw.ok ((Dw _).trans (decide_eq_decide.mpr ?_));rw[dz];exact⟨by rintro⟨b,d,e⟩;exact n8.mp e▸d,λd=>⟨_,d,rfl⟩⟩
  have step:qu zT Gw q [g,.ai (.al (l.map bn)),.aG (.al c),.ai a,j,u]=.ok (.nx [g,.ai (.al (l.map bn)),.aG (.al (c++(if gY l q=af then[rl (a,q)]else[]))),.ai a,j,.ai q]):=by
   rw[zA (env':=[g,.ai (.al (l.map bn)),.aG (.al c),.ai a,j,.ai q]) aa]
   delta Gw
   cases d:gY l q with
   |true=>
     rw[d]at t;exact(cq t).trans (wa aa (bX aa aa) (dZ ak fN))
   |false=>
     rw[d]at t;rw[bZ t];simp[bP]
  obtain⟨m,r⟩:=Sn L (c++(if gY l q=af then[rl (a,q)]else[])) (.ai q) (λx w=>h x (by simp[w])) (by split<;>simp<;>omega);refine⟨m,(jZ step).trans (r.trans ?_)⟩;cases d:gY l q<;>simp[A1,d]
def lcO:Sl->aw br:=cw (cF (jl 1 (j3 64) (jb jV))) zT Gw
theorem So{s0}:∀(d)(c:LD)(i j g),gU H d->ao c+60*ao d<=5000->
  ∃n o u,bu (qu (g2 y0 yp) lcO) (d.map rl) [s0,.ai (.al (l.map bn)),.aG (.al c),i,j,g]=.ok (.nx [s0,.ai (.al (l.map bn)),.aG (.al (c++(j1 l d).map rl)),n,o,u])
 |[],c,i,j,g,_,_=>⟨i,j,g,by simp[bu,j1]⟩
 |p::d,c,i,j,g,h,I=>by
  have m:=h p aE;have e:=Qi p.2;have a:=m.nr;have b:=m.hr;obtain⟨w,v⟩:=Sn (ce p.2) c g (ZB p.2 m.tr) ak;obtain⟨y,z,B,r⟩:=So (l:=l) (s0:=s0) d (c++((ce p.2).filter (gY l)).map λq=>rl (p.1,q)) (.ai p.1) (.ai p.2) w (λx E=>h x (by simp[E])) dX;refine⟨y,z,B,(jZ ?_).trans (r.trans (by simp[j1,lP,tL]))⟩;exact(zX (xQ (jo (ja aa jn) aa (kR 64 p.2 m.tr ak ak)) aa)).trans v
def jiI(h:gU d a)(i:ao a<=40):xp [.al (a.map rl)]=.ok (.al ((j1 (eO a) a).map rl)):=by
 refine qW ?_;have c:=Z9 (fe:=jl 1 jC (jb jc)) (fi:=cF jc) (env:=[.ai (.al (a.map rl)),.un,.un,.un,.un,.un]) (λp=>bn (jU p.1)) (λp=>Ru d p.1 p.2) (λp e g=>jo (ja aa jn) aa (QJ g.lt)) aa h (jx ak);rw[show(a.map λp=>bn (jU p.1))=(gV a).map bn by delta gV;rw[dF];rfl]at c;obtain⟨j,l,m,r⟩:=So a [] .un .un .un h cf;refine(jm (jw c)).trans ((jm (zr aa)).trans ((jm ((zX (xQ aa aa)).trans r)).trans ?_));rw[jlL,Ey];exact j7 aa
end
abbrev ir:=List (Hd×Int)
structure o6(ch:ir):Prop where
 nd:(ch.map (·.1)).Nodup
 ok:∀c∈ch,0<=c.2/\c.2<c.1.2
def bi(c:Hd×Int):D:=.ap [bn c.1,.int c.2]
def xv(a:ir):D:=.bw (a.map λc=>bf c.1) (a.map λc=>.int c.2)
def iC(a:ir):D:=.obj "Calls" ["chosen"] [xv a]
def pl(a:ir)(h:Hd):Option Int:=(a.find? λc=>aD (c.1=h)).map (·.2)
def cp(c:ir):D->Option D
 |.ap (.str z::a)=>(pl c (z,(ao a:Int))).bind λi=>a[i.toNat]?
 |_=>ah
def gh:Option D->D
 |none=>.bo
 |some d=>d
def jij(e:pl a h=ae i):(h,i)∈a:=by
 delta pl at e
 cases q:a.find? λc=>aD (c.1=h)with
 |none=>simp_all
 |some c=>grind
def jik(e:pl a h=ah):h∉a.map (·.1):=λm=>by
 delta pl at e
 obtain⟨c,d,e2⟩:=dz.mp m
 cases q:a.find? λc=>aD (c.1=h)with
 |none=>grind
 |some c=>simp_all
def Sq(a)(h):cK (a.map λc=>bf c.1) (a.map λc=>D.int c.2) (bf h)=(pl a h).map D.int:=by
 rw[vL wc]
 delta pl
 cases a.find? λc=>aD (c.1=h)<;>rfl
def QW(C:o6 a)(z)(c:LD):(pl a (z,(ao c:Int))=ah/\(z,(ao c:Int))∉a.map (·.1)/\cp a (.ap (.str z::c))=ah)\/
  ∃(i:Int)(u:D),pl a (z,(ao c:Int))=ae i/\(z,(ao c:Int))∈a.map (·.1)/\0<=i/\c[i.toNat]?=ae u/\cp a (.ap (.str z::c))=ae u:=by
 cases e:pl a (z,(ao c))with
 |none=>exact .inl ⟨rfl,jik e,by show(pl a _).bind _=_;rw[e];rfl⟩
 |some i=>
  have m:=jij e;obtain⟨d,h⟩:=C.ok _ m;dsimp only at d h;have j:i.toNat<ao c:=by omega
  have g:=cW j;exact .inr ⟨i,_,rfl,dz.mpr ⟨_,m,rfl⟩,d,g,by show(pl a _).bind _=_;rw[e];exact g⟩
set_option tactic.hygienic true in
theorem jnb(h:cp c x=ae u):∃z a,x=.ap (.str z::a)/\u∈a:=by
 unfold cp at h
 split at h
 .rename_i z a
  cases e:pl c (z,(ao a:Int))with
  |none=>rw[e]at h;cases h
  |some i=>
   rw[e]at h;exact⟨z,a,rfl,lf h⟩
 .cases h
section
variable{ns:List Str}
def Uw(a:tk ns x=af)(h:cp g x=ae u):tk ns u=af/\eN u<=eN x/\num u<=num x:=by
 obtain⟨z,j,rfl,m⟩:=jnb h;rcases qg a with⟨i,e⟩|⟨l,c,e,_,_,d⟩
 .cases e
 .cases e;refine⟨d u m,?_,?_⟩
  .rw[Jd];have:=yg m;omega
  .rw[WJ];have:=QI m;omega
def Gx{a:LD}(c:0<=i)(h:a[i.toNat]?=ae u):bc (.ap (x::a)) (.int (1+i))=.ok u:=by
 have e:(1+i)=((i.toNat+1):Int):=by omega
 rw[e];exact B6 aZ
def jmR{a:LD}(c:0<=i)(h:a[i.toNat]?=ae u):bc (.ap a) (.int i)=.ok u:=by
 have e:i=((i.toNat):Int):=by omega
 rw[e];exact B6 h
def ym(C:o6 a)(g:tk ns t=af):jt [iC a,t]=.ok (gh (cp a t)):=by
 refine qW ?_;have h:oK "Calls" "chosen" (gm 0) [.ai (iC a),.ai t,.un]=.ok (xv a):=rfl;rcases qg g with⟨i,rfl⟩|⟨z,d,rfl,_,_,l⟩
 .refine(jm (jw (jk h (jo (ja aa jn) aa (uM i)) aa))).trans aa
 .have e:aq (oK "Calls" "chosen" (gm 0)) (jl 1 j9 (jb jh)) Gb [.ai (iC a),.ai (.ap (.str z::d)),.un]=.ok (((pl a (z,(ao d))).map D.int).getD .bo):=by
    refine jk h (jo (ja aa jn) aa (QL z d)) ?_;show aw.ok ((cK (a.map λc=>bf c.1) (a.map λc=>D.int c.2) (bf (z,(ao d)))).getD .bo)=_;rw[Sq]
  rcases QW C z d with⟨e1,_,e2⟩|⟨i,u,e1,_,m,j,e2⟩
  .rw[e1]at e;rw[e2];exact(jm (jw e)).trans aa
  .rw[e1]at e;rw[e2];refine(jm (jw e)).trans (j7 ?_);exact Fv (jk (jo (ja aa jn) aa (Ww (jfB g))) aa (jmR m j)) (uG u (l u (lf j)))
def gd(a:ir)(x:D×D):Bool:=match cp a x.1,cp a x.2 with
 |some u,ae w=>aD (w∈ce u)
 |_,_=>ag
def sm(a:ir)(x:D×D):Bool:=match cp a x.1,cp a x.2 with
 |some u,ae w=>aD (u=w)
 |_,_=>ag
open Classical in
def rq(c:ir)(X:List (D×D)):Bool:=X.all (gd c)&&!decide (∃a,Tc ((X.filter (sm c)).map hd2) a a)
def WC(h:a env=.ok af):eY a c env=.ok af:=by simp_all
def ya(a:c env=.ok ag)(d:e env=.ok b):eY c e env=.ok b:=by rw[Om,a];exact d
def Z0(e:tk ns u=af)(hw:tk ns w=af)(g:eN u<=12):fU neg w (.al (ce u))=.ok (.bl (if neg then !decide (w∈ce u)else decide (w∈ce u))):=
 R6 neg (IM λd c=>XF d (ZB u e d c)) (XF w hw) (cn (R7 (k:=12) λd c=>by
  have a:=Ut d (ZB u e d c);have b:=(Vr u e d c).1
  omega) au)
def A3:Sl->aw br:=az (jF 6 (wL "Calls" "chosen_part" 2 jt jc (jb jV))) (az (jF 7 (wL "Calls" "chosen_part" 2 jt jc (jb jL)))
 (az (bS (eY (aU (aq qv cN M.l8)) (eY (aU (aq jK cN M.l8)) (aU (aq jK (jl 1 (j5 64) (jb qv)) (fU af))))) (aY jQ) bP) (bS (aU (aq qv jK da)) (qL 2 (aO (jf (jl 1 j9 (jb jV)) (jf (jl 1 j9 (jb jL)) aT)))) bP)))
abbrev mP(c:ir)(d:Slot)(a:LD)(e g h i:Slot):Sl:=[.ai (iC c),d,.aG (.al a),.un,e,g,h,i]
def Sr(h:tk ns u=af):M.l8 u .bo=.ok (.bl ag):=by
 rcases qg h with⟨i,rfl⟩|⟨z,a,rfl,_⟩<;>rfl
def jlm(C:o6 c){acc:LD}(f:Fo ns l x)(B:ao acc<20000):
  (gd c x=af->∃E H I J,qu (g2 yp zT) A3 (rl x) (mP c d acc r v h e)=.ok (.nx (mP c d (acc++(if sm c x=af then[dW (hd2 x)]else[])) E H I J)))/\
  (gd c x=ag->qu (g2 yp zT) A3 (rl x) (mP c d acc r v h e)=.ok (.rt af (.bl ag))):=by
 have U:iC c=.obj "Calls" ["chosen"] [xv c]:=rfl;have L:∀i j,wL "Calls" "chosen_part" 2 jt jc (jb jV) (mP c d acc (.ai x.1) (.ai x.2) i j)=.ok (gh (cp c x.1)):=λi j=>wK aa au (ja aa jn) aa (ym C f.tl)
 have N:∀i j,wL "Calls" "chosen_part" 2 jt jc (jb jL) (mP c d acc (.ai x.1) (.ai x.2) i j)=.ok (gh (cp c x.2)):=λi j=>wK aa au (ja aa jn) aa (ym C f.tr)
 have go:∀g:Sl->aw br,az (jF 6 (wL "Calls" "chosen_part" 2 jt jc (jb jV))) (az (jF 7 (wL "Calls" "chosen_part" 2 jt jc (jb jL))) g) (mP c d acc (.ai x.1) (.ai x.2) h e)=
   g (mP c d acc (.ai x.1) (.ai x.2) (.ai (gh (cp c x.1))) (.ai (gh (cp c x.2)))):=λg=>(jm (jw (L h e))).trans (jm (jw (N _ e)))
 have st:qu (g2 yp zT) A3 (rl x) (mP c d acc r v h e)=A3 (mP c d acc (.ai x.1) (.ai x.2) h e):=zA aa;rw[st]
 delta A3
 rw[go]
 delta gd sm
 cases e1:cp c x.1 with
 |none=>exact⟨bF,λb=>zP ((cq (WC aa)))⟩
 |some u=>
  obtain⟨m,Y,nu⟩:=Uw f.tl e1;have n:aU (aq qv cN M.l8) (mP c d acc (.ai x.1) (.ai x.2) (.ai (gh (ae u))) (.ai (gh (cp c x.2))))=.ok ag:=jJ (jk aa aa (Sr m))
  cases e2:cp c x.2 with
  |none=>
   rw[e2]at n;exact⟨bF,λb=>zP ((cq (ya n (WC aa))))⟩
  |some w=>
   rw[e2]at n;obtain⟨p,gw,nw⟩:=Uw f.tr e2;have gl:=f.gl;have O:aU (aq jK cN M.l8) (mP c d acc (.ai x.1) (.ai x.2) (.ai (gh (ae u))) (.ai (gh (ae w))))=.ok ag:=jJ (jk aa aa (Sr p))
   have Q:aU (aq jK (jl 1 (j5 64) (jb qv)) (fU af)) (mP c d acc (.ai x.1) (.ai x.2) (.ai (gh (ae u))) (.ai (gh (ae w))))=.ok (!decide (w∈ce u)):=
    jJ (jk aa (jo (ja aa jn) aa (X3 64 u (Je u m) ak ak)) (Z0 m p ak))
   have t:=ya n (ya O Q);dsimp only
   cases y:aD (w∈ce u)with
   |false=>
    rw[y]at t;exact⟨bF,λb=>zP ((cq t))⟩
   |true=>
    rw[y]at t;refine⟨λb=>?_,bF⟩;have q:aU (aq qv jK da) (mP c d acc (.ai x.1) (.ai x.2) (.ai (gh (ae u))) (.ai (gh (ae w))))=.ok (aD (u=w)):=jJ (jk aa aa (MF (a:=u) (XF u m) (XF w p) (by have:=Ut u m;omega)));refine⟨.ai x.1,.ai x.2,.ai u,.ai w,(jm ((bZ t))).trans ?_⟩
    by_cases o:u=w
    .rw[decide_eq_true o]at q;rw[if_pos (decide_eq_true o)];exact(cq q).trans (wa aa (bX (jo (ja aa jn) aa (Zn f.B7)) (jo (ja aa jn) aa (Zn f.B8))) (dZ B fN))
    .rw[decide_eq_false o]at q;rw[if_neg λz=>o (of_decide_eq_true z)];refine(bZ q).trans ?_;simp[bP,gh]
theorem Ss(C:o6 i){l}{p}:∀(X)(g:LD)(j m n o),(∀x∈X,Fo ns l x)->ao g+ao X<=10000->
  (X.all (gd i)=af->∃q r u v,bu (qu (g2 yp zT) A3) (X.map rl) (mP i p g j m n o)=.ok (.nx (mP i p (g++((X.filter (sm i)).map hd2).map dW) q r u v)))/\
  (X.all (gd i)=ag->bu (qu (g2 yp zT) A3) (X.map rl) (mP i p g j m n o)=.ok (.rt af (.bl ag)))
 |[],g,j,m,n,o,_,_=>⟨λf=>⟨j,m,n,o,by simp[bu]⟩,bF⟩
 |x::X,g,j,m,n,o,h,B=>by
  simp only[gG]at B;obtain⟨a,b⟩:=jlm C (acc:=g) (h x aE) ak;rw[tw]
  cases w:gd i x with
  |false=>exact⟨bF,λf=>Ol (b w)⟩
  |true=>
   obtain⟨q,r,u,v,e⟩:=a w;obtain⟨c,d⟩:=Ss C X (g++(if sm i x=af then[dW (hd2 x)]else[])) q r u v (λy E=>h y (by simp[E])) (by split<;>simp<;>omega);refine⟨λz=>?_,λz=>(jZ e).trans (d z)⟩;obtain⟨H,I,J,L,e2⟩:=c z;refine⟨H,I,J,L,(jZ e).trans (e2.trans ?_)⟩;cases N:sm i x<;>simp[A1,N]
def Su{a:Type}(l:List a)(p):oR [.al (l.map λc=>D.bl (p c))]=.ok (.bl (l.any p)):=by
 have:l.map (λc=>D.bl (p c))=(l.map p).map D.bl:=by simp
 rw[this];show(match ZT ((l.map p).map D.bl)with|some bs=>aw.ok (D.bl (bs.any id))|none=>aw.am)=_;rw[Of];simp
def Sv(h:f env=.ok (.bl b)):lq f env=.ok (.bl (!b)):=by
 show(f env>>=_)=_;rw[h];rfl
def jmQ(C:o6 i)(I:∀z∈ns,isNm (.str z)=af)(h:gU ns r)(Q:ao r<=40)(U:∀x∈X,Fo ns (eO r) x)(Y:ao X<=5000):
  qA [iC i,.al (X.map rl)]=.ok (.bl (rq i X)):=by
 obtain⟨a,b⟩:=Ss C X [] .un .un .un .un U cf;refine qW ?_;refine(jm (zr aa)).trans ?_
 delta rq
 cases N:X.all (gd i)with
 |false=>exact zP ((zX (xQ aa aa)).trans (b N))
 |true=>
  obtain⟨v,w,B,H,e⟩:=a N;refine(jm ((zX (xQ aa aa)).trans e)).trans ?_;have hS:∀x∈X.filter (sm i),Fo ns (eO r) x:=by simp_all
  have l:=uX I h Q hS;have o:((X.filter (sm i)).map hd2).length<=10000:=by grind
  generalize(X.filter (sm i)).map hd2=E at l o;obtain⟨g,met,e2,m⟩:=vT l o;refine(jm (env':=[.ai (iC i),.ai (.al (X.map rl)),.ai (.al (E.map dW)),.aG (.bw (g.map bf) (eV g met)),v,w,B,H]) ?_).trans ?_
  .show cR 3 (jl 1 xo (jb jp)) [.ai (iC i),.ai (.al (X.map rl)),.ai (.al (E.map dW)),.un,v,w,B,H]=_;exact zr (jo (ja aa jn) aa e2)
  .show aY (lq (app (jf (zz ag 1 [3] (VR jB) qF qm (aq jc (aq jh jc eU) nU)) aT) oR)) [.ai (iC i),.ai (.al (X.map rl)),.ai (.al (E.map dW)),.ai (.bV (g.map bf) (eV g met)),v,w,B,H]=_;have hk:∀s∈g,Sh s:=λs p=>let ⟨t,J⟩:=(m.key s).mp p;l.sh s (l.sub _ J).1
   have hn:ao g<=(eO r).length:=wI m.nd λs p=>let ⟨t,J⟩:=(m.key s).mp p;(l.sub _ J).1
   have kf:=l.rN
   have hi:VR jB [.ai (iC i),.ai (.al (X.map rl)),.ai (.al (E.map dW)),.ai (.bV (g.map bf) (eV g met)),v,w,B,H]=.ok (g.map bn):=by
     show bh ((g.map bf).all NK.bD=af) (aw.ok ((g.map bf).map λk=>D.ap (dn k)))=_;rw[jI (QF hk),ME]
   have O:=yy (js:=[3]) (n:=2) (t:=gN 0) (c:=qm) (fe:=aq jc (aq jh jc eU) nU)
     (sh:=λL j=>∃u,L=[u,.ai (.bV (g.map bf) (eV g met)),.aG (.al j)]) g aa (by rintro _ _ ⟨u,rfl⟩;rfl) aZ hi ⟨.un,rfl⟩ ak (by
      rintro s p _ j ⟨u,rfl⟩;refine⟨[.ai (bn s),.ai (.bV (g.map bf) (eV g met)),.aG (.al j)],rfl,⟨_,rfl⟩,rfl,λf=>?_⟩;refine jk (y:=ro (met s)) aa (jk aa aa ?_) (MC wc (Zm s) _ _);show(match cK (g.map bf) (eV g met) (bf s)with|some d=>aw.ok d|none=>.am)=_
      rw[show eV g met=g.map λs=>ro (met s) from aa,vL wc g s,W9 p];rfl)
   rw[ZI]at O;refine j7 ((Sv (qz (ja O jn) (Su g λs=>aD (s∈met s)))).trans ?_);refine congrArg (λq=>aw.ok (D.bl (!q))) ?_
   classical
   rw[vk,tM,decide_eq_true_iff]
   constructor
   .rintro⟨s,_,q⟩;exact⟨s,(m.tc s s).mp (of_decide_eq_true q)⟩
   .rintro⟨s,q⟩;exact⟨s,(m.key s).mpr q.fst,decide_eq_true ((m.tc s s).mpr q)⟩
def Sw:Sl->aw br:=az (jF 9 (aq jL (aq jS (aq jh jK eU) a9) bc)) (az (jF 10 (aq qv (aq jS (aq jh wj eU) a9) bc)) (az (bS (aU (aq xq (jl 1 (j3 64) (jb (bR 9))) (fU af))) (aY jQ) bP) (bS (aU (aq (bR 9) xq da)) (qL 4 (aO (jf jK (jb wj)))) bP)))
def MI:Sl->aw br:=bS (aU (aq (aO (jf wj (jb jK))) jB nU)) (az (bS (eY (aU (aq jK jh eT)) (aU (aq wj jh eT))) (aY jQ) bP) Sw) bP
def dB:Sl->aw br:=az (jF 7 (jl 1 jC (jb jL))) (az (jF 8 (jl 1 jC (jb qv))) MI)
abbrev dE(d:ir)(L:List Ed)(e g:Slot)(a:LD)(h i j l m c:Slot):Sl:=[e,.ai (xv d),g,.ai (.bV (L.map lG) (fV L)),.aG (.al a),h,i,j,l,m,c]
def ZY(a)(h):eT (bn h) (xv a)=.ok (.bl (!decide (h∈a.map (·.1)))):=by
 have:=MB wc (Zm h) (a.map (·.1)) (a.map λc=>D.int c.2);rw[dF]at this;exact this
def Z1(e:pl a h=ae i):eU (xv a) (bn h)=.ok (.int i):=by
 show(match bW (bn h)with|some k=>(match cK (a.map λc:Hd×Int=>bf c.1) (a.map λc:Hd×Int=>D.int c.2) k with|some d=>aw.ok d|none=>.am)|none=>.am)=_;show(match cK (a.map λc:Hd×Int=>bf c.1) (a.map λc:Hd×Int=>D.int c.2) (bf h)with|some d=>aw.ok d|none=>.am)=_;rw[Sq,e];rfl
def jm9(C:o6 d){acc:LD}(f:Fo ns l x)(ha:ao acc<20000):
   ((jU x.2,jU x.1)∉L->∃E H I J N j,qu (g2 zT Jt) dB (rl x) (dE d L i s2 acc u5 u6 u7 u8 u9 u10)=.ok (.nx (dE d L i s2 acc E H I J N j)))/\
   ((
     jU x.2,jU x.1)∈L->(gd d x=af->∃E H I J N j,qu (g2 zT Jt) dB (rl x) (dE d L i s2 acc u5 u6 u7 u8 u9 u10)=.ok (.nx (dE d L i s2 (acc++(if sm d x=af then[dW (hd2 x)]else[])) E H I J N j)))/\
     (gd d x=ag->qu (g2 zT Jt) dB (rl x) (dE d L i s2 acc u5 u6 u7 u8 u9 u10)=.ok (.rt af (.bl ag)))):=by
 have st:qu (g2 zT Jt) dB (rl x) (dE d L i s2 acc u5 u6 u7 u8 u9 u10)=MI (dE d L i s2 acc (.ai x.1) (.ai x.2) (.ai (bn (jU x.1))) (.ai (bn (jU x.2))) u9 u10):=by
   rw[zA aa];exact(jm (jw (jo (ja aa jn) aa (QJ f.B7)))).trans (jm (jw (jo (ja aa jn) aa (QJ f.B8))))
 rw[st]
 have o:aU (aq (aO (jf wj (jb jK))) jB nU) (dE d L i s2 acc (.ai x.1) (.ai x.2) (.ai (bn (jU x.1))) (.ai (bn (jU x.2))) u9 u10)=.ok (aD ((jU x.2,jU x.1)∈L)):=
   jJ (jk (bX aa aa) aa (MC Xa (Kf (jU x.2,jU x.1)) L _))
 delta MI
 refine⟨λhn=>?_,λhy=>?_⟩
 .rw[decide_eq_false hn]at o;exact⟨_,_,_,_,_,_,(bZ o).trans aa⟩
 rw[decide_eq_true hy]at o;rw[cq o];have m:aU (aq jK jh eT) (dE d L i s2 acc (.ai x.1) (.ai x.2) (.ai (bn (jU x.1))) (.ai (bn (jU x.2))) u9 u10)=.ok (!decide (jU x.1∈d.map (·.1))):=jJ (jk aa aa (ZY d _));have p:aU (aq wj jh eT) (dE d L i s2 acc (.ai x.1) (.ai x.2) (.ai (bn (jU x.1))) (.ai (bn (jU x.2))) u9 u10)=.ok (!decide (jU x.2∈d.map (·.1))):=jJ (jk aa aa (ZY d _));obtain⟨x1,x2⟩:=x;obtain⟨e,a,rfl⟩:=f.B7;obtain⟨h,c,rfl⟩:=f.B8
 delta gd sm
 dsimp only;rcases QW C e a with⟨e1,O,n⟩|⟨i1,u,e1,O,a0,a1,n⟩
 .rw[n];rw[show(!decide (jU (D.ap (.str e::a))∈d.map (·.1)))=af by rw[show jU (D.ap (.str e::a))=(e,(ao a:Int)) from aa,decide_eq_false O];rfl]at m;exact⟨bF,λb=>zP ((cq (WC m)))⟩
 rw[show(!decide (jU (D.ap (.str e::a))∈d.map (·.1)))=ag by rw[show jU (D.ap (.str e::a))=(e,(ao a:Int)) from aa,decide_eq_true O];rfl]at m;rcases QW C h c with⟨e2,Q,r⟩|⟨i2,w,e2,Q,b0,b1,r⟩
 .rw[n,r];rw[show(!decide (jU (D.ap (.str h::c))∈d.map (·.1)))=af by rw[show jU (D.ap (.str h::c))=(h,(ao c:Int)) from aa,decide_eq_false Q];rfl]at p;exact⟨bF,λb=>zP ((cq (ya m p)))⟩
 rw[show(!decide (jU (D.ap (.str h::c))∈d.map (·.1)))=ag by rw[show jU (D.ap (.str h::c))=(h,(ao c:Int)) from aa,decide_eq_true Q];rfl]at p;rw[n,r];obtain⟨v,gu,nu⟩:=Uw f.tl n;obtain⟨Y,gw,nw⟩:=Uw f.tr r;have gl:=f.gl;rw[jm ((bZ (ya m p)))]
 delta Sw
 have s9:aq jL (aq jS (aq jh jK eU) a9) bc (dE d L i s2 acc (.ai (.ap (.str e::a))) (.ai (.ap (.str h::c))) (.ai (bn (jU (.ap (.str e::a))))) (.ai (bn (jU (.ap (.str h::c))))) u9 u10)=.ok u:=
   jk aa (jk aa (jk aa aa (Z1 e1)) aa) (Gx a0 a1)
 have U:aq qv (aq jS (aq jh wj eU) a9) bc (dE d L i s2 acc (.ai (.ap (.str e::a))) (.ai (.ap (.str h::c))) (.ai (bn (jU (.ap (.str e::a))))) (.ai (bn (jU (.ap (.str h::c))))) (.ai u) u10)=.ok w:=
   jk aa (jk aa (jk aa aa (Z1 e2)) aa) (Gx b0 b1)
 have go:∀g:Sl->aw br,az (jF 9 (aq jL (aq jS (aq jh jK eU) a9) bc)) (az (jF 10 (aq qv (aq jS (aq jh wj eU) a9) bc)) g) (dE d L i s2 acc (.ai (.ap (.str e::a))) (.ai (.ap (.str h::c))) (.ai (bn (jU (.ap (.str e::a))))) (.ai (bn (jU (.ap (.str h::c))))) u9 u10)=
     g (dE d L i s2 acc (.ai (.ap (.str e::a))) (.ai (.ap (.str h::c))) (.ai (bn (jU (.ap (.str e::a))))) (.ai (bn (jU (.ap (.str h::c))))) (.ai u) (.ai w)):=λg=>(jm (jw s9)).trans (jm (jw U))
 rw[go]
 have y:aU (aq xq (jl 1 (j3 64) (jb (bR 9))) (fU af)) (dE d L i s2 acc (.ai (.ap (.str e::a))) (.ai (.ap (.str h::c))) (.ai (bn (jU (.ap (.str e::a))))) (.ai (bn (jU (.ap (.str h::c))))) (.ai u) (.ai w))=.ok (!decide (w∈ce u)):=
   jJ (jk aa (jo (ja aa jn) aa (kR 64 u v ak ak)) (Z0 v Y ak))
 dsimp only
 by_cases hm:w∈ce u
 .rw[decide_eq_true hm]at y ⊢;refine⟨λb=>?_,bF⟩;have q:aU (aq (bR 9) xq da) (dE d L i s2 acc (.ai (.ap (.str e::a))) (.ai (.ap (.str h::c))) (.ai (bn (jU (.ap (.str e::a))))) (.ai (bn (jU (.ap (.str h::c))))) (.ai u) (.ai w))=.ok (aD (u=w)):=jJ (jk aa aa (MF (XF u v) (XF w Y) (by have:=Ut u v;omega)));refine⟨.ai (.ap (.str e::a)),.ai (.ap (.str h::c)),.ai (bn (jU (.ap (.str e::a)))),.ai (bn (jU (.ap (.str h::c)))),.ai u,.ai w,(jm ((bZ y))).trans ?_⟩
  by_cases B:u=w
  .rw[decide_eq_true B]at q;rw[if_pos (decide_eq_true B)];exact(cq q).trans (wa aa (bX aa aa) (dZ ha fN))
  .rw[decide_eq_false B]at q;rw[if_neg λz=>B (of_decide_eq_true z),rH];exact(bZ q).trans aa
 .rw[decide_eq_false hm]at y ⊢;exact⟨bF,λb=>zP ((cq y))⟩
theorem MJ(C:o6 m){L}{l}{O J}{p}(N:∀x,p x=af↔(jU x.2,jU x.1)∈L):∀(X)(g:LD)(o q r u v i),(∀x∈X,Fo ns l x)->ao g+ao X<=10000->
  ((X.filter p).all (gd m)=af->∃w B E H I j,bu (qu (g2 zT Jt) dB) (X.map rl) (dE m L O J g o q r u v i)=.ok (.nx (dE m L O J (g++(((X.filter p).filter (sm m)).map hd2).map dW) w B E H I j)))/\
  ((X.filter p).all (gd m)=ag->bu (qu (g2 zT Jt) dB) (X.map rl) (dE m L O J g o q r u v i)=.ok (.rt af (.bl ag)))
 |[],g,o,q,r,u,v,i,_,_=>⟨λf=>⟨o,q,r,u,v,i,by simp[bu]⟩,bF⟩
 |x::X,g,o,q,r,u,v,i,h,hl=>by
  simp only[gG]at hl;obtain⟨a,b⟩:=jm9 C (s2:=J) (acc:=g) (u5:=o) (u6:=q) (u7:=r) (u8:=u) (u9:=v) (u10:=i) (h x aE) ak;rw[A1]
  cases Q:p x with
  |false=>
   have hn:(jU x.2,jU x.1)∉L:=λz=>by rw[(N x).mpr z]at Q;cases Q
   obtain⟨w,B,E,H,I,j,e⟩:=a hn;obtain⟨c,d⟩:=MJ C N X g w B E H I j (λy U=>h y (by simp[U])) ak;refine⟨λz=>?_,λz=>(jZ e).trans (d z)⟩;obtain⟨Y,w6,w7,w8,w9,n,e2⟩:=c z;exact⟨Y,w6,w7,w8,w9,n,(jZ e).trans e2⟩
  |true=>
   obtain⟨b1,b2⟩:=b ((N x).mp Q);rw[if_pos aa,tw]
   cases hg:gd m x with
   |false=>exact⟨bF,λf=>Ol (b2 hg)⟩
   |true=>
    obtain⟨w,B,E,H,I,j,e⟩:=b1 hg;obtain⟨c,d⟩:=MJ C N X (g++(if sm m x=af then[dW (hd2 x)]else[])) w B E H I j (λy U=>h y (by simp[U])) (by split<;>simp<;>omega);refine⟨λz=>?_,λz=>(jZ e).trans (d z)⟩;obtain⟨Y,w6,w7,w8,w9,n,e2⟩:=c z;refine⟨Y,w6,w7,w8,w9,n,(jZ e).trans (e2.trans ?_)⟩;cases hs:sm m x<;>simp[A1,hs]
def MK(C:o6 j)(p:∀z∈ns,isNm (.str z)=af)(h:gU ns g)(H:ao g<=40):xf [.al (g.map rl),xv j]=.ok (.bl (rq j (ring g))):=by
 have l:∀x∈j1 (eO g) g,Fo ns (eO g) x:=λx y=>MH h y
 have hfl:(j1 (eO g) g).length<=60*ao g:=by rw[<-Gu (eO g) g 0 h,cX];exact Gv (eO g) g 0 h
 refine qW ?_;refine(jm (jw (jo (ja aa jn) aa (jiI h H)))).trans ?_;have κ:=uX p h H l
 delta ring
 generalize j1 (eO g) g=F at*
 have J:=yy (js:=[]) (n:=2) (t:=g2 qF yF) (c:=qm) (fe:=aO (jf (jl 1 jC (jb jc)) (jf (jl 1 jC (jb jh)) aT)))
  (φ:=λx=>dW (hd2 x)) (sh:=λo i=>∃u v,o=[u,v,.aG (.al i)]) (fi:=cF jp) (env:=[.ai (.al (g.map rl)),.ai (xv j),.ai (.al (F.map rl)),.un,.un,.un,.un,.un,.un,.un,.un])
  F aa (by rintro _ _ ⟨u,v,rfl⟩;rfl) aZ aa ⟨.un,.un,rfl⟩ ak (by
   rintro x y _ i ⟨u,v,rfl⟩
   exact⟨[.ai x.1,.ai x.2,.aG (.al i)],rfl,⟨_,_,rfl⟩,rfl,λf=>bX (jo (ja aa jn) aa (QJ (l x y).B7)) (jo (ja aa jn) aa (QJ (l x y).B8))⟩)
 rw[ZI,show F.map (λx=>dW (hd2 x))=(F.map hd2).map dW by rw[dF];rfl]at J;obtain⟨L,e3,hL,_⟩:=Si κ dX;refine(jm (jw (jo (ja J jn) aa e3))).trans ((jm (zr aa)).trans ?_);have hp:∀x:D×D,(open Classical in decide (Tc (F.map hd2) (jU x.2) (jU x.1)))=af↔(jU x.2,jU x.1)∈L:=by simp_all
 obtain⟨a,b⟩:=MJ C hp F [] .un .un .un .un .un .un l cf;have hX:∀x∈F.filter (λx=>open Classical in decide (Tc (F.map hd2) (jU x.2) (jU x.1))),Fo ns (eO g) x:=by simp_all
 have hXl:(F.filter (λx=>open Classical in decide (Tc (F.map hd2) (jU x.2) (jU x.1)))).length<=ao F:=by grind
 generalize F.filter (λx=>open Classical in decide (Tc (F.map hd2) (jU x.2) (jU x.1)))=X at*
 delta rq
 cases N:X.all (gd j)with
 |false=>exact zP ((zX (xQ aa aa)).trans (b N))
 |true=>
  obtain⟨O,Q,U,Y,v9,r,e⟩:=a N;refine(jm ((zX (xQ aa aa)).trans e)).trans ?_;have hS:∀x∈X.filter (sm j),Fo ns (eO g) x:=by simp_all
  have B:=uX p h H hS;have w:((X.filter (sm j)).map hd2).length<=10000:=by grind
  generalize(X.filter (sm j)).map hd2=E at B w;obtain⟨m,e4,hM,hl4⟩:=Si B w;have I:∀q∈m,q.1∈eO g/\q.2∈eO g:=λq hq=>((hM q).mp hq).in B
  have hi:VR (jl 1 qB (jb jV)) [.ai (.al (g.map rl)),.ai (xv j),.ai (.al (F.map rl)),.ai (.bV (L.map lG) (fV L)),.ai (.al (E.map dW)),O,Q,U,Y,v9,r]=.ok (m.map dW):=by
   show(jl 1 qB (jb jV) _>>=λd=>match d with|.bV ks _=>bh (ks.all NK.bD=af) (aw.ok (ks.map λk=>D.ap (dn k)))|_=>.am)=_;rw[show jl 1 qB (jb jV) [.ai (.al (g.map rl)),.ai (xv j),.ai (.al (F.map rl)),.ai (.bV (L.map lG) (fV L)),.ai (.al (E.map dW)),O,Q,U,Y,v9,r]=.ok (.bV (m.map lG) (fV m)) from jo (ja aa jn) aa e4];show bh ((m.map lG).all NK.bD=af) (aw.ok ((m.map lG).map λk=>D.ap (dn k)))=_;rw[jI (Vh B.sh I),Sa]
  have c5:=yy (js:=[]) (n:=2) (t:=g2 qF yF) (c:=qm) (fe:=aq jc jh da)
   (sh:=λo i=>∃u v,o=[u,v,.aG (.al i)]) m aa (by rintro _ _ ⟨u,v,rfl⟩;rfl) aZ hi ⟨.un,.un,rfl⟩ ak (by
    rintro e _ _ i ⟨u,v,rfl⟩
    exact⟨[.ai (bn e.1),.ai (bn e.2),.aG (.al i)],rfl,⟨_,_,rfl⟩,rfl,λf=>jk aa aa (R9 e.1 e.2)⟩)
  rw[ZI]at c5;refine j7 ((Sv (qz (ja c5 jn) (Su m λe=>aD (e.1=e.2)))).trans ?_);refine congrArg (λq=>aw.ok (D.bl (!q))) ?_
  classical
  rw[vk,tM,decide_eq_true_iff]
  simp_all
def jh1(h:gU ns a):∀x∈ring a,Fo ns (eO a) x:=λx c=>MH h (by delta ring at c;exact(EN.mp c).1)
def je1(h:gU ns a):(ring a).length<=60*ao a:=by
 have c:(j1 (eO a) a).length<=60*ao a:=by rw[<-Gu (eO a) a 0 h,cX];exact Gv (eO a) a 0 h
 exact cn (MA _ _) c
def jbA(C:o6 d)(a:∀z∈ns,isNm (.str z)=af)(h:gU ns c)(e:ao c<=40):qU [iC d,obj c g]=.ok (.bl (rq d (ring c))):=by
 refine qW ?_;have i:=je1 h;exact j7 (wK aa au (ja (jo (ja aa jn) aa (jmG a h e)) jn) aa (jmQ C a h e (jh1 h) ak))
def Wi(h:a env=.ok (.bl af))(c:e env=.ok d):l7 a e af env=.ok d:=by rw[Oo,h];exact c
def Wj(h:a env=.ok (.bl ag)):l7 a c af env=.ok (.bl ag):=by simp_all
def n9(c:ir)(a b:D):Bool:=match cp c a,cp c b with
 |some u,ae w=>!decide (u=w)&&aD (w∈ce u)
 |_,_=>ag
structure Tm(ns:List Str)(t:D):Prop where
 tk:tk ns t=af
 hg:eN t<=12
 nm:num t<=60
def Sx(h:tk ns u=af):M.p8 u .bo=.ok (.bl af):=by
 rcases qg h with⟨i,rfl⟩|⟨z,a,rfl,_⟩<;>rfl
def jlM(C:o6 c)(e:Tm ns a)(i:Tm ns b):q8 [iC c,a,b]=.ok (.bl (n9 c a b)):=by
 refine qW ?_;refine(jm (jw (wK aa au (ja aa jn) aa (ym C e.tk)))).trans ?_;refine(jm (jw (wK aa au (ja aa jn) aa (ym C i.tk)))).trans (j7 ?_)
 delta n9
 cases e1:cp c a with
 |none=>exact Wj aa
 |some u=>
  obtain⟨d,j,l⟩:=Uw e.tk e1;have m:=e.hg;have n:=e.nm;refine Wi (jk aa aa (Sx d)) ?_
  cases e2:cp c b with
  |none=>exact Wj aa
  |some w=>
   obtain⟨h,o,nw⟩:=Uw i.tk e2;refine Wi (jk aa aa (Sx h)) ?_;have q:=jk (f1:=bR 3) (f2:=bR 4) (env:=[.ai (iC c),.ai a,.ai b,.ai u,.ai w]) aa aa (R5 (XF u d) (XF w h) (by have:=Ut u d;omega))
   by_cases g:u=w
   .rw[decide_eq_true g]at q;dsimp only;rw[decide_eq_true g];exact Wj q
   .rw[decide_eq_false g]at q;dsimp only;rw[decide_eq_false g];exact Wi q (jk (f1:=bR 4) (env:=[.ai (iC c),.ai a,.ai b,.ai u,.ai w]) aa (jo (ja (f:=bR 3) aa jn) aa (X3 64 u (Je u d) ak ak)) (Z0 (neg:=false) d h (cn bg bg)))
def jiH(C:o6 e)(j:Tm ns a)(B:Tm ns b):wF [xv e,a,b]=.ok (.bl (n9 e a b)):=by
 refine qW ?_;have l:aU (jl 1 jG (jb jh)) [.ai (xv e),.ai a,.ai b,.un,.un]=.ok (l8 a):=jJ (jo (ja aa jn) aa (K8 j.tk));have o:aU (jl 1 jG (jb jp)) [.ai (xv e),.ai a,.ai b,.un,.un]=.ok (l8 b):=jJ (jo (ja aa jn) aa (K8 B.tk))
 delta n9
 have J:=j.hg;have L:=j.nm;rcases qg j.tk with⟨i,rfl⟩|⟨g,c,rfl,_⟩
 .exact zP ((cq (WC l)))
 rcases qg B.tk with⟨i,rfl⟩|⟨h,d,rfl,_⟩
 .rw[show cp e (.int i)=ah from aa];refine(zP ((cq (ya l (WC o))))).trans ?_;cases cp e (.ap (.str g::c))<;>rfl
 have m:aU (aq (jl 1 jC (jb jh)) jc eT) [.ai (xv e),.ai (.ap (.str g::c)),.ai (.ap (.str h::d)),.un,.un]=.ok (!decide ((g,(ao c:Int))∈e.map (·.1))):=jJ (jk (jo (ja aa jn) aa (yS g c)) aa (ZY e _));have r:aU (aq (jl 1 jC (jb jp)) jc eT) [.ai (xv e),.ai (.ap (.str g::c)),.ai (.ap (.str h::d)),.un,.un]=.ok (!decide ((h,(ao d:Int))∈e.map (·.1))):=jJ (jk (jo (ja aa jn) aa (yS h d)) aa (ZY e _));rcases QW C g c with⟨e1,E,n⟩|⟨i1,u,e1,E,N,O,n⟩
 .rw[n];rw[decide_eq_false E]at m;exact zP ((cq (ya l (ya o (WC m)))))
 rw[decide_eq_true E]at m;rcases QW C h d with⟨e2,H,v⟩|⟨i2,w,e2,H,Q,U,v⟩
 .rw[n,v];rw[decide_eq_false H]at r;exact zP ((cq (ya l (ya o (ya m r)))))
 rw[decide_eq_true H]at r;rw[n,v];obtain⟨y,gu,nu⟩:=Uw j.tk n;obtain⟨I,gw,nw⟩:=Uw B.tk v;refine(jm ((bZ (ya l (ya o (ya m r)))))).trans ?_
 have Y:aq jh (aq jS (aq jc (jl 1 jC (jb jh)) eU) a9) bc [.ai (xv e),.ai (.ap (.str g::c)),.ai (.ap (.str h::d)),.un,.un]=.ok u:=
   jk aa (jk aa (jk aa (jo (ja aa jn) aa (yS g c)) (Z1 e1)) aa) (Gx N O)
 have s4:aq jp (aq jS (aq jc (jl 1 jC (jb jp)) eU) a9) bc [.ai (xv e),.ai (.ap (.str g::c)),.ai (.ap (.str h::d)),.ai u,.un]=.ok w:=
   jk aa (jk aa (jk aa (jo (ja aa jn) aa (yS h d)) (Z1 e2)) aa) (Gx Q U)
 refine(jm (jw Y)).trans ((jm (jw s4)).trans (j7 ?_));have q:=jk (f1:=bR 3) (f2:=bR 4) (env:=[.ai (xv e),.ai (.ap (.str g::c)),.ai (.ap (.str h::d)),.ai u,.ai w]) aa aa (R5 (XF u y) (XF w I) (by have:=Ut u y;omega));have p:=jk (f1:=bR 4) (env:=[.ai (xv e),.ai (.ap (.str g::c)),.ai (.ap (.str h::d)),.ai u,.ai w]) aa (jo (ja (f:=bR 3) aa jn) aa (kR 64 u y ak ak)) (Z0 (neg:=false) y I (cn bg bg))
 by_cases z:u=w
 .rw[decide_eq_true z]at q;dsimp only;rw[decide_eq_true z];exact Wj q
 .rw[decide_eq_false z]at q;dsimp only;rw[decide_eq_false z];exact Wi q p
end
section
abbrev EB(a:List Int):Prop:=ao a=3/\∀c∈a,1<=c/\c<=3
def Sy(h:EB a)(d:0<=i)(g:i<3):∃c,bc (.al (a.map .int)) (.int i)=.ok (.int c)/\1<=c/\c<=3:=by
 obtain⟨x,e,m⟩:=BD (ds:=a.map D.int) d (by rw[cX,h.1];exact g);obtain⟨c,j,rfl⟩:=dz.mp m;exact⟨c,e,h.2 c j⟩
def Gt.kid{a:LD}(g:Gt ns fs h n (.ap (.str z::t::a))):Gt ns fs h n t:=by
 have hg:=g.hg;have nm:=g.nm;rw[Jd]at hg;rw[WJ]at nm;simp only[cy]at hg;simp only[nums]at nm;refine⟨?_,by omega,by omega,λx c=>g.bk x (by rw[KR,Q1];simp[c])⟩;rcases qg g.tk with⟨i,e⟩|⟨j,d,e,_,_,l⟩
 .cases e
 .grind
def Qq{env:Sl}{P:D->Prop}(a:t env=.ok b)(c:P x)(d:env.set i (.ai x)=env)(h:b=af->∃y,P y/\g env=.ok (.nx (env.set i (.ai y)))):
  ∃y,P y/\bS t g bP env=.ok (.nx (env.set i (.ai y))):=by
 cases b with
 |true=>
  obtain⟨y,j,e⟩:=h aa;exact⟨y,j,(cq a).trans e⟩
 |false=>exact⟨x,c,(bZ a).trans (by rw[d];rfl)⟩
def EC:Sl->aw br:=az (jF 0 (jl 2 jH (jf jc (jb jL)))) (az (jF 7 (aq jB (aq jc (app (jb jB) bY) bB) bc)) (az (bS (aU (aq (aq (aq jc zU ek) Xt bB) jP da)) (jF 7 (aq jB (aq jL (app (jb jB) bY) bB) bc)) bP) (az (bS (fu (aU (aq (aq (aq jc (cI 40) ek) zy bB) jP da)) (fu (bt (aU (jl 1 jG (jb jK)))) (aU (aq (app (jb jK) bY) jS lv)))) (jF 7 (aq jK jS bc)) bP) (az (bS (aU (aq (aq (aq jc (cI 80) ek) Wd bB) jP da)) (jF 7 (aO (jf (aq jh xL bc) (jb jK)))) bP) (qL 4 jK)))))
abbrev lS(m:Int)(a:D)(c:Slot)(pls d:LD)(e:Slot)(w:Int)(g:Slot):Sl:=[.ai (.int m),.ai a,c,.ai (.al pls),.aG (.al d),e,.ai (.int w),g]
def jmg(hn:A0 L o){pls hs:LD}(hm:0<=m/\m<2^140)(hk:0<=k/\k<3)(hp:pls≠[])(hg:∀p∈pls,Gt L fs h n p)(hl:ao hs<=1000)(E3:ao pls<=100):
  ∃c x,qu zT EC (.int k) (lS m o q pls hs u5 w u7)=.ok (.nx (lS c o q pls (hs++[x]) (.ai (.int k)) w (.ai x)))/\(0<=c/\c<2^140)/\Gt L fs (1+h) (1+n) x:=by
 rw[zA aa];obtain⟨c,e1,U⟩:=wY m k hm ak
 have lp:0< (ao pls:Int):=by
  have:0<ao pls:=List.length_pos_iff.mpr hp;omega
 have v:∀(f:T3)(u:Sl)(j:Int),f u=.ok (.int j)->bR 3 u=.ok (.al pls)->∃x,x∈pls/\aq jB (aq f (app (jb jB) bY) bB) bc u=.ok x:=λf u j hf N=>by
  obtain⟨x,e,mx⟩:=BD (A9 _ ak) (Ba _ lp);exact⟨x,mx,jk N (jk hf (qz (ja N jn) aa) (Oq lp)) e⟩
 delta EC
 rw[jm (env':=lS c o q pls hs (.ai (.int k)) w u7) (jw (jo (ja aa (ja aa jn)) aa e1))];obtain⟨O,q0,p0⟩:=v jc (lS c o q pls hs (.ai (.int k)) w u7) c aa aa;rw[jm (env':=lS c o q pls hs (.ai (.int k)) w (.ai O)) (jw p0)]
 have dm:∀(a b:Int)(x:D),0<a/\a<1073741824->0<b->aU (aq (aq (aq jc (cI a) ek) (cI b) bB) jP da) (lS c o q pls hs (.ai (.int k)) w (.ai x))=.ok (c/a%b==0):=λa b x ha H=>
  jJ (jk (qH (jk aa aa (Ys ha)) aa H) aa JG)
 obtain⟨B,Q,s1⟩:=Qq (g:=jF 7 (aq jB (aq jL (app (jb jB) bY) bB) bc)) (dm 10 4 O au au) (hg O q0) aa λs=>by
  obtain⟨y,qy,py⟩:=v jL (lS c o q pls hs (.ai (.int k)) w (.ai O)) k aa aa;exact⟨y,hg y qy,jw py⟩
 rw[jm (env':=lS c o q pls hs (.ai (.int k)) w (.ai B)) s1]
 have Y:∃b,fu (aU (aq (aq (aq jc (cI 40) ek) zy bB) jP da)) (fu (bt (aU (jl 1 jG (jb jK)))) (aU (aq (app (jb jK) bY) jS lv))) (lS c o q pls hs (.ai (.int k)) w (.ai B))=.ok b/\(b=af->∃z t E,B=.ap (.str z::t::E)):=by
  have d:=dm 40 2 B au au
  cases H:(c/40%2==0)with
  |false=>rw[H]at d;exact⟨ag,Mz d,λz=>by cases z⟩
  |true=>
   rw[H]at d;have nw:bt (aU (jl 1 jG (jb jK))) (lS c o q pls hs (.ai (.int k)) w (.ai B))=.ok (!l8 B):=qG (jJ (jo (ja aa jn) aa (K8 Q.tk)));rcases qg Q.tk with⟨i,rfl⟩|⟨z,E,rfl,_⟩
   .exact⟨ag,(Yx d (Mz nw)).trans aa,λz=>by cases z⟩
   .have gq:aU (aq (app (jb jK) bY) jS lv) (lS c o q pls hs (.ai (.int k)) w (.ai (.ap (.str z::E))))=.ok (aD ((((.str z::E:LD).length:Nat):Int)>1)):=jJ (jk (qz (ja aa jn) aa) aa aa);refine⟨_,Yx d (Yx nw gq),λhz=>?_⟩
    cases E with
    |nil=>simp[l8]at hz
    |cons t r=>exact⟨z,t,r,rfl⟩
 obtain⟨b2,Y,k2⟩:=Y
 obtain⟨I,J,s2'⟩:=Qq (env:=lS c o q pls hs (.ai (.int k)) w (.ai B)) (i:=7) (P:=Gt L fs h n) (g:=jF 7 (aq jK jS bc)) Y Q aa λH=>by
  obtain⟨z,t,E,rfl⟩:=k2 H;exact⟨t,Q.kid,jw (jk aa aa (B6 (l:=.str z::t::E) (k:=1) aa))⟩
 rw[jm (env':=lS c o q pls hs (.ai (.int k)) w (.ai I)) s2'];obtain⟨z3,N,e3⟩:=B5 hn (f:=bR 1) (env:=lS c o q pls hs (.ai (.int k)) w (.ai I)) aa 3 ak ak
 obtain⟨x3,g3,s3⟩:=Qq (env:=lS c o q pls hs (.ai (.int k)) w (.ai I)) (i:=7) (P:=Gt L fs (1+h) (1+n)) (g:=jF 7 (aO (jf (aq jh xL bc) (jb jK)))) (dm 80 7 I au au) (J.up (ma _ _) (ma _ _)) aa λs=>
  ⟨.ap [.str z3,I],Gt.one N J,jw (bX e3 aa)⟩
 rw[jm (env':=lS c o q pls hs (.ai (.int k)) w (.ai x3)) s3];exact⟨c,x3,wa aa aa (dZ (by omega:ao hs<20000) fN),U,g3⟩
def Zt(O:A0 u j)(hc:EB l){pls:LD}(Q:0<=m/\m<2^140)(hp:pls≠[])(hg:∀p∈pls,Gt u fs h n p)(B:ao pls<=100):
  ∃z U,qJ [.int m,j,.al (l.map .int),.al pls]=.ok (.ap (.str z::U))/\Gt u fs (1+(1+h)) (1+3*(1+n)) (.ap (.str z::U)):=by
 generalize hw:m%3=w;have a:0<=w/\w<3:=by omega
 obtain⟨c,ec,ML,tD⟩:=Sy hc a.1 a.2;obtain⟨z,ez,hz⟩:=Mv O w a.1 ak
 obtain⟨Y,e1,m1,o,E,H,rfl,_,tR,g⟩:=Z2
  (λI r=>∃(m:Int)(i:LD)(E H:Slot),r=lS m j (.ai (.al (l.map .int))) pls i E w H/\(0<=m/\m<2^140)/\ao i+ao I=c.toNat/\(∀x∈i,Gt u fs (1+h) (1+n) x)/\∀d∈I,∃k:Int,d=.int k/\0<=k/\k<3) (by
   rintro d I r ⟨m,i,E,H,rfl,Q,hl,BX,v⟩;obtain⟨k,rfl,J,k1⟩:=v d aE;simp at hl;obtain⟨m',x,e,L,gx⟩:=jmg O (hs:=i) Q ⟨J,k1⟩ hp hg ak B;refine⟨_,e,m',i++[x],_,_,rfl,L,by rw[lh,gG,wh];omega,λy N=>?_,λy N=>v y (by simp[N])⟩;rcases fj.mp N with q|q
   .simp_all
   .rw[lQ.mp q];exact gx)
  (WZ 0 c.toNat) (lS (m/3) j (.ai (.al (l.map .int))) pls [] .un w .un) ⟨m/3,[],.un,.un,rfl,by omega,by rw[WY];simp,(λx hx=>by cases hx),λd v=>by
   obtain⟨k,rfl,J,k1⟩:=VO v
   exact⟨k,rfl,J,by omega⟩⟩
 have g:=g.1;have gr:Gt u fs (1+(1+h)) (1+3*(1+n)) (.ap (.str z::o)):=Gt.nd hz ak au g;refine⟨z,o,qW ?_,gr⟩;show W6 [.ai (.int m),.ai j,.ai (.al (l.map .int)),.ai (.al pls),.un,.un,.un,.un]=_;refine(jm (env':=[.ai (.int (m/3)),.ai j,.ai (.al (l.map .int)),.ai (.al pls),.un,.un,.ai (.int w),.un]) ((Qw (B4 aa aa au)).trans aZ)).trans ?_;refine(jm (zr aa)).trans ((jm ((zX (YK (ja (jk aa aa ec) jn) ak)).trans e1)).trans ?_);exact j7 (Fv (qz (ja (jk (wM (ja (jk aa aa ez) jn) (jx (show 1<=20000 by decide))) aa (xV (jx cf))) jn) aa) (uG _ gr.tk))
def ED:Sl->aw br:=qL 4 (jl 3 wD (jf (jl 2 jH (jf jc (jb jL))) (jf jh (jf (aq (aq jB (aq jL Wd gy) a9) (cI 1000) bB) aT))))
def jmi(h:t∈a):∀x∈mJ t,x∈eJ a:=λx c=>by rw[Q1];exact Ax.mpr ⟨t,h,c⟩
def XX(L:A0 B E)(hc:EB H)(I)(hm0:0<=I/\I<2^140):∃l r,zj [.int I,E,.al (H.map .int)]=.ok (.ap [l,r])/\Ru B l r:=by
 generalize hw:I%3=w;have O:0<=w/\w<3:=by omega
 generalize hf:I/3%1000=u;generalize hm:I/3/1000=m;have Q:0<=m/\m<2^140:=by omega
 obtain⟨c,ec,ML,tD⟩:=Sy hc O.1 O.2;obtain⟨z,ez,hz⟩:=Mv L w O.1 ak
 obtain⟨env',e1,pls,u5,rfl,U,J,_⟩:=Z2 (body:=qu zT ED)
  (λds o=>∃(Y:LD)(u5:Slot),o=[.ai (.int m),.ai E,.ai (.al (H.map .int)),.ai (.int u),.aG (.al Y),u5,.un,.un,.ai (.int w)]/\ao Y+ao ds=c.toNat/\(∀x∈Y,Gt B [u%1000,(u+7)%1000,(u+14)%1000] 3 3 x)/\∀d∈ds,∃k:Int,d=.int k/\0<=k/\k<3) (by
   rintro d ds o ⟨Y,u5,rfl,hl,BX,hd⟩;obtain⟨k,rfl,k0,k1⟩:=hd d aE;simp only[gG]at hl;obtain⟨m',em,_⟩:=wY m k Q ak
   have DP:(u+k*7)%1000∈[u%1000,(u+7)%1000,(u+14)%1000]:=by
     have:k=0\/k=1\/k=2:=by omega
     rcases this with rfl|rfl|rfl<;>simp
   obtain⟨x,ex,gx⟩:=kn L m' ((u+k*7)%1000) DP;refine⟨[.ai (.int m),.ai E,.ai (.al (H.map .int)),.ai (.int u),.aG (.al (Y++[x])),.ai (.int k),.un,.un,.ai (.int w)],?_,Y++[x],_,rfl,by rw[lh,gG,wh];omega,λy hy=>?_,λy hy=>hd y (by simp[hy])⟩
   .rw[zA aa];exact wa aa (jo (ja (jo (ja aa (ja aa jn)) aa em) (ja aa (ja (qH (wZ aa (Jb (a:=10) (b:=10) aa aa ak ak (ma _ _))) aa ak) jn))) aa ex) (dZ (by omega:ao Y<20000) fN)
   .rcases fj.mp hy with q|q
    .exact BX y q
    .rw[lQ.mp q];exact gx)
  (WZ 0 c.toNat) [.ai (.int m),.ai E,.ai (.al (H.map .int)),.ai (.int u),.aG (.al []),.un,.un,.un,.ai (.int w)] ⟨[],.un,rfl,by rw[WY];simp,(λx hx=>by cases hx),λd hd=>by
   obtain⟨k,rfl,k0,k1⟩:=VO hd
   exact⟨k,rfl,k0,by omega⟩⟩
 simp only[wh,Nat.add_zero]at U;have MM:∀p∈pls,Gt B (eJ pls) 3 3 p:=λp hp=>⟨(J p hp).tk,(J p hp).hg,(J p hp).nm,jmi hp⟩
 have gl:Gt B [u%1000,(u+7)%1000,(u+14)%1000] (1+3) (1+3*3) (.ap (.str z::pls)):=Gt.nd hz ak au J;have tV:pls≠[]:=λe=>by rw[e]at U;simp at U;omega
 obtain⟨m5,em5,hm5⟩:=wY m 5 Q ak;obtain⟨m6,SA,SD⟩:=wY m 6 Q ak;obtain⟨z1,t1,ec1,SE⟩:=Zt L hc hm5 tV MM ak;obtain⟨z2,t2,ec2,SF⟩:=Zt L hc (pls:=pls) SD tV MM ak
 delta ED at e1
 let v (r:D) (s7:Slot):Sl:=[.ai (.int m),.ai E,.ai (.al (H.map .int)),.ai (.int u),.aG (.al pls),u5,.ai r,s7,.ai (.int w)]
 have key:∃r,Qs [.ai (.int I),.ai E,.ai (.al (H.map .int)),.un,.un,.un,.un,.un,.un]=.ok (.rt af (.ap [.ap (.str z::pls),r]))/\Gt B (eJ pls) 7 43 r:=by
  delta Qs
  rw[jm (env':=[.ai (.int (I/3)),.ai E,.ai (.al (H.map .int)),.un,.un,.un,.un,.un,.ai (.int w)]) ((Qw (B4 aa aa au)).trans (by rw[hw];rfl))];rw[jm (env':=[.ai (.int (I/3)),.ai E,.ai (.al (H.map .int)),.ai (.int u),.un,.un,.un,.un,.ai (.int w)]) ((jw (qH aa aa ak)).trans (by rw[hf];rfl))];rw[jm (env':=[.ai (.int m),.ai E,.ai (.al (H.map .int)),.ai (.int u),.un,.un,.un,.un,.ai (.int w)]) ((jw (jk aa aa (Ys au))).trans (by rw[hm];rfl))];rw[jm (env':=[.ai (.int m),.ai E,.ai (.al (H.map .int)),.ai (.int u),.aG (.al []),.un,.un,.un,.ai (.int w)]) (zr (d:=.al []) aa)];rw[jm ((zX (YK (ja (jk aa aa ec) jn) ak)).trans e1)]
  have cl:∀(j:Int)(m':Int)(o:Sl)(z':Str)(t':LD)(g:T3)(pl:LD),o[0]?=ae (.ai (.int m))->o[1]?=ae (.ai E)->o[2]?=ae (.ai (.al (H.map .int)))->g o=.ok (.al pl)->jH [.int m,.int j]=.ok (.int m')->qJ [.int m',E,.al (H.map .int),.al pl]=.ok (.ap (.str z'::t'))->tk B (.ap (.str z'::t'))=af->
     lO (jl 4 qJ (jf (jl 2 jH (jf jc (jb (cI j)))) (jf jh (jf jp (jf g aT))))) o=.ok (.ap (.str z'::t')):=λj m' o z' t' g pl h0 h1 h2 h4 hj EE No=>by
   have r0:bR 0 o=.ok (.int m):=by delta bR;rw[h0]
   have r1:bR 1 o=.ok E:=by delta bR;rw[h1]
   have r2:bR 2 o=.ok (.al (H.map .int)):=by delta bR;rw[h2]
   exact Fv (jo (ja (jo (ja r0 (ja aa jn)) aa hj) (ja r1 (ja r2 (ja h4 jn)))) aa EE) (uG _ No)
  rw[jm (env':=v (.ap (.str z1::t1)) .un) (jw (cl 5 m5 _ z1 t1 QD pls aa aa aa aa em5 ec1 SE.tk))];rw[jm (env':=v (.ap (.str z1::t1)) (.ai (.int (m%6)))) (jw (qH aa aa ak))];have g0:Gt B (eJ pls) 5 13 (.ap (.str z1::t1)):=SE;generalize D.ap (.str z1::t1)=r0 at g0;have way:∀(j:Int)(r:D),aU (aq jK (cI j) da) (v r (.ai (.int (m%6))))=.ok (m%6==j):=λj r=>jJ (jk aa aa JG)
  obtain⟨z3,h3,e3⟩:=B5 L (f:=bR 1) (env:=v r0 (.ai (.int (m%6)))) aa 3 ak ak
  obtain⟨r1,g1,s1⟩:=Qq (env:=v r0 (.ai (.int (m%6)))) (i:=6) (P:=λr=>Gt B (eJ pls) 7 43 r/\(m%6≠3->Gt B (eJ pls) 5 13 r)) (g:=jF 6 (aO (jf (aq jh xL bc) (jb qv)))) (way 3 r0) ⟨g0.up au au,λs=>g0⟩ aa λhb=>
   ⟨.ap [.str z3,r0],⟨(Gt.one h3 g0).up au au,λz=>absurd (by simpa using hb) z⟩,jw (bX e3 aa)⟩
  rw[jm (env':=v r1 (.ai (.int (m%6)))) s1];obtain⟨z4,h4,e4⟩:=B5 L (f:=bR 1) (env:=v r1 (.ai (.int (m%6)))) aa 4 ak ak
  obtain⟨r2,SG,s2⟩:=Qq (env:=v r1 (.ai (.int (m%6)))) (i:=6) (P:=λr=>Gt B (eJ pls) 7 43 r/\(m%6=5->Gt B (eJ pls) 5 13 r)) (g:=jF 6 (aO (jf (aq jh Xt bc) (jf (lO (jl 4 qJ (jf (jl 2 jH (jf jc (jb (cI 6)))) (jf jh (jf jp (jb QD)))))) (jb qv))))) (way 4 r1) ⟨g1.1,λz=>g1.2 ak⟩ aa λhb=>by
   have SH:m%6=4:=by simpa using hb
   have N:=g1.2 ak;refine⟨.ap [.str z4,.ap (.str z2::t2),r1],⟨(Gt.nd (h:=5) (n:=13) (k:=2) h4 (bz _) au λt ht=>?_).up au au,λz=>absurd z ak⟩,jw (Qc (ja e4 (ja (cl 6 m6 _ z2 t2 QD pls aa aa aa aa SA ec2 SF.tk) (ja aa jn))) (jx (show 3<=20000 by decide)))⟩;simp only[cM,tW,or_false]at ht;rcases ht with rfl|rfl
   .exact SF
   .exact N
  rw[jm (env':=v r2 (.ai (.int (m%6)))) s2]
  obtain⟨r3,g3,s3⟩:=Qq (env:=v r2 (.ai (.int (m%6)))) (i:=6) (P:=Gt B (eJ pls) 7 43) (g:=jF 6 (lO (jl 4 qJ (jf (jl 2 jH (jf jc (jb (cI 6)))) (jf jh (jf jp (jf (aq QD (bJ (jb qv)) a9) aT))))))) (way 5 r2) SG.1 aa λhb=>by
   have SH:m%6=5:=by simpa using hb
   have N:=SG.2 SH
   obtain⟨z5,t5,ec5,SI⟩:=Zt (fs:=eJ pls) (h:=5) (n:=13) L hc (pls:=pls++[r2]) SD aE (λp hp=>by
     rcases fj.mp hp with q|q
     .exact(MM p q).up au au
     .rw[lQ.mp q];exact N) (by rw[lh,gG,wh];omega)
   exact⟨_,SI,jw (cl 6 m6 _ z5 t5 _ (pls++[r2]) aa aa aa (jk aa (wM (ja aa jn) (jx (show 1<=20000 by decide))) (xV (jx cf))) SA ec5 SI.tk)⟩
  rw[jm (env':=v r3 (.ai (.int (m%6)))) s3];obtain⟨z6,h6,e6⟩:=B5 L (f:=bR 1) (env:=v r3 (.ai (.int (m%6)))) aa 4 ak ak
  obtain⟨r4,g4,s4⟩:=Qq (env:=v r3 (.ai (.int (m%6)))) (i:=6) (P:=Gt B (eJ pls) 7 43) (t:=aU (aq (aq (aq jc (cI 6) ek) (cI 9) bB) jP da)) (g:=jF 6 (aO (jb (aq jh Xt bc)))) (jJ (jk (qH (jk aa aa (Ys au)) aa ak) aa JG)) g3 aa λs=>
   ⟨.ap [.str z6],(Gt.leaf h6).up au au,jw (Ex e6)⟩
  rw[jm (env':=v r4 (.ai (.int (m%6)))) s4];exact⟨r4,j7 (bX (Fv (qz (ja (jk (wM (ja (jk aa aa ez) jn) (jx (show 1<=20000 by decide))) aa (xV (jx cf))) jn) aa) (uG _ gl.tk)) aa),g4⟩
 obtain⟨r,er,N⟩:=key;refine⟨_,r,qW er,gl.tk,N.tk,⟨z,pls,rfl⟩,cn gl.hg au,cn N.hg au,cn gl.nm au,cn N.nm au,λx hx=>by rw[KR];exact N.bk x hx,[u%1000,(u+7)%1000,(u+14)%1000],by simp,λx hx=>?_,gl.bk⟩;simp only[cM,tW,or_false]at hx;rcases hx with rfl|rfl|rfl<;>omega
end
def sY:D->Bool
 |.int _=>af
 |_=>ag
def jkb(h:nw d=af):qj [d]=.ok (.bl (sY d)):=by
 cases d with
 |eX _|gK _ _|bV _ _|obj _ _ _=>cases h
 |_=>rfl
def EF:D->Bool
 |.int k=>aD (0<=k)&&aD (k<=9)
 |_=>ag
def MN:D->Bool
 |.ap [a,b]=>isNm a&&(sY b&&EF b)
 |_=>ag
abbrev jmL:Sl->aw Bool:=eY (bt (aU (WR "tuple" jc))) (aU (aq (app (jb jc) bY) zy iA))
def jiq(h:nw d=af)(e:∀a b,d≠ .ap [a,b])(r:Sl):jmL (.ai d::r)=.ok af:=by
 cases d with
 |ap g=>
  match g,e with
  |[],_|[_],_=>rfl
  |[a,b],e=>exact(e a b aa).elim
  |a::b::c::r,_=>
   refine kB (b:=false) aa (jJ ((jk (qz (ja aa aa) aa) aa ur).trans ?_));have:(((a::b::c::r).length:Int)==2)=ag:=by simp;omega
   rw[this];rfl
 |eX _|gK _ _|bV _ _|obj _ _ _=>cases h
 |_=>rfl
def jdE(i:nw a=af)(j:nw b=af):qZ [.ap [a,b]]=.ok (.bl (MN (.ap [a,b]))):=by
 have g:aq jc jS bc [.ai (.ap [a,b])]=.ok b:=jk aa aa aa;refine qW ?_;refine(jm aa).trans (j7 ?_);have c:jl 1 wO (jb (aq jc jP bc)) [.ai (.ap [a,b])]=_:=jo (ja (jk aa aa aa) aa) aa (RE i);have d:jl 1 qj (jb (aq jc jS bc)) [.ai (.ap [a,b])]=_:=jo (ja g aa) aa (jkb j);show _=aw.ok (D.bl (isNm a&&(sY b&&EF b)))
 cases h:isNm a with
 |false=>rw[h]at c;exact Wj c
 |true=>
  rw[h]at c;refine Wi c ?_;rw[Dw]
  cases e:sY b with
  |false=>rw[e]at d;exact Wj d
  |true=>
   rw[e]at d;refine Wi d ?_
   cases b with
   |int k=>
    rw[Dw];exact KJ aa g aa aa aa
   |_=>exact CN e
def ji6(h:nw d=af)(c:∀a b,d≠ .ap [a,b]):qZ [d]=.ok (.bl ag):=qW (zP ((cq (jiq h c []))))
def Kl(z)(k):qZ [bn (z,k)]=.ok (.bl (isNm (.str z)&&(aD (0<=k)&&aD (k<=9)))):=by
 refine(jdE aa aa).trans ?_;show aw.ok (D.bl (isNm (.str z)&&(af&&(aD ((0)<=k)&&aD (k<=9)))))=_
 simp_all
abbrev SJ:Sl->aw Bool:=eY (bt (aU (WR "tuple" jc))) (eY (aU (aq (app (jb jc) bY) zy iA)) (bt (aU (jl 1 qZ (jb (aq jc jP bc))))))
def Xg(h:nw d=af)(e:∀a b,d≠ .ap [a,b]):jX [d]=.ok (.bl ag):=by
 have t:SJ [.ai d]=.ok af:=by
  cases d with
  |ap g=>
   match g,e with
   |[],_|[_],_=>exact ya aa (WC aa)
   |[a,b],e=>exact(e a b aa).elim
   |a::b::c::r,_=>
    refine ya aa (WC (jJ ((jk (qz (ja aa aa) aa) aa ur).trans ?_)));have:(((a::b::c::r).length:Int)==2)=ag:=by simp;omega
    rw[this];rfl
  |eX _|gK _ _|bV _ _|obj _ _ _=>cases h
  |_=>exact WC aa
 exact qW (zP ((cq t)))
def KL(h:qZ [a]=.ok (.bl q)):SJ [.ai (.ap [a,b])]=.ok (!q):=
 ya aa (ya (jJ (jk (qz (ja aa aa) aa) aa aa)) (qG (jJ (jo (ja (jk aa aa aa) jn) aa h))))
def Qu(h:qZ [a]=.ok (.bl ag)):jX [.ap [a,b]]=.ok (.bl ag):=qW (zP ((cq (KL h))))
def J4(h:qZ [bn (z,k)]=.ok (.bl af)):jX [.ap [bn (z,k),.int i]]=.ok (.bl (aD (0<=i)&&aD (i<k))):=by
 refine qW ((jm ((bZ (KL h)))).trans (j7 (Wi (jo (ja (jk aa aa aa) jn) aa aa) ?_)));exact KJ aa (jk aa aa aa) (jk (jk aa aa aa) aa aa) aa aa
def jer(h:qZ [bn (z,k)]=.ok (.bl af)):jX [.ap [bn (z,k),.bl t]]=.ok (.bl ag):=
 qW ((jm ((bZ (KL h)))).trans (j7 (Wj (jo (ja (jk aa aa aa) jn) aa aa))))
def A4(d:D)(a:LD):Prop:=d=.al a\/d=.dw a
abbrev acT:Sl->aw Bool:=eY (bt (aU (WR "list" jc))) (aU (aq (app (jb jc) bY) (cI 60) lv))
abbrev acA:Sl->aw D:=app (jf (zz ag 1 [] (cF jc) qF qm (jl 1 jX (jb jc))) aT) iM
def MO(h:A4 d a):acT [.ai d]=.ok (aD (((ao a:Nat):Int)>60)):=by
 rcases h with rfl|rfl<;>exact ya aa (jJ (jk (qz (ja aa jn) aa) aa aa))
def SK(h:A4 d a)(q)(j:ao a<=60)(e:∀x∈a,jX [x]=.ok (.bl (q x))):acA [.ai d]=.ok (.bl (a.all q)):=by
 have g:cF jc [.ai d]=.ok a:=by rcases h with rfl|rfl<;>rfl
 exact qz (ja (Fq (λx=>D.bl (q x)) (λx=>x∈a) g (λx c=>c) (jx ak) λx i c=>jo (ja aa jn) aa (e x c)) jn) (K0 a q)
def jj1(h:A4 d a)(c:60<ao a):qr [d]=.ok (.bl ag):=by
 have t:=MO h;rw[decide_eq_true ak]at t;exact qW (zP ((cq t)))
def jj0(h:nw d=af)(a:oS "list" d=.ok (.bl ag)):qr [d]=.ok (.bl ag):=
 qW (zP ((cq (WC (qG (b:=false) (jJ a))))))
def jjZ(h:A4 d c)(e:ao c<=60)(q)(g:∀x∈c,jX [x]=.ok (.bl (q x)))(i:c.all q=ag):qr [d]=.ok (.bl ag):=by
 have t:=MO h;rw[decide_eq_false ak]at t;have a:=SK h q e g;rw[i]at a;exact qW ((jm ((bZ t))).trans (zP ((cq (qG (jJ a))))))
def sZ(a:Hd):List dY:=[.inr a.1,.inl a.2]
theorem SM:∀l:List Hd,iS (l.map bn)=ae (l.map sZ)
 |[]=>rfl
 |x::r=>by
  show(match sF (bn x),iS (r.map bn)with
   |some k,ae a=>ae (k::a)
   |_,_=>ah)=_
  rw[SM r];rfl
def jbe(g:ao l<=76):∃n:Nat,Ke (.al (l.map bn))=.ok (.int n)/\(n=ao l↔l.Nodup):=by
 have c:(l.map sZ).Nodup↔l.Nodup:=⟨λh=>(AF.mp h).imp λa e=>a (by rw[e]),λh=>AF.mpr (h.imp λa e=>a (by
     simp[sZ]at e
     exact Prod.ext e.1 e.2))⟩
 refine⟨nT (l.map sZ),?_,?_⟩
 .show(match iS (l.map bn)with
    |some d=>bh (ao d<=76) (aw.ok (D.int (nT d)))
    |none=>aw.am)=_
  rw[SM]
  simp_all
 .by_cases nd:l.Nodup
  .rw[jfH (c.mpr nd),cX];exact⟨λx=>nd,λx=>rfl⟩
  .have:=jmN (λz=>nd (c.mp z))
   grind
def ua(a:ir):Prop:=∀c∈a,isNm (.str c.1.1)=af/\(0<=c.1.2/\c.1.2<=9)/\0<=c.2/\c.2<c.1.2
def UB(h:isNm (.str c.1.1)=af/\(0<=c.1.2/\c.1.2<=9)/\0<=c.2/\c.2<c.1.2):jX [bi c]=.ok (.bl af):=by
 obtain⟨⟨z,k⟩,i⟩:=c;obtain⟨g,a,d⟩:=h;have e:=Kl z k;rw[g,decide_eq_true a.1,decide_eq_true a.2]at e;have:=J4 (i:=i) e;rw[decide_eq_true d.1,decide_eq_true d.2]at this;exact this
def UP(h:A4 d (ch.map bi))(g:ua ch)(v:ao ch<=60):qr [d]=.ok (.bl (aD (ch.map (·.1)).Nodup)):=by
 have t:=MO h;rw[decide_eq_false (by rw[cX];omega)]at t
 have a:=SK h (λy=>af) aZ λx p=>by
   obtain⟨c,m,rfl⟩:=dz.mp p;exact UB (g c m)
 rw[show(ch.map bi).all (λy=>af)=af by simp]at a;refine qW ((jm ((bZ t))).trans ((jm ((bZ (qG (jJ a))))).trans ?_));obtain⟨n,e1,e2⟩:=jbe (l:=ch.map (·.1)) dX;rw[cX]at e2;have q:cF jc [.ai d]=.ok (ch.map bi):=by rcases h with rfl|rfl<;>rfl
 have o:=yy (js:=[]) (n:=1) (t:=gN 0) (c:=qm) (fe:=aq jc jP bc) (sh:=λj i=>∃u,j=[u,.aG (.al i)])
   ch aa (by rintro _ _ ⟨u,rfl⟩;rfl) aZ q ⟨.un,rfl⟩ ak (by
    rintro c m _ i ⟨u,rfl⟩
    exact⟨[.ai (bi c),.aG (.al i)],rfl,⟨_,rfl⟩,rfl,λy=>jk aa aa aa⟩)
 rw[ZI]at o
 have r:uy (zz ag 1 [] (cF jc) qF qm (aq jc jP bc)) [.ai d]=.ok (.int n):=by
   delta uy
   rw[o];rw[dF]at e1;exact e1
 refine j7 ((jk r (qz (ja aa jn) (by rcases h with rfl|rfl<;>(show aw.ok (D.int ((ch.map bi).length))=_;rw[cX]))) JG).trans ?_)
 by_cases nd:(ch.map (·.1)).Nodup
 .simp_all
 .rw[decide_eq_false nd,show(n==(ao ch:Int))=ag from beq_eq_false_iff_ne.mpr λe=>nd (e2.mp (Int.ofNat.inj e))]
def SN(h:A4 d (a.map bi))(nd:(a.map (·.1)).Nodup):QS [d]=.ok (xv a):=by
 have:=R4 (Q:=a.map λc=>(c.1,D.int c.2)) (by rw[dF];exact nd);simp only[dF,tL]at this;rcases h with rfl|rfl
 .exact this
 .exact this
def SO(h:A4 d (a.map bi))(g:ua a)(e:ao a<=60)(nd:(a.map (·.1)).Nodup):jA (.obj "Calls" [] []) [d]=.ok (.bo,iC a):=by
 have c:=UP h g e;rw[decide_eq_true nd]at c
 have e0:zu (xw 2 (.obj "Calls" [] []) [d])=.ok (.nx [.aG (iC a),.ai d]):=by
  exact(U6 ((RO (qG (jJ (jo (ja aa jn) aa c)))).trans (Wb aa))).trans (Wb ((YD (qz (ja aa jn) (SN h nd)) aa au).trans aa))
 exact vQ aa e0 aa
theorem VT:∀a:ir,ZE (a.map λc=>bf c.1) (a.map λc=>D.int c.2)=a.map bi
 |[]=>rfl
 |c::a=>by
  show D.ap [.ap (dn (bf c.1)),.int c.2]::ZE (a.map λc=>bf c.1) (a.map λc=>D.int c.2)=_;rw[VT a];rfl
def SQ(g : ua d)(j : d.length <= 60): ql [iC d] =.ok (.al (d.map bi)) := by
  refine qW (j7 ?_)
  show bh ((d.map λc => bf c.1).length <= 10000 /\ (d.map λc => bf c.1).all NK.bD = af) (aw.ok (D.al (ZE (d.map λc => bf c.1) (d.map λc => D.int c.2)))) = _
  have e : (d.map λc : Hd × Int => bf c.1) = (d.map (·.1)).map bf := by rw[dF]; rfl
  rw[jI ⟨by rw[cX]; omega, by
    rw[e]
    refine QF λa h => ?_
    obtain⟨c, i, rfl⟩ := dz.mp h
    exact cn (Mw (g c i).1) au⟩, VT]
def je3(h:qr [d]=.ok (.bl ag)):zp [d]=.ok (.bl af):=by
 have c:bt (aU (jl 1 qr (jb jh))) [.aG (.obj "Calls" [] []),.ai d]=.ok af:=by simp_all
 have e0:zu (xw 2 (.obj "Calls" [] []) [d])=.exc "NoPaper" :=by
  show zu [.aG (.obj "Calls" [] []),.ai d]=_;show(gS _ _ _ _>>=_)=_;rw[jlE c];rfl
 have e:jA (.obj "Calls" [] []) [d]=.exc "NoPaper" :=jcg aa e0
 have mk:CQ (yw "Calls" 1 jA (jb jc)) [.ai d,.ai (.al []),.un]=.exc "NoPaper" :=by
  delta CQ yw
  rw[show jb jc [.ai d,.ai (.al []),.un]=.ok [d] from ja aa jn];dsimp only;rw[if_pos (show[d].length=1 from aa),e];rfl
 refine qW ((jm (jw aa)).trans ?_)
 have g:∀(a:TZ) o,a [.ai d,.ai (.al []),.ai (.eX "NoPaper")]=.ok o->p7 ["NoPath", "NoPaper", "NoRule"] (CQ (yw "Calls" 1 jA (jb jc))) 2 a [.ai d,.ai (.al []),.un]=.ok (DC 2 o):=λa o i=>by
  delta p7
  simp_all
 exact(jm (g _ (.nx [.ai d,.ai (.al [.bl af,.bl ag]),.ai (.eX "NoPaper")]) aa)).trans aa
def MP(d:0<=i)(e:i<26):bc (.str gn) (.int i)=.ok (.str (iB i)):=by
 obtain⟨n,rfl⟩:∃n:Nat,i=n:=⟨i.toNat,by omega⟩
 have:n<26:=by omega
 have a:∀n:Nat,n<26->bc (.str gn) (.int n)=.ok (.str (iB n)):=by
  intro n c
  match n,c with
  |0,_=>rfl|1,_=>rfl|2,_=>rfl|3,_=>rfl|4,_=>rfl|5,_=>rfl|6,_=>rfl|7,_=>rfl|8,_=>rfl|9,_=>rfl|10,_=>rfl|11,_=>rfl|12,_=>rfl
  |13,_=>rfl|14,_=>rfl|15,_=>rfl|16,_=>rfl|17,_=>rfl|18,_=>rfl|19,_=>rfl|20,_=>rfl|21,_=>rfl|22,_=>rfl|23,_=>rfl|24,_=>rfl|25,_=>rfl
  |n+26,h=>omega
 simp_all
def SR(a:0<=i)(e:i<26):pf (iB i):=by
 obtain⟨c,d,g⟩:=Ew a (by rw[RK];omega);rw[MP a e]at d;cases d;exact RG g
def jlg(m):∃(A B:Str)(n:Int),wE [.int m]=.ok (.al ([0,1,2,3,4].map λk:Int=>D.str ((A++iB ((n+5*k)%26))++B)))/\pf A/\pf B/\A.length+B.length<=7:=by
 have o:20<=ba:=by decide
 generalize J:m%8=sz;generalize L:m/8=v;generalize y:v%(sz+1)=e;have ha:0<=e/\e<sz+1:=by rw[<-y];exact⟨A9 _ ak,Ba _ ak⟩
 generalize N:v/(sz+1)=r
 obtain⟨H,O,l,g,Q,U,rfl,Y,p⟩:=Z2 (body:=qu y0 (az (gb (app (jf jc (jb yb)) xu) (g2 qF Jt)) (jF 2 (aq jp (aq jh qv bc) a9))))
  (λI h=>∃(n:Int)(f:Str)(u w:Slot),h=[.ai (.int n),.ai (.str gn),.ai (.str f),u,.ai (.int sz),.ai (.int e),w]/\f.length+I.length=(sz+1).toNat/\pf f)
  (by
   rintro d I h ⟨n,f,u,w,rfl,hl,lw⟩;obtain⟨c,z,E⟩:=Ew (i:=n%26) rA (by rw[RK];omega);simp at hl;have q:(f++(⟨#[c]⟩:Str)).length=f.length+1:=C8 _ _;refine⟨[.ai (.int (n/26)),.ai (.str gn),.ai (.str (f++(⟨#[c]⟩:Str))),.ai d,.ai (.int sz),.ai (.int e),.ai (.int (n%26))],?_,_,_,_,_,rfl,by rw[q];omega,kT lw (RG E)⟩
   refine(jw (jk aa (jk aa aa z) (jI (cn (show f.length+1<=8 by omega) au)))))
  (WZ 0 (sz+1).toNat) [.ai (.int r),.ai (.str gn),.ai (.str ""),.un,.ai (.int sz),.ai (.int e),.un] ⟨r, "",.un,.un,rfl,by rw[WY,show("" :Str).length=0 by decide,Dq],λc z=>by cases z⟩
 have hA:=cn (RI g ah (ae e)) (jlA e g.length ak);have hB:=cn (RI g (ae (e+1)) ah) (jlB (e+1) g.length ak)
 have hz:(eR g ah (ae e)).length+(eR g (ae (e+1)) ah).length<=7:=by omega
 have hts:=yy (js:=[2,1,5,0]) (n:=5) (t:=gN 0) (c:=qm) (fi:=ia (jb (cI 5))) (fe:=aq (aq (zO jh Qn (xr jB) mH) (aq jp (aq (aq jV (aq (cI 5) jc gy) a9) yb bB) bc) a9) (zO jh (xr (aq jB jS a9)) Qn mH) a9)
  (env:=[.ai (.int l),.ai (.str gn),.ai (.str g),Q,.ai (.int sz),.ai (.int e),U]) (φ:=λk=>D.str ((eR g ah (ae e)++iB ((l+5*k)%26))++eR g (ae (e+1)) ah))
  (sh:=λh j=>∃u,h=[u,.ai (.str g),.ai (.str gn),.ai (.int e),.ai (.int l),.aG (.al j)]) [0,1,2,3,4] aa (by rintro _ _ ⟨u,rfl⟩;rfl) aZ aa ⟨.un,rfl⟩ au (by
   rintro k hk _ j ⟨u,rfl⟩;refine⟨[.ai (.int k),.ai (.str g),.ai (.str gn),.ai (.int e),.ai (.int l),.aG (.al j)],rfl,⟨_,rfl⟩,rfl,λx=>?_⟩;have hk5:0<=k/\k<5:=by grind
   have h1:(eR g ah (ae e)++iB ((l+5*k)%26)).length=(eR g ah (ae e)).length+1:=C8 _ _
   exact jk (jk (JU aa aa (y6 aa) aa) (jk aa (qH (wZ aa (Jb (a:=10) (b:=10) aa aa ak ak (ma _ _))) aa ak) (MP rA B9)) (jI (cn (show _+1<=20 from cn (Nat.succ_le_succ (cn (Nat.le_add_right _ _) hz)) (by decide)) o))) (JU aa (y6 (jk aa aa aa)) aa aa) (jI ak))
 refine⟨eR g ah (ae e),eR g (ae (e+1)) ah,l,qW ?_,RF _ _ p,RF _ _ p,hz⟩
 delta ZH
 rw[jm (env':=[.ai (.int m),.ai (.str gn),.un,.un,.un,.un,.un]) aa];rw[jm (env':=[.ai (.int v),.ai (.str gn),.un,.un,.ai (.int sz),.un,.un]) ((Qw (B4 aa aa ak)).trans aZ)];rw[jm (env':=[.ai (.int r),.ai (.str gn),.un,.un,.ai (.int sz),.ai (.int e),.un]) ((Qw (B4 aa (jk aa aa aa) ak)).trans aZ)];rw[jm (env':=[.ai (.int r),.ai (.str gn),.ai (.str ""),.un,.ai (.int sz),.ai (.int e),.un]) aa];rw[jm ((zX (YK (ja (jk aa aa aa) aa) ak)).trans O)]
 simp_all
def jl9(l)(k:Nat):cutD l ah (ae (k))=l.take k:=by
 delta cutD
 rw[HT.hZ,HT.gX];simp
def jgM(l)(k:Nat):cutD l (ae (k)) ah=l.drop k:=by
 delta cutD
 rw[HT.hZ,HT.gX]
 by_cases h:k<=ao l
 .rw[Nat.min_eq_left h];exact DN aE
 .rw[Nat.min_eq_right ak,Ld (bz _),Ld ak];simp
def KG(h:0<j/\j<2^200):iP (.int i) (.int j)=.ok (.int (i/j)):=VU h
def jdu{ds:LD}(e:eH i env=.ok ds)(g:a env=.ok (.int k))(h:c env=.ok d)(j:0<=k/\k<2^63/\ao ds<ba):W0 i a c env=.ok (.nx (env.set i (.aG (.al (ds.take k.toNat++d::ds.drop k.toNat))))):=by
 delta W0
 simp_all
def jlb(a:0<=i)(c:0<=j)(h:(A++iB i)++B=(A++iB j)++B):i=j:=by
 have e:=congrArg (λz:Str=>z.cps.toList) h;simp only[jj2]at e
 have d:97+i.toNat=97+j.toNat:=by
  have:[97+i.toNat]=[97+j.toNat]:=(List.append_cancel_left (List.append_cancel_right e))
  simp_all
 omega
structure Nms(a0 a1 a2 a3 a4:Str):Prop where
 nm:∀z∈[a0,a1,a2,a3,a4],isNm (.str z)=af
 nd:[a0,a1,a2,a3].Nodup
def jlf(m):∃a c d g i,wE [.int m]=.ok (.al [.str a,.str c,.str d,.str g,.str i])/\Nms a c d g i:=by
 obtain⟨A,B,n,e,o,p,E⟩:=jlg m
 have ok:∀k:Int,isNm (.str ((A++iB ((n+5*k)%26))++B))=af:=λk=>by
   have H:(A++iB ((n+5*k)%26)).length=A.length+1:=C8 _ _;have I:((A++iB ((n+5*k)%26))++B).length=(A++iB ((n+5*k)%26)).length+B.length:=C8 _ _;exact RJ ak ak (kT (kT o (SR rA B9)) p)
 refine⟨_,_,_,_,_,e,λz j=>?_,?_⟩
 .simp only[cM,tW,or_false]at j;rcases j with rfl|rfl|rfl|rfl|rfl<;>exact ok _
 .have ne:∀k l:Int,(n+5*k)%26≠(n+5*l)%26->(A++iB ((n+5*k)%26))++B≠(A++iB ((n+5*l)%26))++B:=λk l h z=>h (jlb rA rA z)
  have q:=ne 0 1 ak;have r:=ne 0 2 ak;have u:=ne 0 3 ak;have v:=ne 1 2 ak;have w:=ne 1 3 ak;have y:=ne 2 3 ak
  simp_all
abbrev va(m:Int)(c:D)(d:List Int)(a:ir)(e g:Slot):Sl:=[.ai (.int m),.ai c,.ai (.al (d.map .int)),.aG (.al (a.map bi)),e,g]
def MQ:Sl->aw br:=az (gb (app (jf jc (jb (cI 8))) xu) (g2 qF zT)) (bS (aU (aq jL jP lv)) (qL 3 (aO (jf (aO (jf (aq jh jV bc) (jb (aq jp jV bc)))) (jf (aq jL (aq jp jV bc) bB) aT)))) bP)
def MR{acc:ir}(g:bc nm (.int k)=.ok (.str a))(e:bc (.al (cs.map .int)) (.int k)=.ok (.int c))(j:1<=c)(l:ao acc<=1000):
   ∃(X:ir)(d:Slot),qu yp MQ (.int k) (va m nm cs acc u4 u5)=.ok (.nx (va (m/8) nm cs (acc++X) (.ai (.int k)) d))/\(X=[]\/∃i,X=[((a,c),i)]/\0<=i/\i<c):=by
 rw[zA aa]
 delta MQ
 rw[jm (Qw (B4 aa aa au))];have t:aU (aq jL jP lv) (va (m/8) nm cs acc (.ai (.int k)) (.ai (.int (m%8))))=.ok (aD (m%8>0)):=jJ (jk aa aa aa)
 by_cases h:m%8>0
 .rw[decide_eq_true h]at t;refine⟨[((a,c),m%8%c)],.ai (.int (m%8)),(cq t).trans ((wa aa (bX (bX (jk aa aa g) (jk aa aa e)) (qH aa (jk aa aa e) ak)) (dZ (by rw[cX];omega:(acc.map bi).length<20000) fN)).trans ?_),.inr ⟨_,rfl,A9 _ ak,Ba _ ak⟩⟩;simp[bi,bn]
 .rw[decide_eq_false h]at t;exact⟨[],.ai (.int (m%8)),(bZ t).trans (by rw[rH];rfl),.inl aa⟩
def KK{X:ir}(d:X=[]\/∃i,X=[(h,i)]/\0<=i/\i<h.2):(X.map (·.1)).Sublist [h]/\∀c∈X,0<=c.2/\c.2<c.1.2:=by
 rcases d with rfl|⟨i,rfl,e,g⟩
 .exact⟨List.nil_sublist _,λc a=>by cases a⟩
 .exact⟨List.Sublist.refl _,λc a=>by rw[lQ.mp a];exact⟨e,g⟩⟩
def UA(J:∀z∈[q,n,o,g,u],isNm (.str z)=af)(h0:1<=l/\l<=3)(h1:1<=i/\i<=3)(h2:1<=j/\j<=3)(nd:[((q,l):Hd),(n,i),(o,j),(g,1)].Nodup)(m):
  ∃L,zN [.int m,.al [.str q,.str n,.str o,.str g,.str u],.al [.int l,.int i,.int j]]=.ok (.al (L.map bi))/\ua L/\(L.map (·.1)).Nodup/\ao L<=4:=by
 obtain⟨N,u0,e0,x0⟩:=MR (nm:=.al [.str q,.str n,.str o,.str g,.str u]) (cs:=[l,i,j]) (acc:=[]) (k:=0) aa aa h0.1 aE;have l0:ao N<=1:=by rcases x0 with rfl|⟨_,rfl,_⟩<;>simp
 obtain⟨U,u1,e1,x1⟩:=MR (nm:=.al [.str q,.str n,.str o,.str g,.str u]) (cs:=[l,i,j]) (acc:=[]++N) (u4:=.ai (.int 0)) (u5:=u0) (m:=m/8) (k:=1) (a:=n) (c:=i) aa aa h1.1 cf;have l1:ao U<=1:=by rcases x1 with rfl|⟨_,rfl,_⟩<;>simp
 obtain⟨X2,O,e2,x2⟩:=MR (nm:=.al [.str q,.str n,.str o,.str g,.str u]) (cs:=[l,i,j]) (acc:=[]++N++U) (u4:=.ai (.int 1)) (u5:=u1) (m:=m/8/8) (k:=2) (a:=o) (c:=j) aa aa h2.1 cf;have l2:ao X2<=1:=by rcases x2 with rfl|⟨_,rfl,_⟩<;>simp
 obtain⟨s0,g0⟩:=KK (h:=(q,l)) x0;obtain⟨s1,g1⟩:=KK (h:=(n,i)) x1;obtain⟨s2,g2⟩:=KK (h:=(o,j)) x2;generalize hY:[]++N++U++X2=Y at e2
 have v:(Y.map (·.1)).Sublist [((q,l):Hd),(n,i),(o,j)]:=by
  rw[<-hY];simp only[Ey,lP];exact(s0.append s1).append s2
 have hYl:ao Y<=3:=by
  have:=v.length_le;simpa using this
 have hYg:∀c∈Y,0<=c.2/\c.2<c.1.2:=λc r=>by
  rw[<-hY]at r;simp only[Ey,fj]at r;rcases r with(h|h)|h
  .exact g0 c h
  .exact g1 c h
  .exact g2 c h
 have B:∀c∈Y,isNm (.str c.1.1)=af/\0<=c.1.2/\c.1.2<=9:=λc r=>by
  have m:=v.subset (dz.mpr ⟨c,r,rfl⟩);simp only[cM,tW,or_false]at m;rcases m with e|e|e<;>rw[e]
  .exact⟨J q aE,by show 0<=l;omega,by show l<=9;omega⟩
  .exact⟨J n aE,by show 0<=i;omega,by show i<=9;omega⟩
  .exact⟨J o aE,by show 0<=j;omega,by show j<=9;omega⟩
 have w:=nd;rw[show[((q,l):Hd),(n,i),(o,j),(g,1)]=[((q,l):Hd),(n,i),(o,j)]++[(g,1)] from aa,oI]at w;have E:(Y.map (·.1)).Nodup:=v.nodup w.1;have hY3:((g,1):Hd)∉Y.map (·.1):=λh=>w.2.2 _ (v.subset h) (g,1) aE aa
 have hG:ua Y:=λc r=>⟨(B c r).1,(B c r).2,hYg c r⟩
 generalize hM:m/8/8/8=y at e2
 have H:cw (ia (jb xL)) yp MQ (va m (.al [.str q,.str n,.str o,.str g,.str u]) [l,i,j] [] .un .un)=.ok (.nx (va y (.al [.str q,.str n,.str o,.str g,.str u]) [l,i,j] Y (.ai (.int 2)) O)):=by
  refine(zX (ds:=[.int 0,.int 1,.int 2]) aa).trans ?_;exact(jZ e0).trans ((jZ e1).trans ((jZ e2).trans aa))
 have I:((ao Y:Int)+1)>0:=by omega
 generalize hk:y/2%((ao Y:Int)+1)=k;have BZ:0<=k/\k< (ao Y:Int)+1:=by rw[<-hk];exact⟨A9 _ ak,Ba _ I⟩
 have Q:aU (aq (aq jc zy bB) jP da) (va y (.al [.str q,.str n,.str o,.str g,.str u]) [l,i,j] Y (.ai (.int 2)) O)=.ok (y%2==0):=jJ (jk (qH aa aa ak) aa JG)
 have run:∀Z:ir,bS (aU (aq (aq jc zy bB) jP da)) (W0 3 (aq (aq jc zy ek) (aq (app (jb (gm 3)) bY) jS a9) bB) (aO (jf (aO (jf (aq jh xL bc) (jb jS))) (jb jP)))) bP (va y (.al [.str q,.str n,.str o,.str g,.str u]) [l,i,j] Y (.ai (.int 2)) O)=.ok (.nx (va y (.al [.str q,.str n,.str o,.str g,.str u]) [l,i,j] Z (.ai (.int 2)) O))->
    zN [.int m,.al [.str q,.str n,.str o,.str g,.str u],.al [.int l,.int i,.int j]]=.ok (.al (Z.map bi)):=λZ hz=>qW ((jm (zr (d:=.al []) aa)).trans ((jm H).trans ((jm hz).trans aa)))
 cases hb:(y%2==0)with
 |false=>
  rw[hb]at Q;exact⟨Y,run Y ((bZ Q).trans aa),hG,E,by omega⟩
 |true=>
  rw[hb]at Q;refine⟨Y.take k.toNat++((g,1),0)::Y.drop k.toNat,run _ ((cq Q).trans ((jdu (ds:=Y.map bi) (k:=k) (d:=bi ((g,1),0)) aa ?_ (bX (bX (jk aa aa aa) aa) aa) ⟨BZ.1,by omega,dZ (by rw[cX];omega:(Y.map bi).length<20000) fN⟩).trans ?_)),λc r=>?_,?_,?_⟩
  .refine(qH (jk aa aa (Ys au)) (jk (x:=.int (ao Y:Int)) (qz (ja aa jn) ?_) aa aa) I).trans (by rw[hk]);show aw.ok (D.int ((Y.map bi).length))=_;rw[cX]
  .rw[<-List.map_take,<-List.map_drop,<-fI,<-lP];rfl
  .rcases fj.mp r with h|h
   .exact hG c (DX h)
   .rcases cM.mp h with rfl|h
    .exact⟨J g aE,(by show(0:Int)<=1/\(1:Int)<=9;omega),(by show(0:Int)<=0/\(0:Int)<1;omega)⟩
    .exact hG c (DY h)
  .have p:(Y.take k.toNat++((g,1),0)::Y.drop k.toNat).Perm (((g,1),0)::Y):=List.perm_middle.trans (by rw[Lu]);refine((p.map (·.1)).nodup_iff).mpr ?_;exact rJ.mpr ⟨hY3,E⟩
  .rw[lh,gG,Bo,Hz];omega
def Gy(k:Nat):Hd×Int:=((iB (((0:Int)+(k:Int))%26),1+((0:Int)+(k:Int))/26),((0:Int)+(k:Int))/26)
def many(n:Nat):ir:=(gH n).map Gy
def SS{n:Nat}(h:n<=1000):qI [.int (n)]=.ok (.al ((many n).map bi)):=by
 have g:=yy (js:=[1]) (n:=2) (t:=gN 0) (c:=qm) (fi:=ia (jb jc)) (fe:=aO (jf (aO (jf (aq jh (aq jc yb bB) bc) (jf (aq jS (aq jc yb ek) a9) aT))) (jb (aq jc yb ek))))
  (env:=[.ai (.int (n:Int)),.ai (.str gn)]) (enc:=λi:Nat=>D.int (0+(i:Int))) (p:=λx=>af) (φ:=λk=>bi (Gy k)) (sh:=λe a=>∃u,e=[u,.ai (.str gn),.aG (.al a)])
  (gH n) aa (by rintro _ _ ⟨u,rfl⟩;rfl) (by rintro _ _ _ ⟨u,rfl⟩;exact⟨u,rfl⟩) ((YK (ja aa jn) ak).trans (by rw[AD];rfl)) ⟨.un,rfl⟩ (by rw[BR];omega) (by
   rintro k _ _ a ⟨u,rfl⟩;refine⟨[.ai (.int (0+(k:Int))),.ai (.str gn),.aG (.al a)],rfl,⟨_,rfl⟩,rfl,λx=>?_⟩;have d:aq jc yb ek [.ai (.int (0+(k:Int))),.ai (.str gn),.aG (.al a)]=.ok (.int ((0+(k:Int))/26)):=jk aa aa (Ys au)
   exact bX (bX (jk aa (qH aa aa au) (MP rA B9)) (jk aa d aa)) d)
 rw[ZI]at g;refine qW ((jm (env':=[.ai (.int (n:Int)),.ai (.str gn)]) (jw aa)).trans ((j7 g).trans ?_))
 delta many
 rw[dF];rfl
def jlz:isNm (.str "A")=ag:=by decide+kernel
def SU(i):(iB i).length=1:=rfl
def SV(e:n<=200):ua (many n):=λc a=>by
 obtain⟨k,d,rfl⟩:=dz.mp a;have:=iD.mp d;refine⟨RJ (by rw[show(Gy k).1.1=iB _ from aa,SU];decide) (by rw[show(Gy k).1.1=iB _ from aa,SU];decide) (SR rA B9),?_,?_⟩
 .show 0<=1+((0)+(k:Int))/26/\1+((0)+(k:Int))/26<=9;omega
 .show 0<=((0)+(k:Int))/26/\((0)+k)/26<1+((0)+(k:Int))/26;omega
def jiE(n):((many n).map (·.1)).Nodup:=by
 delta many
 rw[dF];refine AF.mpr (Do.imp λ{a b} c e=>c ?_);have e:(iB (((0)+a)%26),1+((0)+(a:Int))/26)=(iB (((0)+b)%26),1+((0)+(b:Int))/26):=e;have d:[97+(((0)+(a:Int))%26).toNat]=[97+(((0)+(b:Int))%26).toNat]:=(congrArg (λz:Str×Int=>z.1.cps.toList) e)
 have d:=(List.cons.inj d).1;have e:=(Prod.mk.inj e).2;rw[Int.zero_add,Int.zero_add]at e d
 have q:(a:Int)/26=b/26:=Int.add_left_cancel e;have r:((a:Int)%26).toNat=((b:Int)%26).toNat:=Nat.add_left_cancel d
 have r:(a:Int)%26=b%26:=by rw[<-Int.toNat_of_nonneg (Int.emod_nonneg (a:Int) (by decide)),r,Int.toNat_of_nonneg (Int.emod_nonneg _ (by decide))]
 exact Int.ofNat.inj ((Int.mul_ediv_add_emod _ 26).symm.trans ((congr (congrArg (fun u v=>26*u+v) q) r).trans (Int.mul_ediv_add_emod _ 26)))
def uv(n):(many n).length=n:=by delta many;rw[cX,BR]
def qC(d:D):Bool:=match jX [d]with
 |.ok (.bl b)=>b
 |_=>ag
def MS(h:jX [d]=.ok (.bl b)):jX [d]=.ok (.bl (qC d))/\qC d=b:=by
 have:qC d=b:=by delta qC;rw[h]
 simp_all
def jjF(h:0<=i):cutD a ah (ae i)=a.take i.toNat:=by
 have:=jl9 a i.toNat
 grind
def jeo(h:0<=i):cutD a (ae i) ah=a.drop i.toNat:=by
 have:=jgM a i.toNat
 rwa [show((i.toNat:Nat):Int)=i by omega]at this
def sO{P:Prop}(h:P:=by simp only[lh,cX,gG,wh];omega):P:=h
def MT(hn:∀z∈[l,I,J,L,N],isNm (.str z)=af)(g:ua n)(hl:ao n<=4)(m)(hm:0<=m):
   ∃d,xg [.int m,.al [.str l,.str I,.str J,.str L,.str N],.al (n.map bi)]=.ok d/\qr [d]=.ok (.bl ag):=by
 have n0:isNm (.str l)=af:=hn l aE
 have hh:∀k:Int,0<=k->k<=9->qZ [bn (l,k)]=.ok (.bl af):=λk h0 h1=>by
   have:=Kl l k;rw[n0,decide_eq_true h0,decide_eq_true h1]at this;exact this
 generalize hM:m/12=r;generalize hw:m%12=w;have tV:((ao n:Int)+1)>0:=by omega
 generalize hk:r%((ao n)+1)=k;have BZ:0<=k/\k< (ao n)+1:=by rw[<-hk];exact⟨A9 _ ak,Ba _ tV⟩
 let o p:Sl:=[.ai (.int r),.ai (.al [.str l,.str I,.str J,.str L,.str N]),.ai (.al (n.map bi)),.ai (.int k),p,.ai (.int w)]
 have pre:∀(g:TZ),az (gb (app (jf jc (jb (cI 12))) xu) (g2 qF zT)) (az (jF 3 (aq jc (aq (app (jb jp) bY) jS a9) bB)) g) [.ai (.int m),.ai (.al [.str l,.str I,.str J,.str L,.str N]),.ai (.al (n.map bi)),.un,.un,.un]=g (o .un):=λg=>by
   rw[jm (env':=[.ai (.int r),.ai (.al [.str l,.str I,.str J,.str L,.str N]),.ai (.al (n.map bi)),.un,.un,.ai (.int w)]) ((Qw (B4 aa aa au)).trans (by rw[hM,hw];rfl))];exact jm ((jw (qH aa (jk (qz (ja aa jn) (by show aw.ok (D.int ((n.map bi).length))=_;rw[cX])) aa aa) tV)).trans (by rw[hk];rfl))
 have u:∀(j:Int) p,aU (aq jL (cI j) da) (o p)=.ok (w==j):=λj p=>jJ (jk aa aa JG)
 have eq:∀p,zO jp Qn (xr jB) mH (o p)=.ok (.al ((n.take k.toNat).map bi)):=λp=>JU aa aa (y6 aa) (by show aw.ok (D.al (cutD (n.map bi) ah (ae k)))=_;rw[jjF BZ.1,List.map_take])
 have SW:∀p,zO jp (xr jB) Qn mH (o p)=.ok (.al ((n.drop k.toNat).map bi)):=λp=>JU aa (y6 aa) aa (by show aw.ok (D.al (cutD (n.map bi) (ae k) ah))=_;rw[jeo BZ.1,List.map_drop])
 have i0:∀p,aq jh jP bc (o p)=.ok (.str l):=λp=>jk aa aa aa
 have O:∀(p:Slot) j,aO (jf (aq jh jP bc) (jb (cI j))) (o p)=.ok (bn (l,j)):=λp j=>bX (i0 p) aa
 have tl:(n.take k.toNat).length+(n.drop k.toNat).length=ao n:=by rw[<-lh,Lu]
 have gen:∀d,xG [.ai (.int m),.ai (.al [.str l,.str I,.str J,.str L,.str N]),.ai (.al (n.map bi)),.un,.un,.un]=.ok (.rt af d)\/xG [.ai (.int m),.ai (.al [.str l,.str I,.str J,.str L,.str N]),.ai (.al (n.map bi)),.un,.un,.un]=.ok (.rt ag d)->xg [.int m,.al [.str l,.str I,.str J,.str L,.str N],.al (n.map bi)]=.ok d:=λd h=>h.elim (λe=>qW e) λe=>Fw e
 have v:xG [.ai (.int m),.ai (.al [.str l,.str I,.str J,.str L,.str N]),.ai (.al (n.map bi)),.un,.un,.un]=xG [.ai (.int m),.ai (.al [.str l,.str I,.str J,.str L,.str N]),.ai (.al (n.map bi)),.un,.un,.un]:=rfl
 conv at v=>rhs;delta xG
 rw[pre]at v
 by_cases w0:w=0
 .have t:=u 0 .un;rw[w0]at t;have e:=jk (jk (jk (wM (ja (bX (O .un 2) (show cI 0 (o .un)=.ok (.int 0) from aa)) jn) (jx (show 1<=20000 by decide))) (eq .un) (xV (jx sO))) (wM (ja (bX (O .un 2) (show cI 1 (o .un)=.ok (.int 1) from aa)) jn) (jx (show 1<=20000 by decide))) (xV (jx sO))) (SW .un) (xV (jx sO));refine⟨_,gen _ (.inl (v.trans (zP ((cq (t.trans aa)).trans (j7 e))))),?_⟩
  have q:=UP (ch:=(((l,2),0):Hd×Int)::(n.take k.toNat++((l,2),1)::n.drop k.toNat)) (.inl aa) (λc hc=>by
    rcases cM.mp hc with rfl|hc
    .exact⟨n0,(by show(0:Int)<=2/\(2:Int)<=9;decide),(by show(0:Int)<=0/\(0:Int)<2;decide)⟩
    .rcases fj.mp hc with h|h
     .exact g c (DX h)
     .rcases cM.mp h with rfl|h
      .exact⟨n0,(by show(0:Int)<=2/\(2:Int)<=9;decide),(by show(0:Int)<=1/\(1:Int)<2;decide)⟩
      .exact g c (DY h)) sO
  have nd: ¬(((((l,2),0):Hd×Int)::(n.take k.toNat++((l,2),1)::n.drop k.toNat)).map (·.1)).Nodup:=λz=>by
    rw[fI,rJ]at z;exact z.1 (dz.mpr ⟨((l,2),1),by simp,rfl⟩)
  rw[decide_eq_false nd]at q;refine Eq.trans ?_ q;simp[bi,bn,lP]
 have s0:∀g:Sl->aw br,az (bS (aU (aq jL jP da)) (aY (aq (aq (aq (bJ (jf (aO (jf (aO (jf (aq jh jP bc) (jb zy))) (jb jP))) aT)) (zO jp Qn (xr jB) mH) a9) (bJ (jf (aO (jf (aO (jf (aq jh jP bc) (jb zy))) (jb jS))) aT)) a9) (zO jp (xr jB) Qn mH) a9)) bP) g (o .un)=g (o .un):=λg=>jm ((bZ ((u 0 .un).trans (by rw[show(w==0)=ag from beq_eq_false_iff_ne.mpr w0]))))
 rw[s0]at v
 by_cases w1:w=1
 .have t:=u 1 .un;rw[w1]at t;have e:=wM (ja (qz (ja (show bR 2 (o .un)=.ok (.al (n.map bi)) from aa) jn) (show XU _=_ from aa)) (ja (show cN (o .un)=.ok .bo from aa) (ja (show cD (o .un)=.ok (.cG [] []) from aa) (ja (show cS "" (o .un)=.ok (.str "") from aa) (ja (show cI 0 (o .un)=.ok (.int 0) from aa) jn))))) (jx (show 5<=20000 by decide));obtain⟨d,ed,md⟩:=BD (ds:=[.ap (n.map bi),.bo,.cG [] [],.str "",.int 0]) (i:=r%5) rA (by show r%5<5;exact B9);refine⟨d,gen _ (.inr (v.trans (zP ((cq (t.trans aa)).trans (ka (jk e (qH aa aa au) ed)))))),?_⟩;simp at md;rcases md with rfl|rfl|rfl|rfl|rfl<;>exact jj0 aa aa
 have s1:∀g:Sl->aw br,az (bS (aU (aq jL jS da)) (retS (aq (bJ (jf (app (jb jp) XU) (jf cN (jf cD (jf (cS "") (jb jP)))))) (aq jc (cI 5) bB) bc)) bP) g (o .un)=g (o .un):=λg=>jm ((bZ ((u 1 .un).trans (by rw[show(w==1)=ag from beq_eq_false_iff_ne.mpr w1]))))
 rw[s1]at v
 by_cases w2:w=2
 .have t:=u 2 .un;rw[w2]at t;refine⟨_,gen _ (.inl (v.trans (zP ((cq (t.trans aa)).trans (j7 (jo (ja aa jn) aa (SS au))))))),jj1 (.inl aa) (by rw[cX,uv];decide)⟩
 have s2:∀g:Sl->aw br,az (bS (aU (aq jL zy da)) (aY (jl 1 qI (jb (cI 61)))) bP) g (o .un)=g (o .un):=λg=>jm ((bZ ((u 2 .un).trans (by rw[show(w==2)=ag from beq_eq_false_iff_ne.mpr w2]))))
 rw[s2]at v
 have c0:jX [.ap [bn (l,2),.int (2+r%9)]]=.ok (.bl ag):=by
   have:=J4 (i:=2+r%9) (hh 2 au au);rw[decide_eq_false (show¬(2+r%9<2) by omega),E7]at this;exact this
 have B:=wM (ja (bX (O .un 2) (jk (f1:=cI 2) aa (qH (f1:=bR 0) (f2:=cI 9) aa aa au) (show a9 (.int 2) (.int (r%9))=.ok (.int (2+r%9)) from aa))) (ja (bX (O .un 2) (show Aw jS (o .un)=.ok (.int (-1)) from aa)) (ja (bX (O .un 2) (show cB af (o .un)=.ok (.bl af) from aa)) (ja (bX (O .un 10) (show cI 0 (o .un)=.ok (.int 0) from aa)) jn)))) (jx (show 4<=20000 by decide));generalize hA:([.ap [bn (l,2),.int (2+r%9)],.ap [bn (l,2),.int (-1)],.ap [bn (l,2),.bl af],.ap [bn (l,10),.int 0]]:LD)=H at B;have Y:∀p,jP (o p)=.ok (.int 0):=λf=>rfl
 have E:=wM (ja (bX (bX (show cS "A" (o (.ai (.al H)))=.ok (.str "A") from aa) (show cI 1 (o (.ai (.al H)))=.ok (.int 1) from aa)) (Y _)) (ja (Qc (ja (O _ 2) (ja (Y _) (ja (Y _) jn))) (jx (show 3<=20000 by decide))) (ja (bX (i0 _) (Y _)) (ja (wM (ja (O _ 2) (ja (Y _) jn)) (jx (show 2<=20000 by decide))) (ja (show cN (o (.ai (.al H)))=.ok .bo from aa) (ja (bX (O _ 0) (Y _)) jn)))))) (jx (show 6<=20000 by decide));generalize hB:([.ap [.ap [.str "A",.int 1],.int 0],.ap [bn (l,2),.int 0,.int 0],.ap [.str l,.int 0],.al [bn (l,2),.int 0],.bo,.ap [bn (l,0),.int 0]]:LD)=U at E;have la:ao H=4:=by rw[<-hA];rfl
 have lb:ao U=6:=by rw[<-hB];rfl
 have Q:∀x∈H++U,jX [x]=.ok (.bl ag):=λx hx=>by
   rw[<-hA,<-hB]at hx;simp at hx;rcases hx with rfl|rfl|rfl|rfl|rfl|rfl|rfl|rfl|rfl|rfl
   .exact c0
   .exact(J4 (hh 2 au au))
   .exact(jer (hh 2 au au))
   .exact(Qu ((Kl l 10).trans (by rw[n0];rfl)))
   .exact(Qu ((Kl "A" 1).trans (by rw[jlz];rfl)))
   .exact(Xg aa (λa b e=>by cases e))
   .exact(Qu (ji6 aa λa b e=>by cases e))
   .exact(Xg aa (λa b e=>by cases e))
   .exact(Xg aa (λa b e=>by cases e))
   .exact(J4 (hh 0 au au))
 obtain⟨x,ex,mx⟩:=BD (ds:=H++U) (i:=r/61%10) rA (by rw[lh,la,lb];show r/61%10<10;omega);rw[jm (jw B)]at v;rw[jm (env':=o (.ai (.al (H++U)))) (jw (jk aa E (xV (jx ak))))]at v;refine⟨_,gen _ (.inl (v.trans (j7 (jk (jk (eq (.ai (.al (H++U)))) (wM (ja (jk (f1:=bR 4) aa (qH (jk (f1:=bR 0) (f2:=cI 61) aa aa (Ys au)) (show cI 10 (o (.ai (.al (H++U))))=.ok (.int 10) from aa) au) ex) jn) (jx (show 1<=20000 by decide))) (xV (jx sO))) (SW (.ai (.al (H++U)))) (xV (jx sO)))))),jjZ (.inl aa) sO qC (λy hy=>?_) ?_⟩
 .have:(∃c∈n,y=bi c)\/y=x:=by
    rcases fj.mp hy with h|h
    .rcases fj.mp h with h|h
     .obtain⟨c,hc,rfl⟩:=dz.mp h;exact .inl ⟨c,DX hc,rfl⟩
     .exact .inr (lQ.mp h)
    .obtain⟨c,hc,rfl⟩:=dz.mp h;exact .inl ⟨c,DY hc,rfl⟩
  rcases this with⟨c,hc,rfl⟩|rfl
  .exact(MS (UB (g c hc))).1
  .exact(MS (Q _ mx)).1
 .rw[List.all_append,List.all_append];simp[(MS (Q x mx)).2]
def SX(b):qQ [.bl b,.bl b]=.ok (.bl af):=by cases b<;>rfl
theorem Vv:∀(a)(k)(d),d∈jW k a->∃(j:Nat)(x:D),d=.ap [.int (j),x]/\j<k+ao a/\x∈a
 |[],k,d,h=>by cases h
 |x::r,k,d,h=>by
  rcases cM.mp h with z|z
  .exact⟨k,x,z,by simp,by simp⟩
  .obtain⟨j,y,c,g,e⟩:=Vv r (k+1) d z;exact⟨j,y,c,by simp only[gG];omega,by simp[e]⟩
def Jy:∀(a)(k),(jW k a).length=ao a:=
 bv (λy=>rfl) λx r c k=>by simp[jW,c (k+1)]
def Kb{a:LD}(e:g env=.ok a)(h:ao a=n)(i:F (.obj c [] []) a=.ok (.bo,d)):yw c n F g env=.ok d:=by
 delta yw
 simp_all
def KO(h:f env=.ok d):ZS f env=.ok d:=by delta ZS;rw[h];rfl
def SY(a:ir):D.cT (a.map bi)=af/\D.de (a.map bi)<=2:=by
 induction a with
 |nil=>exact⟨rfl,fH _⟩
 |cons c a d=>exact⟨by
  rw[fI];simp only[D.cT,fD];exact⟨rfl,d.1⟩,by
  exact Nat.max_le.mpr ⟨bz _,d.2⟩⟩
def vy(a:ir):da (.al (a.map bi)) (.al (a.map bi))=.ok (.bl af)/\iA (.al (a.map bi)) (.al (a.map bi))=.ok (.bl ag):=jgO (SY a).1 (cn (SY a).2 au)
section
abbrev iu(a c d e g:Str):D:=.al [.str a,.str c,.str d,.str e,.str g]
abbrev lE(S L l m n:D)(j:ir)(o:List (D×D))(a c d e g h i:Slot):Sl:=[.ai S,.ai L,.ai l,.ai m,.ai n,.ai (xv j),.aG (.al []),.ai (iC j),.aG (.al (o.map rl)),.un,a,c,d,e,g,h,i]
def fB:Sl->aw br:=bS (bt (aU (jl 2 qQ (jf (wL "Calls" "falls" 3 q8 jK (jf (bR 15) (jb (bR 16)))) (jf (jl 3 wF (jf jL (jf (bR 15) (jb (bR 16))))) aT))))) (aY jQ) bP
def EG(C:o6 i)(j:Tm m a)(l:Tm m b):qu (g2 (gN 15) (gN 16)) fB (.ap [a,b]) (lE S L n o p i q c d e g h r u)=.ok (.nx (lE S L n o p i q c d e g h (.ai a) (.ai b))):=by
 exact(bZ (qG (jJ (jo (ja (wK aa au (ja aa (ja aa jn)) aa (jlM C j l)) (ja (jo (ja aa (ja aa (ja aa jn))) aa (jiH C j l)) jn)) aa (SX _))))).trans aa
def A5:Sl->aw br:=(az (jF 12 (jl 2 qP (jf (bR 11) (jb (aq xq zy a9))))) (az (bS (aU (aq xq jP lv)) (ic 2 (qL 8 (jl 3 zj (jf (bR 12) (jf jp (jb jB)))))) bP) (az (bS (oH 8 (bt (aU (jl 2 qQ (jf (wL "Calls" "lets" 2 qU jK (jf (ZS (yw "Rules" 1 qf (jf (app (jb wj) kU) aT))) aT)) (jf (jl 2 xf (jf wj (jb jL))) aT)))))) (aY jQ) bP) (az (ic 2 (gb (jl 3 zj (jf (jl 2 jH (jf (bR 12) (jb (cI 8)))) (jf jp (jb jB)))) (g2 (gN 13) (gN 14)))) (az (cw (cF (bJ (jf (aO (jf zq (jb (bR 14)))) (jf (aO (jf (bR 14) (jb zq))) (jf (aO (jf zq (jb zq))) (jf (aO (jf zq (jb Wd))) (jf (aO (jf Wd (jb zq))) aT))))))) (g2 (gN 15) (gN 16)) fB) (bS (oH 2 (bt (aU (jl 1 zp (jf (jl 3 xg (jf (jl 2 jH (jf (bR 12) (jb (cI 9)))) (jf jp (jb jV)))) aT))))) (aY jQ) bP))))))
def jh0(c:gU a d)(e:gU a g):gU a (d++g):=λp h=>(fj.mp h).elim (c p) (e p)
def jfU(U:∀z∈[a,e,i,j,n],isNm (.str z)=af)(hc:EB [c0,c1,c2])(g:ua o)(nd:(o.map (·.1)).Nodup)(hch:ao o<=4)(hp:gU [a,e,i,j,n] B)(hl:ao B<=38)(k:Nat)(hk:k<=63)(c)(v12 w y q u):
  ∃I Gz GA GB GC GD,gU [a,e,i,j,n] I/\ao I<=ao B+1/\
    A5 (lE S L (iu a e i j n) (.al [.int c0,.int c1,.int c2]) (.al (o.map bi)) o B (.ai (.int (k))) (.ai (.int c)) v12 w y q u)=.ok (.nx (lE S L (iu a e i j n) (.al [.int c0,.int c1,.int c2]) (.al (o.map bi)) o I (.ai (.int (k))) (.ai (.int c)) Gz GA GB GC GD)):=by
 have C:o6 o:=⟨nd,λc hc=>(g c hc).2.2⟩
 have Y:A0 [a,e,i,j,n] (iu a e i j n):=⟨rfl,rfl,U⟩
 obtain⟨m,hm,J⟩:=Jx c (k+2) ak;obtain⟨l,r,hr,ru⟩:=XX Y hc m J;obtain⟨m8,e8,b8⟩:=wY m 8 J ak;obtain⟨m9,e9,b9⟩:=wY m 9 J ak;obtain⟨E,r8,S0,v⟩:=XX Y hc m8 b8;obtain⟨bd,S4,fbd⟩:=MT U g hch m9 b9.1
 delta A5
 generalize hcs:D.al [.int c0,.int c1,.int c2]=O;generalize pc:D.al (o.map bi)=cd;rw[show D.al (List.map D.int [c0,c1,c2])=O from hcs]at hr S0;rw[pc]at S4
 have h2:∃N,gU [a,e,i,j,n] N/\ao N<=ao B+1/\bS (aU (aq xq jP lv)) (ic 2 (qL 8 (jl 3 zj (jf (bR 12) (jf jp (jb jB)))))) bP (lE S L (iu a e i j n) O cd o B (.ai (.int k)) (.ai (.int c)) (.ai (.int m)) w y q u)=.ok (.nx (lE S L (iu a e i j n) O cd o N (.ai (.int k)) (.ai (.int c)) (.ai (.int m)) w y q u)):=by
  have t:aU (aq xq jP lv) (lE S L (iu a e i j n) O cd o B (.ai (.int k)) (.ai (.int c)) (.ai (.int m)) w y q u)=.ok (aD ((0)< (k:Int))):=jJ (jk aa aa aa)
  by_cases F7:(0)< (k:Int)
  .refine⟨B++[(l,r)],jh0 hp λp h=>by simp at h;subst h;exact ru,by simp,?_⟩;rw[cq (by rw[t,decide_eq_true F7])];refine(wa (d:=rl (l,r)) aa (jo (ja aa (ja aa (ja aa jn))) aa hr) (dZ (by rw[cX];omega) fN)).trans ?_;rw[show B.map rl++[rl (l,r)]=(B++[(l,r)]).map rl by simp];rfl
  .exact⟨B,hp,by omega,(bZ (by rw[t,decide_eq_false F7])).trans aa⟩
 obtain⟨N,H,tR,s2⟩:=h2;obtain⟨hs,MU⟩:=jmO aa U H ak;have Q:Tm [a,e,i,j,n] E:=⟨v.tl,v.hl,v.nl⟩
 have R8:Tm [a,e,i,j,n] r8:=⟨v.tr,v.hr,v.nr⟩
 have I7:Tm [a,e,i,j,n] (.int 7):=⟨rfl,by simp[eN],by simp[num]⟩
 refine⟨N,.ai (.int m),.ai E,.ai r8,.ai (.int 7),.ai E,H,tR,?_⟩;refine(jm (jw (jo (ja aa (ja (wZ aa aa) jn)) aa hm))).trans ?_;refine(jm s2).trans ?_
 have t3:oH 8 (bt (aU (jl 2 qQ (jf (wL "Calls" "lets" 2 qU jK (jf (ZS (yw "Rules" 1 qf (jf (app (jb wj) kU) aT))) aT)) (jf (jl 2 xf (jf wj (jb jL))) aT))))) (lE S L (iu a e i j n) O cd o N (.ai (.int k)) (.ai (.int c)) (.ai (.int m)) w y q u)=.ok ag:=by
  exact qG (jJ (jo (ja (wK aa au (ja (KO (Kb (ja (qz (ja aa jn) aa) jn) aa MU)) jn) aa (jbA C U H ak)) (ja (jo (ja aa (ja aa jn)) aa (MK C U H ak)) jn)) aa (SX _)))
 refine(jm ((bZ t3))).trans ?_;refine(jm (Qw (jo (ja (jo (ja aa (ja aa jn)) aa e8) (ja aa (ja aa jn))) aa S0))).trans ?_
 have hit:cF (bJ (jf (aO (jf zq (jb (bR 14)))) (jf (aO (jf (bR 14) (jb zq))) (jf (aO (jf zq (jb zq))) (jf (aO (jf zq (jb Wd))) (jf (aO (jf Wd (jb zq))) aT)))))) (lE S L (iu a e i j n) O cd o N (.ai (.int k)) (.ai (.int c)) (.ai (.int m)) (.ai E) (.ai r8) q u)=.ok [.ap [E,r8],.ap [r8,E],.ap [E,E],.ap [E,.int 7],.ap [.int 7,E]]:=
  xQ (wM (ja (bX aa aa) (ja (bX aa aa) (ja (bX aa aa) (ja (bX aa aa) (ja (bX aa aa) jn))))) (jx (show 5<=20000 by decide))) aa
 refine(jm ((zX hit).trans ((jZ (EG C Q R8)).trans ((jZ (EG C R8 Q)).trans ((jZ (EG C Q Q)).trans ((jZ (EG C Q I7)).trans ((jZ (EG C I7 Q))))))))).trans ?_;exact(bZ (    qG (jJ (jo (ja (jo (ja (jo (ja aa (ja aa jn)) aa e9) (ja aa (ja aa jn))) aa S4) jn) aa (je3 fbd))))).trans aa
end
def EH(x)(r:LD):bc (.al (x::r)) (.int 0)=.ok x:=by
 show(match h8 (x::r) ((0:Nat):Int)with|some d=>aw.ok d|none=>.am)=_;rw[M.dJ];rfl
def A6(x y)(r:LD):bc (.al (x::y::r)) (.int 1)=.ok y:=by
 show(match h8 (x::y::r) ((1:Nat):Int)with|some d=>aw.ok d|none=>.am)=_;rw[M.dJ];rfl
theorem VL:∀a:ir,iT (a.map λc=>D.int c.2)=af
 |[]=>rfl
 |c::a=>by
  exact VL a
def jiA(a):tX (iC a)=af:=by
 show(iT (a.map λc=>D.int c.2)&&af)=af;rw[VL];rfl
def rz(n)(hlen:ao n<=63)(hb:∀i∈n,As i<=2^20):n4 [.dw (n.map D.int)]=.ok (.bl af):=by
 have H:∀k:Nat,k<=100->k<=ba:=λk hk=>jx ak
 obtain⟨x0,L8⟩:∃x0:Int,bc (.al (n.map D.int++[.int 0])) (.int 0)=.ok (.int x0):=by
   cases n with
   |nil=>exact⟨0,EH _ _⟩
   |cons c r=>exact⟨c,EH _ _⟩
 obtain⟨x1,hx1⟩:∃x1:Int,bc (.al (n.map D.int++[.int 0,.int 0])) (.int 1)=.ok (.int x1):=by
   match n with
   |[]|[_]=>exact⟨0,A6 _ _ _⟩
   |c::d::r=>exact⟨d,A6 _ _ _⟩
 have I:p9 (.dw (n.map D.int)) (.al [.int 0])=.ok (.al (n.map D.int++[.int 0])):=jI (by simp;exact H _ ak);have J:p9 (.dw (n.map D.int)) (.al [.int 0,.int 0])=.ok (.al (n.map D.int++[.int 0,.int 0])):=jI (by simp;exact H _ ak);obtain⟨lead,EI,Qb⟩:=Jx x0 0 ak;obtain⟨EJ,A7,tR⟩:=Jx x1 1 ak;obtain⟨y,u,a2,B,E,A8,N5⟩:=jlf lead;have p20:∀a:Sl,aq zU (cI 20) eI a=.ok (.int (10^20)):=λa=>jk aa aa (uc au)
 have p21:∀a:Sl,aq zU (cI 21) eI a=.ok (.int (10^21)):=λa=>jk aa aa (uc au)
 have p22:∀a:Sl,aq zU (cI 22) eI a=.ok (.int (10^22)):=λa=>jk aa aa (uc au)
 have p26:∀a:Sl,aq zU yb eI a=.ok (.int (10^26)):=λa=>jk aa aa (uc au)
 generalize hS:D.dw (n.map D.int)=S;rw[hS]at I J;generalize hc0:1+lead/10^20%3=v;generalize ML:1+lead/10^21%3=o;generalize tD:1+lead/10^22%3=q;have b0:1<=v/\v<=3:=by omega
 have b1:1<=o/\o<=3:=by omega
 have b2:1<=q/\q<=3:=by omega
 have MV:EB [v,o,q]:=⟨rfl,λc hc=>by
   simp at hc
   rcases hc with rfl|rfl|rfl<;>assumption⟩
 let e1 nm (s3 s4 s5 s6 s7 s8):Sl:=[.ai S,.ai (.int lead),nm,s3,s4,s5,s6,s7,s8,.un,.un,.un,.un,.un,.un,.un,.un]
 have MW:bJ (jf (aq jS (aq (aq jh (aq zU (cI 20) eI) iP) xL bB) a9) (jf (aq jS (aq (aq jh (aq zU (cI 21) eI) iP) xL bB) a9) (jf (aq jS (aq (aq jh (aq zU (cI 22) eI) iP) xL bB) a9) aT))) (e1 (.aG (iu y u a2 B E)) .un .un .un .un .un .un)=.ok (.al [.int v,.int o,.int q]):=
   wM (ja ((wZ aa (qH (jk aa (p20 _) (KG au)) aa ak)).trans (by rw[hc0])) (ja ((wZ aa (qH (jk aa (p21 _) (KG au)) aa ak)).trans (by rw[ML])) (ja ((wZ aa (qH (jk aa (p22 _) (KG au)) aa ak)).trans (by rw[tD])) jn))) (H _ (show 3<=100 by decide))
 have C7:∃g:Str,(∀z∈[y,u,g,B,E],isNm (.str z)=af)/\[((y,v):Hd),(u,o),(g,q),(B,1)].Nodup/\
     bS (fu (aU (aq (aq (aq jh (aq zU yb eI) iP) Xt bB) jS da)) (aU (aq (aq jB jS bc) (aq jB zy bc) iA))) (IZ 2 zy (aq (gm 2) jS bc)) bP (e1 (.aG (iu y u a2 B E)) (.ai (.al [.int v,.int o,.int q])) .un .un .un .un .un)=
       .ok (.nx (e1 (.aG (iu y u g B E)) (.ai (.al [.int v,.int o,.int q])) .un .un .un .un .un)):=by
   have t:=Yx (jJ (jk (f2:=cI 1) (env:=e1 (.aG (iu y u a2 B E)) (.ai (.al [.int v,.int o,.int q])) .un .un .un .un .un) (qH (f2:=cI 4) (jk (f1:=bR 1) aa (p26 _) (KG au)) aa ak) aa JG)) (jJ (jk (f1:=aq jB jS bc) (f2:=aq jB zy bc) (jk aa aa aa) (jk aa aa aa) (RM)));have nd4:=N5.nd;obtain⟨⟨n01,n02,n03⟩,⟨n12,n13⟩,n23⟩:=nd4
   cases hq:((lead/10^26%4==1)&&!(o==q))with
   |false=>
     rw[hq]at t;refine⟨a2,N5.nm,?_,(bZ t).trans aa⟩
     simp_all
   |true=>
     rw[hq]at t
     have tV:o≠q:=by
       simp at hq;exact hq.2
     refine⟨u,λz hz=>N5.nm z (by simp only[cM,tW,or_false]at hz ⊢;rcases hz with h|h|h|h|h<;>simp[h]),?_,(cq t).trans aa⟩
     simp_all
 obtain⟨g,hn,Lf,ssw⟩:=C7;obtain⟨l,ech,G',MX,lch⟩:=UA hn b0 b1 b2 Lf EJ;have MY:∀x∈cutD (n.map D.int) (ae 2) (ae 14),x∈n.map D.int:=λx hx=>DY (DX hx)
 have BU:(cutD (n.map D.int) (ae 2) (ae 14)).length<=14:=by
   delta cutD
   rw[Bo]
   have:HT.ck (n.map D.int).length (n.map D.int).length (ae 14)<=14:=by
     have:=HT.gX (n.map D.int).length (n.map D.int).length 14;rw[show(ae (14))=ae ((14:Nat):Int) from aa,this];omega
   omega
 have MZ:∀a:Sl,a[0]?=ae (.ai S)->zO jc (xr zy) (xr (cI 14)) DJ a=.ok (.al (cutD (n.map D.int) (ae 2) (ae 14))):=λa h0=>by
   refine JU (by delta jc bR;rw[h0]) (y6 aa) (y6 aa) ?_;rw[<-hS];rfl
 generalize w:D.int 0::cutD (n.map D.int) (ae 2) (ae 14)=m at*
 have L:∀x∈m,∃i:Int,x=.int i:=λx hx=>by
   rw[<-w]at hx;rcases cM.mp hx with e|e
   .exact⟨0,e⟩
   .obtain⟨i,_,rfl⟩:=dz.mp (MY x e);exact⟨i,rfl⟩
 have S5:ao m<=15:=by rw[<-w,gG];omega
 obtain⟨Ee,l1,ps,v10,v11,N,O,Q,U,Y,rfl,_⟩:=Z2 (body:=qu (g2 (gN 10) (gN 11)) A5)
   (λds a=>∃(ps:List (D×D))(v10 v11 N O Q U Y:Slot),a=lE S (.int lead) (iu y u g B E) (.al [.int v,.int o,.int q]) (.al (l.map bi)) l ps v10 v11 N O Q U Y/\gU [y,u,g,B,E] ps/\ao ps+ao ds<=30/\∀d∈ds,∃(j:Nat)(i:Int),d=.ap [.int j,.int i]/\j<=63)
   (by
     rintro d ds a ⟨ps,v10,v11,N,O,Q,U,Y,rfl,hp,hz,hd⟩;simp at hz;obtain⟨j,i,rfl,hj⟩:=hd d aE;obtain⟨S6,Gz,GA,GB,GC,GD,h1,h2,h3⟩:=jfU hn MV G' MX lch hp ak j hj i N O Q U Y;refine⟨lE S (.int lead) (iu y u g B E) (.al [.int v,.int o,.int q]) (.al (l.map bi)) l S6 (.ai (.int j)) (.ai (.int i)) Gz GA GB GC GD,?_,S6,.ai (.int j),.ai (.int i),Gz,GA,GB,GC,GD,rfl,h1,by omega,λx hx=>hd x (by simp[hx])⟩
     .rw[zA aa]
      exact h3)
   (jW 0 m) (lE S (.int lead) (iu y u g B E) (.al [.int v,.int o,.int q]) (.al (l.map bi)) l [] .un .un .un .un .un .un .un)
   ⟨[],.un,.un,.un,.un,.un,.un,.un,rfl,(λp hp=>by cases hp),by rw[Jy];simp;omega,λd hd=>by
     obtain⟨j,x,rfl,hj,hx⟩:=Vv m 0 d hd;obtain⟨i,rfl⟩:=L x hx
     exact⟨j,i,rfl,by omega⟩⟩
 refine qW ?_;refine(jm (jw (jo (ja (jk (jk aa (wM (ja aa jn) (H _ au)) I) aa L8) (ja aa jn)) aa EI))).trans ?_;refine(jm (zr (jo (ja aa jn) aa A8))).trans ?_;refine(jm (jw MW)).trans ?_;refine(jm ssw).trans ?_;refine(jm (env':=e1 (.ai (iu y u g B E)) (.ai (.al [.int v,.int o,.int q])) (.ai (.al (l.map bi))) .un .un .un .un) ?_).trans ?_
 .show jF 4 _ (e1 (.ai (iu y u g B E)) (.ai (.al [.int v,.int o,.int q])) .un .un .un .un .un)=_;exact jw (jo (ja (jo (ja (jk (jk aa (wM (ja aa (ja aa jn)) (H _ au)) J) aa hx1) (ja aa jn)) aa A7) (ja aa (ja aa jn))) aa ech)
 refine(jm (jw (qz (ja aa jn) (SN (.inl aa) MX)))).trans ?_;refine(jm (zr (qz (ja aa jn) aa))).trans ?_
 have MU:Ea 6 (ZS (yw "Calls" 1 jA (jb qv))) (e1 (.ai (iu y u g B E)) (.ai (.al [.int v,.int o,.int q])) (.ai (.al (l.map bi))) (.ai (xv l)) (.aG (.al (l.map bi))) .un .un)=.ok (iC l):=by
   show(ZS (yw "Calls" 1 jA (jb qv)) (e1 (.ai (iu y u g B E)) (.ai (.al [.int v,.int o,.int q])) (.ai (.al (l.map bi))) (.ai (xv l)) (.ai (.dw (l.map bi))) .un .un)>>=λd=>bh (tX d=af) (.ok d))=_;rw[show ZS (yw "Calls" 1 jA (jb qv)) (e1 (.ai (iu y u g B E)) (.ai (.al [.int v,.int o,.int q])) (.ai (.al (l.map bi))) (.ai (xv l)) (.ai (.dw (l.map bi))) .un .un)=.ok (iC l) from KO (Kb (ja aa jn) aa (SO (.inr aa) G' ak MX))];exact jI (jiA l)
 refine(jm (jw MU)).trans ?_;refine(jm aa).trans ?_;refine(jm (zr aa)).trans ?_
 have hen:FG (aq (bJ (jb jP)) (zO jc (xr zy) (xr (cI 14)) DJ) a9) (lE S (.int lead) (iu y u g B E) (.al [.int v,.int o,.int q]) (.al (l.map bi)) l [] .un .un .un .un .un .un .un)=.ok (jW 0 m):=by
   have h2:aq (bJ (jb jP)) (zO jc (xr zy) (xr (cI 14)) DJ) a9 (lE S (.int lead) (iu y u g B E) (.al [.int v,.int o,.int q]) (.al (l.map bi)) l [] .un .un .un .un .un .un .un)=.ok (.al m):=by
     refine(jk (wM (ja aa jn) (H _ au)) (MZ _ aa) (xV (by simp;exact H _ ak))).trans ?_;rw[<-w];rfl
   show(aq _ _ _ _>>=_)=_;rw[h2];rfl
 refine(jm ((zX hen).trans l1)).trans ?_
 let e9 s9:Sl:=[.ai S,.ai (.int lead),.ai (iu y u g B E),.ai (.al [.int v,.int o,.int q]),.ai (.al (l.map bi)),.ai (xv l),.aG (.al []),.ai (iC l),.aG (.al (ps.map rl)),s9,v10,v11,N,O,Q,U,Y]
 have tl:∀s9,wL "Calls" "told" 1 ql jK mY (e9 s9)=.ok (.al (l.map bi)):=λs9=>wK aa au aa aa (SQ G' ak)
 have S7:jl 1 qI (jb (cI 60)) (e9 (.aG (.al (l.map bi))))=.ok (.al ((many 60).map bi)):=jo (ja aa jn) aa (SS au);have S8:(many 60).length<=60:=by rw[uv];decide
 refine(jm (zr (tl .un))).trans ?_
 have t60:wL "Calls" "told" 1 ql (ZS (yw "Calls" 1 jA (jf (jl 1 qI (jb (cI 60))) aT))) mY (e9 (.aG (.al (l.map bi))))=.ok (.al ((many 60).map bi)):=
   wK (KO (Kb (ja S7 jn) aa (SO (.inl aa) (SV au) S8 (jiE 60)))) au aa aa (SQ (SV au) S8)
 refine(jm ((bZ (jJ (jk t60 S7 (vy _).2))))).trans ?_;have t9:eY (bt (aU (cY "list" (gm 9)))) (eY (aU (aq (gm 9) jV iA)) (bt (aU (AW ["Calls"] jK)))) (e9 (.aG (.al (l.map bi))))=.ok ag:=ya (qG (b:=true) (jJ aa)) (ya (jJ (jk aa aa (vy l).2)) (qG (b:=true) (jJ aa)));refine(jm ((bZ t9))).trans ?_;refine(jm (wa aa aa (dZ (by rw[cX];omega) fN))).trans ?_;exact j7 (jk (tl _) aa (vy l).1)
end G
structure PySem.W.Fast:Prop where
 (tw14116676905829014310 te5275217393019150308 tw2278220487424269891 tw1487218278257755212 tw13289134008222656382 tw1608504947555626953 tw15849613323443066533 tw13224375919469838931 tw11162308983068304499 tw5433358797951668917 tw14473784055999118623 tw5035290731440947471 tw15971203479426020320 tw7327042961107637251 tw3249141536621220452 tw7167761750883803668 tw11297071901269906177 tw3023099992839799158 tw11930763771957702646 tw8444553431898937516 tw935171978957463184 tw2591760497318382695 tw11143982126500823712 tw16499407484540142164 tw13809435288527721732 tw3609194566553035378 tw8387971273525243303 tw14819011667395518909 tw1585685643077827866 tw17179004568671421054 tw16816945504850271124 tw11881248328933551940 tw2479770023391927175 tw6582597075974450884 tw14732607759408127999 tw6572400922866124565 tw7224898089426359934 tw8110412651287653591 tw1920979224224022235 tw9576372226670660401 tw4778933452370051623 tw12859732833663372672 tw1449498146468646942 te16759102232652409874 te16471762878701722816 te6154572895945872292 te2250064823127014939 te9302229680875000331 te16784702419952281455 te16458255599193386072 te8508410295906614896 te5789277155449021376 te14009014007124789333 te13356010270905219361 te4711850662065067442 te13485278357512398516 te8110845087035110366 te14267330046352048276 te15090299861669615333 te16361292345680206339 te5738580632804701986 te17284617114949363960 te16419586667585303256 te13106390698675558629 te15906628077454192062 te6891388354222349784 te8541256080337288243 te17352254112982004657 te2134872149943044171 te16382531827967114622 te7146906793160612538 te1741460090123710267 te6715945510373189956 te12434992766495222962 te6258790615418480252 te9904921029485627609 te1659484217940975766 te8875088415845395657 te5127070818779093457 te5515830244067871679 te14534195950711709524 te13233814047202799455 te1794043537983634008 te14120888708358333479 te11453629186160311592 te10643717185951006752 te2333711329153576332 te12869946398456836687 te18205662653891244468 te9219015308473307145 te4221655562936096138 te10850425035829009313 te617957693963399447 te1091011175388726339 te9990593512142226950 te7205174874198105047 te3453902269588814336 te583791112089700989 te17911909725124775447 te2369503021035131525 te6149170482600217017 te17699898751201306694 te112008161351769281 te16188050423900592996 te6809039938669273287 te1639941680618608063 te6804535446795030439 te14423977803075370424 te878230372894987486 te7949558162695322460 te3319584164627920859 te14921695915716118732 te10525867883516448200 te9687502948323166674 te854438589411542892 te9663349177007539357 te14853642415643837785 te2970497550634473941 te16220096504131407309 te7812768742789808489 te8671713615218101823 te869366146321060752 te10019897887296906897 te5340790223277127570 te3112309878615762669 te13714090682696797091 te14327905669633690902 te17142139667922930726 te6701495010820948411 te5797221661503202472 te6482790465227018538 te7550543874002424777 te4130499793257131289 te14128819872537903065 te4521915551414760386 te12441377898280087655 te14232740824603444477 te8976304939131107404 te7072567002503679109 te8906268038419035354 te8166147791292197963 te2516983277653747569 te16925112412492322430 te13423487659664292472 te16313193715684787120 te16775325373881973477 te11936455815530821214 te5936627759986539184 te6395544381383948020 te6695390284163934917 te10540580106201343618 te13157688697298719225 te16109839010457121660 te1357782893734768955 te7781640152963355161 te15536856752843652761 te2074833309382987985 te1526270741963514119 te7976531821344620536 te2076354004803010177 te5282113111095695866 te92311548647411841 te3224015256835160890 te3244368853212372697 te2243914082334652421 te16292794029671519626 te11852623467912089505 te12456006798202161172 te16911377648248716824 te4047286235238689770 te9348487898946916588 te337496870045447988 te2329082622730334634 te4146373198220832936 te16203435735051220778 te2962307486571793119 te1352217143568588932 te6712734542101286881 te11112756476900237570 te2093610103228149995 te15702705100138051227 te18248087776661384101 te16534797412951341171 te5628199508636817955 te7368202812690220324 te7568664474254949613 te16990536218126963329 te3828406612880455273 te3321906879570459137 te8125681140720885731 te10220232292365676064 te8109097650134485713 te17124303970017330734 te11111412700756418724 te18091190027389136127 te12739308931766688528 te13575341492933989988 te11947923628095733660 te17873271438799271911 te11555452466813081180 te13914745125386794030 te9629930214852151454 te8793024423882110838 te3433419085180045882 te2353212703416738039 te13595044120200630280 te15019095086410720380 te55844782693339060 te2691921857384368282 te10662585751884694316 te12441214714501921635 te15065403203853465370 te6221699582105709567 te17056754914819024442 te9777752090367675339 te16094885005156621960 te16107930215980906704 te9087985110815018453 te15039509178365529772 te1350796495844631772 te3357873096128673867 te906204161204906599 te10823097266663306161 te11438149460725318438 te14315248987598487608 te12508106006874205481 te14659956803912221913 te3601850349007664977 te3179747887377174623 te15437852120104027332 te7297719107607373577 te12828726708129866746 te2207143263418222277 te6321642247429444295 te8494678747116097088 te4002382778455929193 te16497176047382899796 te7835584649636477288 te2899760961943031295 te5739269286929869700 te13567458135795058298 te2977981941831495425 te3280762526724578584 te16513325840133763823 te3550987762628947423 te14078705459367814968 te8639715994423777385 te1999137818417921371 te15035536301646397355 te13108070937836024424 te15436778522734305558 te17608020274571504656 te11474525694061078787 te14601055540991120224 te157849950404527133 te7055330410927274813 te11412421599590319311 te17209225211403960247 te4124364870401326916 te10383187026961569798 te8704436388060070718 te6730025062938145989 te10213125672596055850 te3204664998664278790 te11968276422765493472 te15458640043318021564 te16033715677490380445 te8653263600753412104 te2150861029325148206 te15509511025168236478 te17104355586743807368 te8956883303174793107 te10520225919670279162 te15140011962096454726 te13852356544138154352 te6227978631118561111 te3334025331792582676 te18342303476259003220 te4868301835087222191 te16892895495502756321 te9669974878538804834 te18220059305932305373 te5626490333273873791 te7559292488096634830 te13691021424379862439 te5796854947391472202 te2191956863900902784 te8409734498823325170 te15715087107633521535 te16112785629394583274 te11323433084457190772 te12971648975399199997 te2054969229888643592 te4639615275197680889 te11308656695533870400 te8718068194022811023 te1563281264718709810 te16938976964680294324 te1870452177736381856 te6797483459976720827 te12732044241656988365 te1250427639168720567 te16347581249315786849 te14160135642838956219 te6916032851628900766 te14881827275477343146 te12548436124505494580 te13933165925505735213 te6563258082203808147 te4066617998768699749 te7803892796416234777 te16776975534950641124 te11876008507707762246 te5125651099447858121 te7990954544825632786 te16023848572158915897 te273538420482171191 te7779032824830530001 te12993024569516052554 te474555725326396422 te16163614665542486925 te10310944682443744303 te5225083538016462106 te8175041660756927310 te10924996197587391283 te103932465437891585 te2255799324340103289 te11784280761395648166 te935786405865981252 te8110310666494639811 te7842645759514313864 te13718206541511866942 te5496437166593024741 te8286622875116937965 te8874232627068771917 te7635823682602923408 te16177524217097027350 te6123537151126919105 te13176948676823134289 te2004725151120432876 te8881705249708549500 te17941700861548139142 te14652163437909116111 te9292083145079431927 te3749798531540335532 te18133216558091794041 te7032861185861210578 te5043967625156540879 te2343199288626245125 te14325462092815546556 te3493410533696832262 te9992863645486060471 te5544460860717380371 te9788092142961957809 te15337858069564092953 te6460579965837436204 te12794272930729804145 te3757344187101425881 te12204962097502591525 te13930971390125746609 te2269766908766095154 te16120913080648299921 te12858447970660261115 te2185771472435758322 te13778145314939267233 te14201189120630975622 te8184919443600547217 te9111913591989541278 te15516672655256738401 te8939462697137884512 te7121482758760474586 te3835833407171091732 te14384073529743980409 te11765728284886159117 te14123727357049583480 te8693655896372983633 te15790197742975819563 te5734156173432535560 te354578922876386153 te7093532835320277247 te7924373678466604694 te10422405412012917936 te4007790079943030826 te14984007055268641919 te8831001424514058726 te4023139634453682552 te9476218641174261850 te7222182650603032196 te16392583739228686671 te1874880458047286998 te18195406159396897758 te831272833912252514 te2677044051757778817 te8859166590878769217 te12014047036743021240 te17538134201519948822 te9482154864669361954 te12760273970191492640 te12091851996082537302 te4263724316260331673 te6318416399750498661 te16563246772721172171 te18088091146181417977 te13240244318836573594 te13138960140932121584 te449471677814647355 te4266184078083349797 te5011737541087652281 te13794107151886474677 te15900574259785440044 te10588197931631009808 te18280562163094685874 te12383769996483980666 te3440336846262879808 te5317371025711873999 te8465539361511910354 te2662620310711050413 te17896451769219544505 te14603889688215098006 te7549803205595716130 te4553689140759022498 te12026501011741539702 te9666654833784009907 te4694276418972026873 te15384689312357333634:True)
namespace PySem.W.Fast
theorem te14375882206998793643:True:=⟨⟩
theorem te15783352032668545355:True:=⟨⟩
theorem te1525145895437212507:True:=⟨⟩
theorem te11862750359106271114:True:=⟨⟩
theorem te7752316903136530586:True:=⟨⟩
theorem te9696313613164959279:True:=⟨⟩
theorem te18139236501178666203:True:=⟨⟩
theorem te13046138296744546160:True:=⟨⟩
theorem te15420739715333076925:True:=⟨⟩
end PySem.W.Fast
open PySem PySem.W PyProof.Rows
set_option maxHeartbeats 0 in
theorem PySem.Challenge.cw_endwise_k52_calls_paper_holds : PySem.Challenge.rw_endwise_k52_calls_paper.Holds := by
  w_on; o_law; k_head; (case hw => w_witness2)
  k_fill
  refine M.pP (l := PySem.Challenge.rw_endwise_k52_calls_paper) (n := 63) (k := 71) (x := "_law_script") (F := G.n4) rfl (by decide) rfl ⟨rfl, by decide, by decide, rfl⟩ (fun w h Y => PySem.W.kIn_of Y) ?F G.rz
  case F =>
    intro w mg fa h KX Gn hmg
    refine' G.all_mk KX Gn hmg _ _ _ _ _ _ _ _ _ _ _ _ _ _ _ _ _ _ _ _ _ _ _ _ _ _ _ _ _ _ _ _ _ _ _ _ _ _ _ _ _ _ _ _ _ _ _ _ _ _ _ _ _ _ _ _ _ _ _ _ _ _ _ _ _ _ _ _ _ _ _ _ _ _ _ _ _ _ ?e0 _ _ _ _ ?e1 _ _ _ _ _ _ _ _ _ _ _ _ _ _ _ _ _ _ _ _ _ _ _ _ _ _ _ _ _ _ _ _ _
    (case e0=>k_is)
    (case e1=>k_is)
    any_goals first|exact ⟨_,by k_is,⟨_,_,_,_,_,_,_,_,_,by k_is,by k_is⟩,by k_is⟩|exact ⟨_,by k_is,by k_is,⟨_,_,_,_,_,_,_,_,_,by k_is,by k_is⟩,by k_is⟩|k_is|exact ⟨_,by k_is⟩|kernel_rfl|exact ⟨by kernel_rfl,by k_is,by k_is,by k_is,by k_is,by k_is,by k_is,by k_is⟩|k_exc|((repeat refine List.forall_mem_cons.2 ⟨by kernel_rfl,?_⟩);exact fun _ h=>nomatch h)
